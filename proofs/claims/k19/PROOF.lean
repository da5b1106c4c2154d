import PyProof.Rows.All
import Wide.All
import OpenK.AllK
import Wide.FinOn
import Lean
import PyProof.EqAt
import PyProof.EqKinds
import PyProof.TupleCall
import PySem.Challenge.RW_cuetimer_k19_whole_rows_of_cues
set_option Elab.async false
set_option linter.all false
set_option maxRecDepth 100000
set_option maxHeartbeats 4000000
namespace L2
open PySem PySem.Spec PyProof.Rows

abbrev Key := Sum Int Str
def keyIs : Key -> Value -> Bool
 | .inl k, v => Value.isInt k v
 | .inr x, v => Value.isStrOf x v
def keyH (w : World) : Key -> Int
 | .inl k => hashInt k
 | .inr x => hashStr w x
theorem a2j : ∀ {k : Key} {v : Value}, keyIs k v = true -> (∃ i t, k = Sum.inl i /\ v = Value.int i t) \/ (∃ x t, k = Sum.inr x /\ v = Value.str x t)
 | .inl i, v, h => by
  obtain ⟨t, e⟩ := Value.isInt_shape (k := i) (v := v) h
  exact .inl ⟨i, t, rfl, e⟩
 | .inr x, v, h => by
  obtain ⟨t, e⟩ := Value.isStrOf_shape (x := x) (v := v) h
  exact .inr ⟨x, t, rfl, e⟩
theorem key_ll (a b : Int) : decide ((Sum.inl a : Key) = Sum.inl b) = (a == b) := by
 by_cases e : a = b
 ·subst e; simp
 ·have h : ¬ (Sum.inl a : Key) = Sum.inl b := fun q => e (Sum.inl.inj q)
  rw [decide_eq_false h]
  exact (beq_eq_false_iff_ne.mpr e).symm
theorem key_rr (a b : Str) : decide ((Sum.inr a : Key) = Sum.inr b) = decide (a = b) := by
 by_cases e : a = b
 ·subst e; simp
 ·have h : ¬ (Sum.inr a : Key) = Sum.inr b := fun q => e (Sum.inr.inj q)
  rw [decide_eq_false h, decide_eq_false e]
theorem key_lr (a : Int) (b : Str) : decide ((Sum.inl a : Key) = Sum.inr b) = false := decide_eq_false (fun q => nomatch q)
theorem key_rl (a : Str) (b : Int) : decide ((Sum.inr a : Key) = Sum.inl b) = false := decide_eq_false (fun q => nomatch q)

def mixKind (prog : Program) (w : World) : PySem.KeyKind prog w Key where
 is := keyIs
 hash := keyH w
 inj := fun v a b ha hb => by
  rcases a2j ha with ⟨i, t, rfl, rfl⟩ | ⟨x, t, rfl, rfl⟩
  ·rcases a2j hb with ⟨j, u, rfl, e⟩ | ⟨y, u, rfl, e⟩
   ·injection e with e1 _; rw [e1]
   ·exact nomatch e
  ·rcases a2j hb with ⟨j, u, rfl, e⟩ | ⟨y, u, rfl, e⟩
   ·exact nomatch e
   ·injection e with e1 _; rw [e1]
 byValue := fun k v h => by
  rcases a2j h with ⟨i, t, rfl, rfl⟩ | ⟨x, t, rfl, rfl⟩ <;> rfl
 pyHash := fun hv h => by
  rcases a2j hv with ⟨i, t, rfl, rfl⟩ | ⟨x, t, rfl, rfl⟩
  ·exact wpAny_pyHash_int h
  ·exact wpAny_pyHash_str h
 eqBool := fun hu hv h => by
  rcases a2j hu with ⟨i, t, rfl, rfl⟩ | ⟨x, t, rfl, rfl⟩
  ·rcases a2j hv with ⟨j, u, rfl, rfl⟩ | ⟨y, u, rfl, rfl⟩
   ·rw [key_ll] at h; exact wpAny_eqBool_int h
   ·rw [key_lr] at h; exact SeqAt.EqAt.int_str i t y u _ _ _ _ h
  ·rcases a2j hv with ⟨j, u, rfl, rfl⟩ | ⟨y, u, rfl, rfl⟩
   ·rw [key_rl] at h; exact SeqAt.EqAt.str_int x t j u _ _ _ _ h
   ·rw [key_rr] at h; exact wpAny_eqBool_str h
 «strs» := fun k x t v h => by
  rcases a2j h with ⟨i, u, rfl, e⟩ | ⟨y, u, rfl, e⟩
  ·exact nomatch e
  ·injection e with e1 _
   subst e1
   cases v <;> rfl

end L2

namespace L2
open PySem PySem.Spec PyProof.Rows

inductive V where
 | non | bl (b : Bool) | int (i : Int) | str (x : Str) | byt (b : Array UInt8) | flt (b : UInt64) | ref (a : Addr) | ty (n : String)
 deriving DecidableEq

def RelV : V -> Value -> Prop
 | .non, u => u = Value.none
 | .bl b, u => u = Value.bool b
 | .int i, u => ∃ t, u = Value.int i t
 | .str x, u => ∃ t, u = Value.str x t
 | .byt b, u => ∃ t, u = Value.bytes b t
 | .flt b, u => ∃ t, u = Value.float b t
 | .ref a, u => u = Value.ref a
 | .ty n, u => u = Value.type n

abbrev Vals : List V -> List Value -> Prop := Paired RelV
theorem Vals.length {xs : List V} {us : List Value} (r : Vals xs us) : xs.length = us.length := Paired.length r
theorem Vals.get : ∀ {xs : List V} {us : List Value} {i : Nat} {x : V}, Vals xs us -> xs[i]? = some x -> ∃ u, us[i]? = some u /\ RelV x u
 | _, _, _, _, .nil, e => by simp at e
 | _, _, 0, _, .cons r _, e => by simp at e; subst e; exact ⟨_, rfl, r⟩
 | _, _, i + 1, x, .cons _ t, e => by
  obtain ⟨u, h1, h2⟩ := Vals.get (i := i) (x := x) t (by simpa using e)
  exact ⟨u, by simpa using h1, h2⟩
theorem Vals.append : ∀ {xs ys : List V} {us ws : List Value}, Vals xs us -> Vals ys ws -> Vals (xs ++ ys) (us ++ ws)
 | _, _, _, _, .nil, s => s
 | _, _, _, _, .cons r t, s => .cons r (Vals.append t s)
theorem Vals.take : ∀ {xs : List V} {us : List Value} (n : Nat), Vals xs us -> Vals (xs.take n) (us.take n)
 | _, _, 0, _ => .nil
 | _, _, _ + 1, .nil => .nil
 | _, _, n + 1, .cons r t => .cons r (Vals.take n t)
theorem Vals.drop : ∀ {xs : List V} {us : List Value} (n : Nat), Vals xs us -> Vals (xs.drop n) (us.drop n)
 | _, _, 0, r => r
 | _, _, _ + 1, .nil => .nil
 | _, _, n + 1, .cons _ t => Vals.drop n t
def RelO : Option V -> Option Value -> Prop
 | some v, some u => RelV v u
 | none, none => True
 | _, _ => False
def KV {κ : Type} : List (κ × V) -> List (κ × Value) -> Prop := Paired fun (p : κ × V) (q : κ × Value) => p.1 = q.1 /\ RelV p.2 q.2

def kV : Key -> V
 | .inl i => .int i
 | .inr x => .str x

inductive HO where
 /-- a list -/
 | lst (xs : List V)
 /-- a tuple (never changes) -/
 | tup (xs : List V)
 /-- a dict whose keys are ints and texts; one whose keys are tuples of ints and texts (the empty one is both) -/
 | dK (kvs : List (Key × V)) | dT (kvs : List (List Key × V))
 /-- a set of ints: its members, its size -/
 | set (S : Int -> Bool) (n : Nat)
 /-- an instance of the class at C, its dict at dx, its attributes -/
 | ins (C dx : Addr) (fs : List (Str × V))
 /-- the dict of the instance at x -/
 | own (x : Addr)
 /-- the dict of an exception -/
 | xd (fs : List (Str × V))
 /-- a bound method, f of x -/
 | met (f x : Addr)
 /-- a range object lo, lo + 1, .. below hi -/
 | rng (lo hi : Int)
 /-- a thing that is known to the object (the script; a dict while a loop walks it): read, never written while it is so -/
 | frz (o : Obj) (u : HO)
 /-- a code object's table -/
 | tbl (ps : Array Value)
 /-- any other thing, by what is true of its one object (a def of one's own: SetO a S n := HO.ext fun h => ..) -/
 | ext (φ : Heap -> Prop)

abbrev Hp := Addr -> Option HO
def upd (H : Hp) (a : Addr) (o : HO) : Hp := fun b => if b = a then some o else H b
theorem a0w {H : Hp} {a : Addr} {o : HO} : upd H a o a = some o := by unfold upd; rw [if_pos rfl]
theorem upd_ne {H : Hp} {a b : Addr} {o : HO} (h : b ≠ a) : upd H a o b = H b := by unfold upd; rw [if_neg h]
theorem ne_of {H : Hp} {a b : Addr} {o u : HO} (h : H a = some o) (h' : H b = some u) (d : o ≠ u) : a ≠ b := by
 intro e; subst e; rw [h] at h'; exact d (Option.some.inj h')
theorem a0q {H : Hp} {a b : Addr} {o : HO} (h : H a = some o) (h' : H b = none) : a ≠ b := by
 intro e; subst e; rw [h] at h'; cases h'

section
variable (P : Program) (w : World)
def ObjOk (H : Hp) (h : Heap) (a : Addr) : HO -> Prop
 | .lst xs => xs.length <= sizeLine /\ ∃ (its : List Value) (n : Nat), Vals xs its /\ h.get? a = some { cls := .type "list", data := .seq its.toArray n }
 | .tup xs => xs.length <= sizeLine /\ ∃ its : List Value, Vals xs its /\ IsTup h a its.toArray
 | .dK kvs => kvs.length <= sizeLine /\ (a == sysModules) = false /\ ∃ vs, KV kvs vs /\ h.DictOf (mixKind P w) a vs
 | .dT kvs => kvs.length <= sizeLine /\ (a == sysModules) = false /\ ∃ xs : List (List Key × Addr × Value),
   Paired (fun (p : List Key × V) (q : List Key × Addr × Value) => p.1 = q.1 /\ H q.2.1 = some (.tup (p.1.map kV)) /\ RelV p.2 q.2.2) kvs xs /\
   ∃ o es ep, h.get? a = some o /\ o.ExactDict /\ o.data = .dict es ep /\ es.toList = xs.map (entryOfKey (tupleKind (mixKind P w))) /\ (xs.map (·.1)).Nodup
 | .set S n => h.SetOf (intKind P w) a S n
 | .ins C dx fs => H dx = some (.own a) /\ fs.length <= 1000 /\ dx ≠ a /\ h.get? a = some (PySem.W.instObj C dx) /\
   ∃ mA, h.Ns1 dx mA /\ (∀ f, RelO (fs.lookup f) (mA f)) /\ PySem.Within mA (fs.map (·.1))
 | .own _ => ∃ o, h.get? a = some o
 | .xd fs => ∃ mA, h.Ns1 a mA /\ ∀ f, RelO (fs.lookup f) (mA f)
 | .rng lo hi => ∃ t u v, h.get? a = some { cls := .type "range", data := .fields #[.int lo t, .int hi u, .int 1 v] }
 | .frz o u => h.get? a = some o /\ ObjOk H h a u
 | .tbl ps => h.get? a = some { cls := .none, data := .fields ps }
 | .met f x => h.get? a = some (PySem.W.methodObj (.ref f) (.ref x))
 | .ext φ => φ h /\ (∃ o, h.get? a = some o) /\ ∀ h1 h2 : Heap, φ h1 -> (∀ o, h1.get? a = some o -> h2.get? a = some o) -> φ h2
def HOk (H : Hp) (h : Heap) : Prop := ∀ a o, H a = some o -> ObjOk P w H h a o
end

section
variable {P : Program} {w : World} {H H' : Hp} {h h' : Heap} {a : Addr} {o : HO}
theorem ObjOk.lt (x : ObjOk P w H h a o) : a < h.objs.size := by
 cases o with
 | lst xs => obtain ⟨_, _, _, _, e⟩ := x; exact Heap.lt_size e
 | tup xs => obtain ⟨_, _, _, p⟩ := x; exact p.lt
 | dK kvs => obtain ⟨_, _, _, _, o, _, _, e, _⟩ := x; exact Heap.lt_size e
 | dT kvs => obtain ⟨_, _, _, _, o, _, _, e, _⟩ := x; exact Heap.lt_size e
 | set S n => obtain ⟨o, _, _, _, e, _⟩ := x; exact Heap.lt_size e
 | ins C dx fs => obtain ⟨_, _, _, e, _⟩ := x; exact Heap.lt_size e
 | own y => obtain ⟨_, e⟩ := x; exact Heap.lt_size e
 | xd fs => obtain ⟨_, ⟨_, _, _, e, _⟩, _⟩ := x; exact Heap.lt_size e
 | rng lo hi => obtain ⟨_, _, _, e⟩ := x; exact Heap.lt_size e
 | frz ob u => obtain ⟨e, _⟩ := x; exact Heap.lt_size e
 | tbl ps => exact Heap.lt_size (show h.get? a = some _ from x)
 | met f y => exact Heap.lt_size (show h.get? a = some _ from x)
 | ext φ => obtain ⟨_, ⟨_, e⟩, _⟩ := x; exact Heap.lt_size e
theorem Paired.mapP {α β : Type} {F G : α -> β -> Prop} : ∀ {l₁ : List α} {l₂ : List β}, Paired F l₁ l₂ -> (∀ a b, F a b -> G a b) -> Paired G l₁ l₂
 | _, _, .nil, _ => .nil
 | _, _, .cons r t, f => .cons (f _ _ r) (Paired.mapP t f)
theorem ObjOk.stay (x : ObjOk P w H h a o) (k : ∀ b u, (b = a \/ H b = some (.own a)) -> h.get? b = some u -> h'.get? b = some u)
  (ho : ∀ b, H b = some (.own a) -> H' b = some (.own a)) (ht : ∀ b xs, H b = some (.tup xs) -> H' b = some (.tup xs)) : ObjOk P w H' h' a o := by
 induction o with
 | lst xs => obtain ⟨z, its, n, r, e⟩ := x; exact ⟨z, its, n, r, k _ _ (.inl rfl) e⟩
 | tup xs => obtain ⟨z, its, r, ob, e, c⟩ := x; exact ⟨z, its, r, ob, k _ _ (.inl rfl) e, c⟩
 | dK kvs => obtain ⟨z, y, vs, r, ob, es, ep, e, c⟩ := x; exact ⟨z, y, vs, r, ob, es, ep, k _ _ (.inl rfl) e, c⟩
 | dT kvs =>
  obtain ⟨z, y, xs, r, ob, es, ep, e, c⟩ := x
  exact ⟨z, y, xs, Paired.mapP r fun p q z => ⟨z.1, ht _ _ z.2.1, z.2.2⟩, ob, es, ep, k _ _ (.inl rfl) e, c⟩
 | set S n => obtain ⟨ob, es, ep, t, e, c⟩ := x; exact ⟨ob, es, ep, t, k _ _ (.inl rfl) e, c⟩
 | ins C dx fs =>
  obtain ⟨d, z, ne, e, mA, ⟨od, es, ep, e2, c⟩, r⟩ := x
  exact ⟨ho _ d, z, ne, k _ _ (.inl rfl) e, mA, ⟨od, es, ep, k _ _ (.inr d) e2, c⟩, r⟩
 | own y => obtain ⟨ob, e⟩ := x; exact ⟨ob, k _ _ (.inl rfl) e⟩
 | xd fs => obtain ⟨mA, ⟨od, es, ep, e, c⟩, r⟩ := x; exact ⟨mA, ⟨od, es, ep, k _ _ (.inl rfl) e, c⟩, r⟩
 | rng lo hi => obtain ⟨t, u, v, e⟩ := x; exact ⟨t, u, v, k _ _ (.inl rfl) e⟩
 | frz ob u ih => obtain ⟨e, q⟩ := x; exact ⟨k _ _ (.inl rfl) e, ih q⟩
 | tbl ps =>
  have e : h.get? a = some { cls := .none, data := .fields ps } := x
  show h'.get? a = some { cls := .none, data := .fields ps }
  exact k a _ (.inl rfl) e
 | met f y =>
  have e : h.get? a = some (PySem.W.methodObj (.ref f) (.ref y)) := x
  show h'.get? a = some (PySem.W.methodObj (.ref f) (.ref y))
  exact k a _ (.inl rfl) e
 | ext φ => obtain ⟨p, ⟨o, e⟩, st⟩ := x; exact ⟨st _ _ p fun o q => k _ _ (.inl rfl) q, ⟨o, k _ _ (.inl rfl) e⟩, st⟩
theorem HOk.lt (x : HOk P w H h) (e : H a = some o) : a < h.objs.size := (x a o e).lt
theorem HOk.fresh (x : HOk P w H h) (e : h.objs.size <= a) : H a = none := by
 cases q : H a with
 | none => rfl
 | some u => exact absurd (Nat.lt_of_lt_of_le (x.lt q) e) (Nat.lt_irrefl _)
theorem HOk.kept (x : HOk P w H h) (k : ∀ b u, h.get? b = some u -> h'.get? b = some u) : HOk P w H h' := fun a o e =>
 (x a o e).stay (fun b u _ q => k b u q) (fun _ q => q) fun _ _ q => q
theorem HOk.laid (x : HOk P w H h) (k : ∀ b u, h.get? b = some u -> h'.get? b = some u) (hp : h.objs.size <= a) (new : ObjOk P w (upd H a o) h' a o) : HOk P w (upd H a o) h' := fun b u e => by
 have hn := x.fresh hp
 by_cases hb : b = a
 ·subst hb; rw [a0w] at e; cases e; exact new
 ·rw [upd_ne hb] at e
  exact (x b u e).stay (fun c v _ q => k c v q) (fun c q => by rw [upd_ne (a0q q hn)]; exact q) fun c xs q => by rw [upd_ne (a0q q hn)]; exact q
end

def Rd (H : Hp) (a : Addr) (u : HO) : Prop := H a = some u \/ ∃ o, H a = some (.frz o u)
theorem Rd.ok {P : Program} {w : World} {H : Hp} {h : Heap} {a : Addr} {u : HO} (r : Rd H a u) (x : HOk P w H h) : ObjOk P w H h a u := by
 rcases r with r | ⟨o, r⟩
 ·exact x a u r
 ·obtain ⟨_, q⟩ := x a _ r
  exact q
def Mut : Option HO -> Prop
 | some (.lst _) => True
 | some (.dK _) => True
 | some (.dT _) => True
 | some (.set _ _) => True
 | some (.ins _ _ _) => True
 | some (.ext _) => True
 | _ => False
section
variable {P : Program} {w : World} {H : Hp} {h h' : Heap} {x e : Addr} {o' : HO}
theorem HOk.write (ok : HOk P w H h) (mu : Mut (H x)) (he : e = x \/ H e = some (.own x)) (k : ∀ b u, b ≠ e -> h.get? b = some u -> h'.get? b = some u) (heo : ∃ u, h'.get? e = some u)
  (new : ObjOk P w (upd H x o') h' x o') : HOk P w (upd H x o') h' := fun b u q => by
 have nown : ∀ c y, H c = some (.own y) -> c ≠ x := fun c y r z => by subst z; rw [r] at mu; exact mu
 have ntup : ∀ c xs, H c = some (.tup xs) -> c ≠ x := fun c xs r z => by subst z; rw [r] at mu; exact mu
 by_cases hb : b = x
 ·subst hb; rw [a0w] at q; cases q; exact new
 ·rw [upd_ne hb] at q
  by_cases hbe : b = e
  ·have q' : H b = some (.own x) := by
    rcases he with z | z
    ·exact absurd (hbe.trans z) hb
    ·rw [hbe]; exact z
   rw [q] at q'; cases q'
   obtain ⟨v, hv⟩ := heo
   exact ⟨v, by rw [hbe]; exact hv⟩
  ·refine (ok b u q).stay (fun c v hc r => k c v ?_ r) (fun c r => by rw [upd_ne (nown c b r)]; exact r) fun c xs r => by rw [upd_ne (ntup c xs r)]; exact r
   rcases hc with rfl | hc
   ·exact hbe
   ·rintro rfl
    rcases he with z | z
    ·exact nown c b hc z
    ·rw [hc] at z; cases z; exact hb rfl
end

structure Un (fs ex : List Addr) (H H' : Hp) (h h' : Heap) : Prop where
 keep : ∀ b o, h.get? b = some o -> H b = none -> b ∉ fs -> b ∉ ex -> h'.get? b = some o
 slot : ∀ b o, h.get? b = some o -> H b = none -> b ∈ fs -> b ∉ ex -> ∃ sl, h'.get? b = some { o with slots := sl }
 free : ∀ b o, h.get? b = some o -> H b = none -> b ∉ ex -> H' b = none
 there : ∀ b o, h.get? b = some o -> b ∉ ex -> ∃ o', h'.get? b = some o'
 tups : ∀ b xs, H b = some (.tup xs) -> H' b = some (.tup xs)
 frzs : ∀ b o u, H b = some (.frz o u) -> H' b = some (.frz o u)
 tbls : ∀ b ps, H b = some (.tbl ps) -> ∃ more, H' b = some (.tbl (ps ++ more))
section
variable {fs fs' ex ex' : List Addr} {H H1 H2 : Hp} {h h1 h2 h' : Heap} {a x e : Addr} {o : HO}
theorem Un.any (u : Un fs ex H H1 h h1) {b : Addr} {ob : Obj} (q : h.get? b = some ob) (n : H b = none) (hx : b ∉ ex) : ∃ sl, h1.get? b = some { ob with slots := sl } := by
 by_cases hb : b ∈ fs
 ·exact u.slot b ob q n hb hx
 ·exact ⟨ob.slots, u.keep b ob q n hb hx⟩
theorem Un.kept (k : ∀ b u, h.get? b = some u -> h'.get? b = some u) : Un fs ex H H h h' :=
 ⟨fun b ob q _ _ _ => k b ob q, fun b ob q _ _ _ => ⟨ob.slots, k b ob q⟩, fun _ _ _ n _ => n, fun b ob q _ => ⟨ob, k b ob q⟩, fun _ _ q => q, fun _ _ _ q => q, fun _ ps q => ⟨#[], by rw [q]; simp⟩⟩
theorem Un.refl : Un fs ex H H h h := Un.kept fun _ _ q => q
theorem Un.laid (k : ∀ b u, h.get? b = some u -> h'.get? b = some u) (hp : h.objs.size <= a) (hn : H a = none) : Un fs ex H (upd H a o) h h' where
 keep := fun b u q _ _ _ => k b u q
 slot := fun b u q _ _ _ => ⟨u.slots, k b u q⟩
 free := fun b u q n _ => by rw [upd_ne (Nat.ne_of_lt (Nat.lt_of_lt_of_le (Heap.lt_size q) hp))]; exact n
 there := fun b u q _ => ⟨u, k b u q⟩
 tups := fun b xs q => by rw [upd_ne (a0q q hn)]; exact q
 frzs := fun b u xs q => by rw [upd_ne (a0q q hn)]; exact q
 tbls := fun b ps q => ⟨#[], by rw [upd_ne (a0q q hn), q]; simp⟩
theorem Un.write (mu : Mut (H x)) (he : e = x \/ H e = some (.own x)) (k : ∀ b u, b ≠ e -> h.get? b = some u -> h'.get? b = some u) (heo : ∃ u, h'.get? e = some u) : Un fs ex H (upd H x o) h h' := by
 have hx : ∀ b, H b = none -> b ≠ x := fun b n z => by subst z; rw [n] at mu; exact mu
 have hb : ∀ b, H b = none -> b ≠ e := fun b n z => by
  subst z
  rcases he with r | r
  ·exact hx b n r
  ·rw [n] at r; cases r
 have hm : ∀ b u, H b = some u -> ¬ Mut (some u) -> b ≠ x := fun b u q nm z => by subst z; rw [q] at mu; exact nm mu
 refine ⟨fun b u q n _ _ => k b u (hb b n) q, fun b u q n _ _ => ⟨u.slots, k b u (hb b n) q⟩, fun b u q n _ => by rw [upd_ne (hx b n)]; exact n, fun b u q _ => ?_,
  fun b xs q => by rw [upd_ne (hm b _ q fun z => z)]; exact q, fun b u xs q => by rw [upd_ne (hm b _ q fun z => z)]; exact q, fun b ps q => ⟨#[], by rw [upd_ne (hm b _ q fun z => z), q]; simp⟩⟩
 by_cases hbe : b = e
 ·subst hbe; exact heo
 ·exact ⟨u, k b u hbe q⟩
end

def trk (h : Heap) (H : Hp) : List Addr := (List.range h.objs.size).filter fun a => (H a).isSome
def hidT (h : Heap) (H : Hp) : Heap := PySem.W.hideAll h (trk h H)
theorem hidT_size (h : Heap) (H : Hp) : (hidT h H).objs.size = h.objs.size := PySem.W.hideAll_size _ _
theorem hidT_get {h : Heap} {H : Hp} {b : Addr} {o : Obj} (e : h.get? b = some o) (n : H b = none) : (hidT h H).get? b = some o :=
 PySem.W.hideAll_get _ e fun hm => by
  have q : (H b).isSome = true := (List.mem_filter.mp hm).2
  rw [n] at q; simp at q
theorem of_hidT {h : Heap} {H : Hp} {b : Addr} {o : Obj} (e : (hidT h H).get? b = some o) : h.get? b = some o /\ H b = none := by
 have e' : h.get? b = some o := PySem.W.of_hideAll (trk h H) e
 refine ⟨e', ?_⟩
 cases q : H b with
 | none => rfl
 | some x =>
  have hm : b ∈ trk h H := List.mem_filter.mpr ⟨List.mem_range.mpr (Heap.lt_size e'), by simp [q]⟩
  have z : (hidT h H).get? b = none := PySem.W.hideAll_none (trk h H) hm
  rw [z] at e; cases e

def allNews (g h : Heap) (L : Addr) : List (Addr × Obj) := (List.range h.objs.size).filterMap fun a => if a = L \/ (g.get? a).isSome = true then none else (h.get? a).map fun o => (a, o)
def rest (g h : Heap) (L d : Addr) : List (Addr × Obj) := (allNews g h L).filter fun p => decide (p.1 ≠ d)
end L2

namespace L2
open PySem PySem.Spec PyProof.Rows

structure Mod (K : PySem.W.Frag) (mg : Str -> Option Value) (base : Heap) : Prop where
 kin : K.In base
 glob : base.Ns mainGlobals mg
 blt : ∃ mb, base.Ns builtinsNs mb /\ ∀ x : Str, x ≠ "__name__" -> mb x = bootBuiltins x
 nolimit : base.NoLimit

structure Cx where
 prog : Program
 w : World
 K : PySem.W.Frag
 mg : Str -> Option Value
 base : Heap
 A : Around
 N : List Str
 s₀ : Shared
 H₀ : Hp
 env : Env
 outer : List Env
 stack : List Env
 ex : List Addr
 fn : Str -> Bool
 calm : Bool
 pn : List (Addr × Obj)
 xe : Value -> Shared -> Prop
def frs (l : List Env) : List Addr := l.filterMap (·.frame)
abbrev Cx.fs (X : Cx) : List Addr := frs X.outer

def Vis (sc : Scope) (x : Str) : Prop := sc.names.lookup x = some .local \/ sc.names.lookup x = some .cell \/ sc.names.lookup x = some .free
def Loc (sc : Scope) (x : Str) : Prop := sc.names.lookup x = some .local \/ sc.names.lookup x = some .cell
def Look (env : Env) (h : Heap) (m : Str -> Option Value) (x : Str) (u : Value) : Prop :=
 (env.kindOf x = some .local /\ m x = some u) \/ ((env.kindOf x = some .cell \/ env.kindOf x = some .free) /\ ∃ c, env.cells.lookup x = some c /\ h.IsCell c (some u))

structure Cx.Ok (X : Cx) : Prop where
 mod : Mod X.K X.mg X.base
 kind : X.env.scope.kind = .function
 glob : X.env.globals = mainGlobals
 blt : X.env.builtins = builtinsNs
 above : X.s₀.heap.objs.size <= X.env.locals
 inj : ∀ x y c, X.env.cells.lookup x = some c -> X.env.cells.lookup y = some c -> x = y
 has : ∀ x, (X.env.kindOf x = some .cell \/ X.env.kindOf x = some .free) -> ∃ c, X.env.cells.lookup x = some c
 cab : ∀ x c, X.fn x = true -> X.env.cells.lookup x = some c -> X.s₀.heap.objs.size <= c
 hd : X.calm = true -> X.A.handled = none
 frames : X.A.frames = some X.stack
 stk : X.stack = X.outer \/ (X.stack = X.env :: X.outer /\ X.env.frame = some X.env.locals)
 exf : ∀ b ∈ X.ex, b ≠ X.env.locals /\ ∀ x c, X.env.cells.lookup x = some c -> c ≠ b
 bs : ∀ b o, X.base.get? b = some o -> X.s₀.heap.get? b = some o /\ X.H₀ b = none
 bsz : X.base.objs.size <= X.s₀.heap.objs.size
 noex : ∀ b o, X.base.get? b = some o -> b ∉ X.ex
 exfs : ∀ b ∈ X.ex, b ∉ X.fs
 funs : X.s₀.heap.FunFrames X.base X.outer
 frf : ∀ b ∈ X.fs, X.H₀ b = none

structure Inv (X : Cx) (pins : List (Addr × Obj)) (σ : List (Option V)) (H : Hp) (s : Shared) : Prop where
 ok : X.Ok
 os : s.os = X.s₀.os
 bare : AllBare s.gens
 base : Un X.fs X.ex X.H₀ H X.s₀.heap s.heap
 loc : ∃ m, s.heap.Ns X.env.locals m /\ ∀ (i : Nat) (x : Str) (v : V), X.N[i]? = some x -> σ[i]? = some (some v) -> Vis X.env.scope x -> ∃ u, RelV v u /\ Look X.env s.heap m x u
 cell : ∀ x c, X.env.cells.lookup x = some c -> ∃ v, s.heap.IsCell c v
 free : H X.env.locals = none
 freeC : ∀ x c, X.env.cells.lookup x = some c -> H c = none
 pin : ∀ p ∈ X.pn ++ pins, s.heap.get? p.1 = some p.2 /\ H p.1 = none /\ p.1 ≠ X.env.locals /\ p.1 ∉ X.fs /\ ∀ v, p.2.data ≠ .cell v
 hok : HOk X.prog X.w H s.heap
 len : σ.length = X.N.length

section
variable {X : Cx} {pins : List (Addr × Obj)} {σ : List (Option V)} {H H' : Hp} {s : Shared} {h' : Heap}

theorem Cx.Ok.nofr (ok : X.Ok) {b : Addr} {o : Obj} (e : X.base.get? b = some o) : b ∉ X.fs := fun hb => by
 have := (ok.funs.mem hb).1
 rw [e] at this; cases this
theorem Inv.bs (I : Inv X pins σ H s) : ∀ b o, X.base.get? b = some o -> s.heap.get? b = some o /\ H b = none := fun b o e =>
 ⟨I.base.keep b o (I.ok.bs b o e).1 (I.ok.bs b o e).2 (I.ok.nofr e) (I.ok.noex b o e), I.base.free b o (I.ok.bs b o e).1 (I.ok.bs b o e).2 (I.ok.noex b o e)⟩
theorem Inv.bk (I : Inv X pins σ H s) : ∀ b o, X.base.get? b = some o -> s.heap.get? b = some o := fun b o e => (I.bs b o e).1
theorem Inv.mod (I : Inv X pins σ H s) : Mod X.K X.mg X.base := I.ok.mod
theorem Inv.kIn (I : Inv X pins σ H s) : X.K.In s.heap := I.ok.mod.kin.keeps I.bk
theorem Inv.lt (I : Inv X pins σ H s) : X.env.locals < s.heap.objs.size := let ⟨_, hn, _⟩ := I.loc; hn.lt
theorem Inv.sz (I : Inv X pins σ H s) : X.s₀.heap.objs.size <= s.heap.objs.size := Nat.le_trans I.ok.above (Nat.le_of_lt I.lt)
theorem Inv.nofs (I : Inv X pins σ H s) {a : Addr} (h : s.heap.objs.size <= a) : a ∉ X.fs := fun hb => by
 obtain ⟨_, o, ho, _⟩ := I.ok.funs.mem hb
 exact absurd (Nat.lt_of_lt_of_le (Heap.lt_size ho) (Nat.le_trans I.sz h)) (Nat.lt_irrefl _)
theorem Inv.cne (I : Inv X pins σ H s) : ∀ x c, X.env.cells.lookup x = some c -> c ≠ X.env.locals := fun x c e z => by
 obtain ⟨v, o, ho, hd⟩ := I.cell x c e
 obtain ⟨m, ⟨o', es, ep, ho', hd', _⟩, _⟩ := I.loc
 rw [z, ho'] at ho; cases ho; rw [hd'] at hd; cases hd
theorem Inv.funs (I : Inv X pins σ H s) : s.heap.FunFrames X.base X.outer := by
 have all : ∀ (l : List Env), (∀ b ∈ frs l, b ∈ X.fs) -> X.s₀.heap.FunFrames X.base l -> s.heap.FunFrames X.base l := by
  intro l
  induction l with
  | nil => intro _ _; trivial
  | cons env r ih =>
   intro hs hl
   obtain ⟨hk, ⟨L, o, hf, hn, ho, hd⟩, hr⟩ := hl
   have hL : L ∈ X.fs := hs L (by unfold frs; rw [List.filterMap_cons, hf]; exact List.mem_cons_self)
   obtain ⟨sl, e⟩ := I.base.slot L o ho (I.ok.frf L hL) hL fun z => I.ok.exfs L z hL
   exact ⟨hk, ⟨L, _, hf, hn, e, hd⟩, ih (fun b hb => hs b (by unfold frs; rw [List.filterMap_cons, hf]; exact List.mem_cons_of_mem _ hb)) hr⟩
 exact all X.outer (fun _ hb => hb) I.ok.funs

theorem Inv.stack (I : Inv X pins σ H s) : s.heap.FunFrames X.base X.stack := by
 rcases I.ok.stk with e | ⟨e, hf⟩
 ·rw [e]; exact I.funs
 ·rw [e]
  obtain ⟨m, hn, _⟩ := I.loc
  refine .cons (by rw [I.ok.kind]; decide) hf hn ?_ I.funs
  exact Heap.get?_none_of_le (Nat.le_trans I.ok.bsz I.ok.above)
theorem Inv.stkSub (I : Inv X pins σ H s) : ∀ b ∈ frs X.stack, b ∈ X.env.locals :: X.fs := fun b hb => by
 rcases I.ok.stk with e | ⟨e, hf⟩
 ·rw [e] at hb; exact List.mem_cons_of_mem _ hb
 ·rw [e] at hb
  unfold frs at hb
  rw [List.filterMap_cons, hf] at hb
  exact hb
theorem Inv.stkFree (I : Inv X pins σ H s) : ∀ b ∈ frs X.stack, H b = none := fun b hb => by
 rcases List.mem_cons.mp (I.stkSub b hb) with e | hb
 ·rw [e]; exact I.free
 ·obtain ⟨_, o, ho, _⟩ := I.ok.funs.mem hb
  exact I.base.free b o ho (I.ok.frf b hb) fun z => I.ok.exfs b z hb

theorem Inv.step {g' : Array GenState} {t' : Nat} {d' : Drawn} {ch : List Addr} (I : Inv X pins σ H s)
  (hch : ∀ b ∈ ch, (b ∈ X.ex \/ X.s₀.heap.objs.size <= b) /\ b ≠ X.env.locals /\ (∀ x c, X.env.cells.lookup x = some c -> c ≠ b) /\ ∀ p ∈ X.pn ++ pins, p.1 ≠ b)
  (keep : ∀ b o, b ≠ X.env.locals -> b ∉ X.fs -> b ∉ ch -> s.heap.get? b = some o -> H b = none -> h'.get? b = some o)
  (slot : ∀ b o, b ≠ X.env.locals -> b ∈ X.fs -> b ∉ ch -> s.heap.get? b = some o -> H b = none -> ∃ sl, h'.get? b = some { o with slots := sl }) (free : ∀ b o, b ∉ ch -> s.heap.get? b = some o -> H b = none -> H' b = none)
  (there : ∀ b o, b ∉ ch -> s.heap.get? b = some o -> ∃ o', h'.get? b = some o')
  (tups : ∀ b xs, H b = some (.tup xs) -> H' b = some (.tup xs)) (frzs : ∀ b o u, H b = some (.frz o u) -> H' b = some (.frz o u)) (tbls : ∀ b ps, H b = some (.tbl ps) -> ∃ more, H' b = some (.tbl (ps ++ more)))
  (ns : ∀ m, s.heap.Ns X.env.locals m -> h'.Ns X.env.locals m) (hok : HOk X.prog X.w H' h') (hg : AllBare g') :
  Inv X pins σ H' { s with heap := h', gens := g', drawn := d', toks := t' } := by
 have neL : ∀ b o, X.s₀.heap.get? b = some o -> b ≠ X.env.locals := fun b o e => Nat.ne_of_lt (Nat.lt_of_lt_of_le (Heap.lt_size e) I.ok.above)
 have neC : ∀ b o, X.s₀.heap.get? b = some o -> b ∉ X.ex -> b ∉ ch := fun b o e hx hb => by
  rcases (hch b hb).1 with z | z
  ·exact hx z
  ·exact absurd (Nat.lt_of_lt_of_le (Heap.lt_size e) z) (Nat.lt_irrefl _)
 have cellK : ∀ x c, X.env.cells.lookup x = some c -> ∀ v, s.heap.IsCell c v -> h'.IsCell c v := fun x c e v ⟨o, ho, hd⟩ => by
  have nch : c ∉ ch := fun z => (hch c z).2.2.1 x c e rfl
  by_cases hc : c ∈ X.fs
  ·obtain ⟨sl, q⟩ := slot c o (I.cne x c e) hc nch ho (I.freeC x c e)
   exact ⟨_, q, hd⟩
  ·exact ⟨o, keep c o (I.cne x c e) hc nch ho (I.freeC x c e), hd⟩
 refine ⟨I.ok, I.os, hg, ⟨fun b o e n hb hx => ?_, fun b o e n hb hx => ?_, fun b o e n hx => ?_, fun b o e hx => ?_, fun b xs e => tups b xs (I.base.tups b xs e), fun b o xs e => frzs b o xs (I.base.frzs b o xs e), fun b ps e => ?_⟩, ?_, fun x c e => ?_, ?_, fun x c e => ?_, fun p hp => ?_, hok, I.len⟩
 ·exact keep b o (neL b o e) hb (neC b o e hx) (I.base.keep b o e n hb hx) (I.base.free b o e n hx)
 ·obtain ⟨sl, e1⟩ := I.base.slot b o e n hb hx
  obtain ⟨sl', e2⟩ := slot b _ (neL b o e) hb (neC b o e hx) e1 (I.base.free b o e n hx)
  exact ⟨sl', e2⟩
 ·obtain ⟨o', e1⟩ := I.base.there b o e hx
  exact free b o' (neC b o e hx) e1 (I.base.free b o e n hx)
 ·obtain ⟨o', e1⟩ := I.base.there b o e hx
  exact there b o' (neC b o e hx) e1
 ·obtain ⟨m1, e1⟩ := I.base.tbls b ps e
  obtain ⟨m2, e2⟩ := tbls b _ e1
  exact ⟨m1 ++ m2, by rw [e2, Array.append_assoc]⟩
 ·obtain ⟨m, hn, hl⟩ := I.loc
  refine ⟨m, ns m hn, fun i x v e1 e2 e3 => ?_⟩
  obtain ⟨u, r, l⟩ := hl i x v e1 e2 e3
  refine ⟨u, r, ?_⟩
  rcases l with l | ⟨k, c, e, z⟩
  ·exact .inl l
  ·exact .inr ⟨k, c, e, cellK x c e _ z⟩
 ·obtain ⟨v, z⟩ := I.cell x c e
  exact ⟨v, cellK x c e v z⟩
 ·obtain ⟨m, ⟨o, _, _, ho, _⟩, _⟩ := I.loc
  exact free _ o (fun z => (hch _ z).2.1 rfl) ho I.free
 ·obtain ⟨v, o, ho, hd⟩ := I.cell x c e
  exact free c o (fun z => (hch c z).2.2.1 x c e rfl) ho (I.freeC x c e)
 ·obtain ⟨e, n, ne, nf, d⟩ := I.pin p hp
  have nch : p.1 ∉ ch := fun z => (hch p.1 z).2.2.2 p hp rfl
  exact ⟨keep p.1 p.2 ne nf nch e n, free p.1 p.2 nch e n, ne, nf, d⟩
theorem Inv.un {t' : Nat} (I : Inv X pins σ H s) (u : Un X.fs [] H H' s.heap h') (hok : HOk X.prog X.w H' h') : Inv X pins σ H' { s with heap := h', toks := t' } := by
 obtain ⟨m, ⟨o, es, ep, ho, r⟩, _⟩ := id I.loc
 obtain ⟨sl, hL⟩ := u.any ho I.free (by simp)
 exact I.step (g' := s.gens) (d' := s.drawn) (ch := []) (fun _ z => nomatch z) (fun b o _ hb _ e n => u.keep b o e n hb (by simp)) (fun b o _ hb _ e n => u.slot b o e n hb (by simp)) (fun b o _ e n => u.free b o e n (by simp)) (fun b o _ e => u.there b o e (by simp)) u.tups u.frzs u.tbls (fun m' hm => by
  obtain ⟨o', es', ep', ho', r'⟩ := hm
  rw [ho] at ho'; cases ho'
  exact ⟨_, es', ep', hL, r'⟩) hok I.bare
theorem Inv.call {g' : Array GenState} {t' : Nat} {d' : Drawn} {ch : List Addr} (I : Inv X pins σ H s) (u : Un (frs X.stack) ch H H' s.heap h') (hok : HOk X.prog X.w H' h') (hg : AllBare g')
  (hch : ∀ b ∈ ch, (b ∈ X.ex \/ X.s₀.heap.objs.size <= b) /\ b ≠ X.env.locals /\ (∀ x c, X.env.cells.lookup x = some c -> c ≠ b) /\ ∀ p ∈ X.pn ++ pins, p.1 ≠ b) :
  Inv X pins σ H' { s with heap := h', gens := g', drawn := d', toks := t' } := by
 obtain ⟨m, ⟨o, es, ep, ho, r⟩, _⟩ := id I.loc
 obtain ⟨sl, hL⟩ := u.any ho I.free fun z => (hch _ z).2.1 rfl
 exact I.step (ch := ch) hch (fun b o hL hb hc e n => u.keep b o e n (fun z => (List.mem_cons.mp (I.stkSub b z)).elim hL hb) hc) (fun b o _ _ hc e n => u.any e n hc) (fun b o hc e n => u.free b o e n hc) (fun b o hc e => u.there b o e hc) u.tups u.frzs u.tbls (fun m' hm => by
  obtain ⟨o', es', ep', ho', r'⟩ := hm
  rw [ho] at ho'; cases ho'
  exact ⟨_, es', ep', hL, r'⟩) hok hg
theorem Inv.turned {t' : Nat} {it : Addr} (I : Inv X pins σ H s) (k : ∀ b o, b ≠ it -> s.heap.get? b = some o -> h'.get? b = some o) (hn : H it = none) (hL : it ≠ X.env.locals)
  (h1 : it ∈ X.ex \/ X.s₀.heap.objs.size <= it) (h2 : ∀ x c, X.env.cells.lookup x = some c -> c ≠ it) (h3 : ∀ p ∈ X.pn ++ pins, p.1 ≠ it) : Inv X pins σ H { s with heap := h', toks := t' } := by
 have nit : ∀ b u, H b = some u -> b ≠ it := fun b u e z => by rw [z, hn] at e; cases e
 refine I.step (g' := s.gens) (d' := s.drawn) (ch := [it]) (fun b hb => ?_) (fun b o _ _ hc e _ => k b o (fun z => hc (by simp [z])) e) (fun b o _ _ hc e _ => ⟨o.slots, k b o (fun z => hc (by simp [z])) e⟩) (fun _ _ _ _ n => n)
  (fun b o hc e => ⟨o, k b o (fun z => hc (by simp [z])) e⟩) (fun _ _ e => e) (fun _ _ _ e => e) (fun b ps e => ⟨#[], by rw [e]; simp⟩) (fun m hm => ?_) (fun b u e => ?_) I.bare
 ·have e : b = it := by simpa using hb
  subst e
  exact ⟨h1, hL, h2, h3⟩
 ·obtain ⟨o, es, ep, ho, r⟩ := hm
  exact ⟨o, es, ep, k _ o (Ne.symm hL) ho, r⟩
 ·refine (I.hok b u e).stay (fun c v hc q => k c v ?_ q) (fun _ q => q) fun _ _ q => q
  rcases hc with z | z
  ·rw [z]; exact nit b u e
  ·exact nit c _ z
theorem Inv.tok (I : Inv X pins σ H s) (t : Nat) : Inv X pins σ H { s with toks := t } := I.un (h' := s.heap) (t' := t) Un.refl I.hok
theorem Inv.kept {t' : Nat} (I : Inv X pins σ H s) (k : ∀ b u, s.heap.get? b = some u -> h'.get? b = some u) : Inv X pins σ H { s with heap := h', toks := t' } := I.un (Un.kept k) (I.hok.kept k)
theorem Inv.laid {a : Addr} {o : HO} {t' : Nat} (I : Inv X pins σ H s) (k : ∀ b u, s.heap.get? b = some u -> h'.get? b = some u) (hp : s.heap.objs.size <= a) (new : ObjOk X.prog X.w (upd H a o) h' a o) :
  Inv X pins σ (upd H a o) { s with heap := h', toks := t' } := I.un (Un.laid k hp (I.hok.fresh hp)) (I.hok.laid k hp new)
theorem Inv.write {x e : Addr} {o : HO} {t' : Nat} (I : Inv X pins σ H s) (mu : Mut (H x)) (he : e = x \/ H e = some (.own x)) (k : ∀ b u, b ≠ e -> s.heap.get? b = some u -> h'.get? b = some u) (heo : ∃ u, h'.get? e = some u)
  (new : ObjOk X.prog X.w (upd H x o) h' x o) : Inv X pins σ (upd H x o) { s with heap := h', toks := t' } := I.un (Un.write mu he k heo) (I.hok.write mu he k heo new)
theorem Inv.weak {σ' : List (Option V)} (I : Inv X pins σ H s) (hl : σ'.length = σ.length) (w : ∀ (i : Nat) v, σ'[i]? = some (some v) -> σ[i]? = some (some v)) : Inv X pins σ' H s :=
 ⟨I.ok, I.os, I.bare, I.base, let ⟨m, hn, hl'⟩ := I.loc; ⟨m, hn, fun i x v e1 e2 e3 => hl' i x v e1 (w i v e2) e3⟩, I.cell, I.free, I.freeC, I.pin, I.hok, hl.trans I.len⟩
theorem Inv.pins_of {pins' : List (Addr × Obj)} (I : Inv X pins σ H s) (h : ∀ p ∈ pins', s.heap.get? p.1 = some p.2 /\ H p.1 = none /\ p.1 ≠ X.env.locals /\ p.1 ∉ X.fs /\ ∀ v, p.2.data ≠ .cell v) : Inv X pins' σ H s :=
 ⟨I.ok, I.os, I.bare, I.base, I.loc, I.cell, I.free, I.freeC, fun p hp => (List.mem_append.mp hp).elim (fun z => I.pin p (List.mem_append_left _ z)) (h p), I.hok, I.len⟩

theorem nodup_ix {N : List Str} (hN : N.Nodup) {i j : Nat} {x : Str} (a : N[i]? = some x) (b : N[j]? = some x) : i = j := by
 obtain ⟨h1, e1⟩ := List.getElem?_eq_some_iff.mp a
 obtain ⟨h2, e2⟩ := List.getElem?_eq_some_iff.mp b
 exact (List.getElem_inj hN).mp (e1.trans e2.symm)

theorem store_ok2 {M : Model} {A : Around} {E : Value -> Shared -> Prop} {i : Nat} {x : Str} {v : V} {u : Value} {Q : Unit -> Shared -> Prop} (I : Inv X pins σ H s) (hN : X.N.Nodup) (hi : X.N[i]? = some x) (hx : Loc X.env.scope x) (r : RelV v u)
  (h : ∀ s', Inv X pins (σ.set i (some v)) H s' -> (∃ a, Heap.SameBut a s.heap s'.heap /\ (a = X.env.locals \/ X.env.cells.lookup x = some a)) -> Q () s') (hf : X.fn x = true \/ X.env.scope.names.lookup x = some .local := by first | exact .inl rfl | exact .inr rfl | assumption) : wpAny M A (storeName X.env x u) Q E s := by
 obtain ⟨m, hn, hl⟩ := id I.loc
 have hcls : (X.env.scope.kind == .class || (X.env.scope.kind == .module && X.env.locals != X.env.globals)) = false := by rw [I.ok.kind]; rfl
 have hiσ : i < σ.length := by rw [I.len]; exact (List.getElem?_eq_some_iff.mp hi).1
 have cne := I.cne
 have tracked : ∀ {a : Addr} {h' : Heap}, (∃ o, s.heap.get? a = some o /\ H a = none) -> Heap.SameBut a s.heap h' -> HOk X.prog X.w H h' := fun {a h'} ha hs b ob e => by
  obtain ⟨_, _, hfree⟩ := ha
  refine (I.hok b ob e).stay (fun c w' hc q => (hs.2 c ?_).trans q) (fun _ q => q) fun _ _ q => q
  rintro rfl
  rcases hc with rfl | hc
  ·rw [hfree] at e; cases e
  ·rw [hfree] at hc; cases hc
 rcases hx with hk | hk
 ·refine wpAny_storeName_local hk hn (fun h' hn' hs => ?_) hcls
  obtain ⟨oL, _, _, hoL, _⟩ := id hn
  refine h _ ⟨I.ok, I.os, I.bare, ⟨fun b o e n hb hx => ?_, fun b o e n hb hx => ?_, I.base.free, fun b o e hx => ?_, I.base.tups, I.base.frzs, I.base.tbls⟩, ⟨_, hn', fun j y v' e1 e2 e3 => ?_⟩, fun y c e => ?_, I.free, I.freeC, fun p hp => ?_, tracked ⟨oL, hoL, I.free⟩ hs, by simpa using I.len⟩ ⟨_, hs, .inl rfl⟩
  ·exact (hs.2 b (Nat.ne_of_lt (Nat.lt_of_lt_of_le (Heap.lt_size e) I.ok.above))).trans (I.base.keep b o e n hb hx)
  ·obtain ⟨sl, e1⟩ := I.base.slot b o e n hb hx
   exact ⟨sl, (hs.2 b (Nat.ne_of_lt (Nat.lt_of_lt_of_le (Heap.lt_size e) I.ok.above))).trans e1⟩
  ·obtain ⟨o', e1⟩ := I.base.there b o e hx
   exact ⟨o', (hs.2 b (Nat.ne_of_lt (Nat.lt_of_lt_of_le (Heap.lt_size e) I.ok.above))).trans e1⟩
  ·by_cases hj : j = i
   ·subst hj
    rw [hi] at e1; cases e1
    rw [List.getElem?_set_self hiσ] at e2
    cases e2
    exact ⟨u, r, .inl ⟨hk, by simp⟩⟩
   ·rw [List.getElem?_set_ne (Ne.symm hj)] at e2
    obtain ⟨u', r', q⟩ := hl j y v' e1 e2 e3
    refine ⟨u', r', ?_⟩
    rcases q with ⟨k, e⟩ | ⟨k, c, e, z⟩
    ·refine .inl ⟨k, ?_⟩
     have : y ≠ x := fun e => hj (nodup_ix hN e1 (e ▸ hi))
     simp [this, e]
    ·exact .inr ⟨k, c, e, z.sameBut hs (cne y c e)⟩
  ·obtain ⟨w', z⟩ := I.cell y c e
   exact ⟨w', z.sameBut hs (cne y c e)⟩
  ·obtain ⟨e, n, ne, nf, d⟩ := I.pin p hp
   exact ⟨(hs.2 p.1 ne).trans e, n, ne, nf, d⟩
 ·have hfn : X.fn x = true := by
   rcases hf with z | z
   ·exact z
   ·rw [z] at hk; cases hk
  obtain ⟨c, hc⟩ := I.ok.has x (.inl hk)
  obtain ⟨w', z⟩ := I.cell x c hc
  refine wpAny_storeName_cell I.ok.kind hk hc z (fun h' hc' hs => ?_)
  obtain ⟨oc, hoc, hocd⟩ := id z
  refine h { s with heap := h' } ⟨I.ok, I.os, I.bare, ⟨fun b o e n hb hx => ?_, fun b o e n hb hx => ?_, I.base.free, fun b o e hx => ?_, I.base.tups, I.base.frzs, I.base.tbls⟩, ⟨m, hn.sameBut hs (Ne.symm (cne x c hc)), fun j y v' e1 e2 e3 => ?_⟩, fun y c' e => ?_, I.free, I.freeC, fun p hp => ?_, tracked ⟨oc, hoc, I.freeC x c hc⟩ hs, by simpa using I.len⟩ ⟨c, hs, .inr hc⟩
  ·exact (hs.2 b (Nat.ne_of_lt (Nat.lt_of_lt_of_le (Heap.lt_size e) (I.ok.cab x c hfn hc)))).trans (I.base.keep b o e n hb hx)
  ·obtain ⟨sl, e1⟩ := I.base.slot b o e n hb hx
   exact ⟨sl, (hs.2 b (Nat.ne_of_lt (Nat.lt_of_lt_of_le (Heap.lt_size e) (I.ok.cab x c hfn hc)))).trans e1⟩
  ·obtain ⟨o', e1⟩ := I.base.there b o e hx
   exact ⟨o', (hs.2 b (Nat.ne_of_lt (Nat.lt_of_lt_of_le (Heap.lt_size e) (I.ok.cab x c hfn hc)))).trans e1⟩
  ·by_cases hj : j = i
   ·subst hj
    rw [hi] at e1; cases e1
    rw [List.getElem?_set_self hiσ] at e2
    cases e2
    exact ⟨u, r, .inr ⟨.inl hk, c, hc, hc'⟩⟩
   ·rw [List.getElem?_set_ne (Ne.symm hj)] at e2
    obtain ⟨u', r', q⟩ := hl j y v' e1 e2 e3
    refine ⟨u', r', ?_⟩
    rcases q with q | ⟨k, c', e, z'⟩
    ·exact .inl q
    ·refine .inr ⟨k, c', e, z'.sameBut hs ?_⟩
     rintro rfl
     exact hj (nodup_ix hN e1 (I.ok.inj _ _ _ e hc ▸ hi))
  ·by_cases hcc : c' = c
   ·subst hcc; exact ⟨_, hc'⟩
   ·obtain ⟨w2, z2⟩ := I.cell y c' e
    exact ⟨w2, z2.sameBut hs hcc⟩
  ·obtain ⟨e, n, ne, nf, d⟩ := I.pin p hp
   refine ⟨(hs.2 p.1 ?_).trans e, n, ne, nf, d⟩
   intro q
   rw [q, hoc] at e
   have q' : oc = p.2 := Option.some.inj e
   exact d w' (by rw [<- q']; exact hocd)
theorem store_ok {M : Model} {A : Around} {E : Value -> Shared -> Prop} {i : Nat} {x : Str} {v : V} {u : Value} {Q : Unit -> Shared -> Prop} (I : Inv X pins σ H s) (hN : X.N.Nodup) (hi : X.N[i]? = some x) (hx : Loc X.env.scope x) (r : RelV v u)
  (h : ∀ s', Inv X pins (σ.set i (some v)) H s' -> Q () s') (hf : X.fn x = true \/ X.env.scope.names.lookup x = some .local := by first | exact .inl rfl | exact .inr rfl | assumption) : wpAny M A (storeName X.env x u) Q E s :=
 store_ok2 I hN hi hx r (fun s' I' _ => h s' I') hf
theorem Inv.call' {s' : Shared} {ch : List Addr} (I : Inv X pins σ H s) (ho : s'.os = s.os) (u : Un (frs X.stack) ch H H' s.heap s'.heap) (hok : HOk X.prog X.w H' s'.heap) (hg : AllBare s'.gens)
  (hch : ∀ b ∈ ch, (b ∈ X.ex \/ X.s₀.heap.objs.size <= b) /\ b ≠ X.env.locals /\ (∀ x c, X.env.cells.lookup x = some c -> c ≠ b) /\ ∀ p ∈ X.pn ++ pins, p.1 ≠ b) : Inv X pins σ H' s' := by
 obtain ⟨h', g', d', t', o'⟩ := s'
 have e : o' = s.os := ho
 subst e
 exact I.call (g' := g') (t' := t') (d' := d') u hok hg hch
end

abbrev XK := Value -> Option Addr -> Hp -> Prop
abbrev St := List (Option V)
abbrev VK := V -> Hp -> Prop
abbrev TE := St -> Hp -> VK -> Prop
abbrev TT := St -> Hp -> (Bool -> Hp -> Prop) -> Prop
abbrev TA := St -> Hp -> (List V -> Hp -> Prop) -> Prop
structure Ends where
 nx : St -> Hp -> Prop
 rt : VK
 bk : St -> Hp -> Prop := fun _ _ => False
 ct : St -> Hp -> Prop := fun _ _ => False
abbrev TS := Ends -> St -> Hp -> Prop

def EP (X : Cx) (pins : List (Addr × Obj)) (σ : St) (Q : VK) (u : Value) (s' : Shared) : Prop := ∃ v H', Inv X pins σ H' s' /\ RelV v u /\ Q v H'
def TP (X : Cx) (pins : List (Addr × Obj)) (σ : St) (Q : Bool -> Hp -> Prop) (b : Bool) (s' : Shared) : Prop := ∃ H', Inv X pins σ H' s' /\ Q b H'
def AP (X : Cx) (pins : List (Addr × Obj)) (σ : St) (Q : List V -> Hp -> Prop) (us : List Value) (s' : Shared) : Prop := ∃ vs H', Inv X pins σ H' s' /\ Vals vs us /\ Q vs H'
def SP (X : Cx) (pins : List (Addr × Obj)) (D : Ends) (f : Flow) (s' : Shared) : Prop :=
 match f with
 | .next => ∃ σ' H', Inv X pins σ' H' s' /\ D.nx σ' H'
 | .brk => ∃ σ' H', Inv X pins σ' H' s' /\ D.bk σ' H'
 | .cont => ∃ σ' H', Inv X pins σ' H' s' /\ D.ct σ' H'
 | .ret u => ∃ v σ' H', Inv X pins σ' H' s' /\ RelV v u /\ D.rt v H'

def PE (X : Cx) (e : Expr) (t : TE) : Prop :=
 ∀ (pins : List (Addr × Obj)) (s : Shared) (σ : St) (H : Hp) (Q : VK), Inv X pins σ H s -> t σ H Q -> wpAny (model X.prog X.w) X.A (eval e X.env) (EP X pins σ Q) X.xe s
def PT (X : Cx) (e : Expr) (t : TT) : Prop :=
 ∀ (pins : List (Addr × Obj)) (s : Shared) (σ : St) (H : Hp) (Q : Bool -> Hp -> Prop), Inv X pins σ H s -> t σ H Q -> wpAny (model X.prog X.w) X.A (isTrue e X.env (eval e X.env)) (TP X pins σ Q) X.xe s
def PW (X : Cx) (e : Expr) (t : TT) : Prop :=
 ∀ (whole : Sem Value) (pins : List (Addr × Obj)) (s : Shared) (σ : St) (H : Hp) (Q : Bool -> Hp -> Prop), Inv X pins σ H s -> t σ H Q -> wpAny (model X.prog X.w) X.A (isTrue e X.env whole) (TP X pins σ Q) X.xe s
theorem PW.pt {X : Cx} {e : Expr} {t : TT} (h : PW X e t) : PT X e t := h _
def PA (X : Cx) (es : List Expr) (t : TA) : Prop :=
 ∀ (pos : Pos) (pins : List (Addr × Obj)) (s : Shared) (σ : St) (H : Hp) (Q : List V -> Hp -> Prop), Inv X pins σ H s -> t σ H Q -> wpAny (model X.prog X.w) X.A (spliced (backTo pos (starEach es X.env))) (AP X pins σ Q) X.xe s
def PS (X : Cx) (st : Stmt) (t : TS) : Prop :=
 ∀ (pins : List (Addr × Obj)) (s : Shared) (σ : St) (H : Hp) (D : Ends), Inv X pins σ H s -> t D σ H -> wpAny (model X.prog X.w) X.A (exec st X.env) (SP X pins D) X.xe s
def PSs (X : Cx) (st : List Stmt) (t : TS) : Prop :=
 ∀ (pins : List (Addr × Obj)) (s : Shared) (σ : St) (H : Hp) (D : Ends), Inv X pins σ H s -> t D σ H -> wpAny (model X.prog X.w) X.A (execs st X.env) (SP X pins D) X.xe s
theorem thn {α : Type} {t : Sem α} {Q Q' : α -> Shared -> Prop} {M : Model} {A : Around} {E : Value -> Shared -> Prop} {s : Shared} (h : wpAny M A t Q E s) (hQ : ∀ a s, Q a s -> Q' a s) : wpAny M A t Q' E s := wpAny_mono h hQ fun _ _ x => x
end L2

namespace L2
open PySem PySem.Spec PyProof.Rows
section
variable {X : Cx}

def tVar (i : Nat) : TE := fun σ H Q => ∃ v, σ[i]? = some (some v) /\ Q v H
def tC (v : V) : TE := fun _ H Q => Q v H
theorem pe_var {i : Nat} {x : Str} {pos : Pos} (hN : X.N[i]? = some x) (hv : Vis X.env.scope x) (hd : (x == ("__debug__" : Str)) = false := by decide) (hcd : (x == ("__classdict__" : Str)) = false := by decide) : PE X (.Name x pos) (tVar i) := by
 intro pins s σ H Q I h
 obtain ⟨v, e, h⟩ := h
 obtain ⟨m, hn, hl⟩ := I.loc
 obtain ⟨u, r, l⟩ := hl i x v hN e hv
 have fin : EP X pins σ Q u s := ⟨v, H, I, r, h⟩
 rcases l with ⟨hk, hm⟩ | ⟨hk, c, hc, hcell⟩
 ·exact wpAny_Name (wpAny_loadName_local I.ok.kind hk hn hm fin) hd
 ·rcases hk with hk | hk
  ·exact wpAny_Name (wpAny_loadName_cell I.ok.kind hk hc hcell fin) hd
  ·exact wpAny_Name (wpAny_loadName_free I.ok.kind hk hc hcell fin hcd) hd
theorem pe_int {i j pos} : PE X (.Constant (.int i) j pos) (tC (.int i)) := fun _ _ _ H _ I h => wpAny_Constant_int ⟨.int i, H, I.tok _, ⟨_, rfl⟩, h⟩
theorem pe_bl {b j pos} : PE X (.Constant (.bool b) j pos) (tC (.bl b)) := fun _ _ _ H _ I h => Constant_bool ⟨.bl b, H, I, rfl, h⟩
theorem pe_non {j pos} : PE X (.Constant .none j pos) (tC .non) := fun _ _ _ H _ I h => Constant_none ⟨.non, H, I, rfl, h⟩
theorem pe_str {x j pos} : PE X (.Constant (.str x) j pos) (tC (.str x)) := fun _ _ _ H _ I h => Calls.Constant_str ⟨.str x, H, I.tok _, ⟨_, rfl⟩, h⟩

def Gl (X : Cx) (x : Str) : Prop := X.env.kindOf x = some .globalImplicit
theorem ld_glob {E : Value -> Shared -> Prop} {pins : List (Addr × Obj)} {s : Shared} {σ : St} {H : Hp} {x : Str} {u : Value} {pos : Pos} {Q : Value -> Shared -> Prop} (I : Inv X pins σ H s) (hg : Gl X x) (hm : X.mg x = some u) (h : Q u s)
  (hd : (x == ("__debug__" : Str)) = false := by decide) : wpAny (model X.prog X.w) X.A (eval (.Name x pos) X.env) Q E s :=
 Calls.Name_function_global I.ok.kind hg (Calls.loadGlobal_global (by rw [I.ok.glob]; exact I.mod.glob.keeps I.bk) hm h) hd
theorem ld_blt {E : Value -> Shared -> Prop} {pins : List (Addr × Obj)} {s : Shared} {σ : St} {H : Hp} {x : Str} {u : Value} {pos : Pos} {Q : Value -> Shared -> Prop} (I : Inv X pins σ H s) (hg : Gl X x) (hm : X.mg x = none) (hv : bootBuiltins x = some u) (h : Q u s)
  (hn : x ≠ "__name__" := by decide) (hd : (x == ("__debug__" : Str)) = false := by decide) : wpAny (model X.prog X.w) X.A (eval (.Name x pos) X.env) Q E s := by
 obtain ⟨mb, h1, h2⟩ := I.mod.blt
 exact Calls.Name_function_global I.ok.kind hg (Calls.loadGlobal_builtin (by rw [I.ok.glob]; exact I.mod.glob.keeps I.bk) hm (by rw [I.ok.blt]; exact h1.keeps I.bk) ((h2 x hn).trans hv) h) hd
theorem pe_glob {x : Str} {v : V} {u : Value} {pos : Pos} (hg : Gl X x) (hm : X.mg x = some u) (r : RelV v u) (hd : (x == ("__debug__" : Str)) = false := by decide) : PE X (.Name x pos) (tC v) :=
 fun _ _ _ H _ I h => ld_glob I hg hm ⟨v, H, I, r, h⟩ hd
theorem pe_bltn {x : Str} {v : V} {u : Value} {pos : Pos} (hg : Gl X x) (hm : X.mg x = none) (hv : bootBuiltins x = some u) (r : RelV v u) (hn : x ≠ "__name__" := by decide) (hd : (x == ("__debug__" : Str)) = false := by decide) : PE X (.Name x pos) (tC v) :=
 fun _ _ _ H _ I h => ld_blt I hg hm hv ⟨v, H, I, r, h⟩ hn hd

variable {a b : Expr} {ta tb : TE} {pos : Pos}
def tB (t : TE) : TT := fun σ H Q => t σ H fun x H1 => ∃ c, x = .bl c /\ Q c H1
theorem pt_val {e : Expr} {t : TE} (h : PE X e t) (he : ∀ whole, isTrue e X.env whole = (do let v <- whole; standAt e.pos; holding [v] (truthy v)) := by intro _; rfl) : PT X e (tB t) := by
 intro pins s σ H Q I hw
 refine isTrue_plain (thn (h pins s σ H _ I hw) fun v s1 ⟨x, H1, I1, r1, q1⟩ => ?_) (he _)
 obtain ⟨d, rfl, q⟩ := q1
 cases r1
 exact wpAny_truthy_bool ⟨H1, I1, q⟩

variable {tA tB' : TT} {rest : List Expr}
def tAnd (t u : TT) : TT := fun σ H Q => t σ H fun c H1 => if c = true then u σ H1 Q else Q false H1
def tOr (t u : TT) : TT := fun σ H Q => t σ H fun c H1 => if c = true then Q true H1 else u σ H1 Q
def tNot (t : TT) : TT := fun σ H Q => t σ H fun c H1 => Q (!c) H1
theorem pw_and1 (ha : PT X a tA) : PW X (.BoolOp .And [a] pos) tA := by
 intro wh pins s σ H Q I h
 refine isTrue_and (thn (ha pins s σ H Q I h) fun c s1 e => ?_)
 cases c with
 | true => exact isTrue_and_nil e
 | false => exact e
theorem pw_or1 (ha : PT X a tA) : PW X (.BoolOp .Or [a] pos) tA := by
 intro wh pins s σ H Q I h
 refine isTrue_or (thn (ha pins s σ H Q I h) fun c s1 e => ?_)
 cases c with
 | false => exact isTrue_or_nil e
 | true => exact e
theorem pw_and (ha : PT X a tA) (hb : PW X (.BoolOp .And (b :: rest) pos) tB') : PW X (.BoolOp .And (a :: b :: rest) pos) (tAnd tA tB') := by
 intro wh pins s σ H Q I h
 refine isTrue_and (thn (ha pins s σ H _ I h) fun c s1 ⟨H1, I1, q1⟩ => ?_)
 cases c with
 | true => exact hb wh pins s1 σ H1 Q I1 q1
 | false => exact ⟨H1, I1, q1⟩
theorem pw_or (ha : PT X a tA) (hb : PW X (.BoolOp .Or (b :: rest) pos) tB') : PW X (.BoolOp .Or (a :: b :: rest) pos) (tOr tA tB') := by
 intro wh pins s σ H Q I h
 refine isTrue_or (thn (ha pins s σ H _ I h) fun c s1 ⟨H1, I1, q1⟩ => ?_)
 cases c with
 | true => exact ⟨H1, I1, q1⟩
 | false => exact hb wh pins s1 σ H1 Q I1 q1
theorem pt_not (ha : PT X a tA) : PT X (.UnaryOp .Not a pos) (tNot tA) := by
 intro pins s σ H Q I h
 exact isTrue_not (ha pins s σ H (fun c H1 => Q (!c) H1) I h)
def tAndV (ta tb : TE) : TE := fun σ H Q => ta σ H fun x H1 => ∃ c, x = .bl c /\ if c = true then tb σ H1 Q else Q (.bl false) H1
def tOrV (ta tb : TE) : TE := fun σ H Q => ta σ H fun x H1 => ∃ c, x = .bl c /\ if c = true then Q (.bl true) H1 else tb σ H1 Q
def tNotV (ta : TE) : TE := fun σ H Q => ta σ H fun x H1 => ∃ c, x = .bl c /\ Q (.bl (!c)) H1
theorem pe_one {op} {t : TE} (h : PE X a t) : PE X (.BoolOp op [a] pos) t := fun pins s σ H Q I hw => BoolOp_one (h pins s σ H Q I hw)
theorem pe_and (ha : PE X a ta) (hb : PE X (.BoolOp .And (b :: rest) pos) tb) : PE X (.BoolOp .And (a :: b :: rest) pos) (tAndV ta tb) := by
 intro pins s σ H Q I h
 refine BoolOp_and (thn (ha pins s σ H _ I h) fun v s1 ⟨x, H1, I1, r1, q1⟩ => ?_)
 obtain ⟨c, rfl, q1⟩ := q1
 cases r1
 refine wpAny_truthy_bool ?_
 cases c with
 | true => exact hb pins s1 σ H1 Q I1 q1
 | false => exact ⟨.bl false, H1, I1, rfl, q1⟩
theorem pe_or (ha : PE X a ta) (hb : PE X (.BoolOp .Or (b :: rest) pos) tb) : PE X (.BoolOp .Or (a :: b :: rest) pos) (tOrV ta tb) := by
 intro pins s σ H Q I h
 refine BoolOp_or (thn (ha pins s σ H _ I h) fun v s1 ⟨x, H1, I1, r1, q1⟩ => ?_)
 obtain ⟨c, rfl, q1⟩ := q1
 cases r1
 refine wpAny_truthy_bool ?_
 cases c with
 | false => exact hb pins s1 σ H1 Q I1 q1
 | true => exact ⟨.bl true, H1, I1, rfl, q1⟩
theorem pe_not (ha : PE X a ta) : PE X (.UnaryOp .Not a pos) (tNotV ta) := by
 intro pins s σ H Q I h
 refine UnaryOp_ (thn (ha pins s σ H _ I h) fun v s1 ⟨x, H1, I1, r1, q1⟩ => ?_)
 obtain ⟨c, rfl, q1⟩ := q1
 cases r1
 exact not_of (wpAny_truthy_bool ⟨.bl (!c), H1, I1, rfl, q1⟩)
def tIf (t : TT) (ta tb : TE) : TE := fun σ H Q => t σ H fun c H1 => if c = true then ta σ H1 Q else tb σ H1 Q
theorem pe_ifExp {c : Expr} (hc : PT X c tA) (ha : PE X a ta) (hb : PE X b tb) : PE X (.IfExp c a b pos) (tIf tA ta tb) := by
 intro pins s σ H Q I h
 refine wpAny_IfExp (thn (hc pins s σ H _ I h) fun d s1 ⟨H1, I1, q1⟩ => ?_)
 cases d with
 | true => exact ha pins s1 σ H1 Q I1 q1
 | false => exact hb pins s1 σ H1 Q I1 q1
end
end L2

namespace L2
open PySem PySem.Spec PyProof.Rows

def SqL (K : PySem.W.Frag) (H : Hp) (a : Addr) (xs : List V) : Prop :=
 Rd H a (.lst xs) \/
  ∃ (o : Obj) (its : Array Value) (n : Nat), K.lookup a = some o /\ o.cls = .type "list" /\ o.dict = none /\ o.data = .seq its n /\ its.size <= sizeLine /\ Vals xs its.toList
def SqT (K : PySem.W.Frag) (H : Hp) (a : Addr) (xs : List V) : Prop :=
 Rd H a (.tup xs) \/
  ∃ (o : Obj) (its : Array Value) (n : Nat), K.lookup a = some o /\ o.cls = .type "tuple" /\ o.data = .seq its n /\ its.size <= sizeLine /\ Vals xs its.toList
def absV : Value -> Option V
 | .none => some .non
 | .bool b => some (.bl b)
 | .int i _ => some (.int i)
 | .str x _ => some (.str x)
 | .bytes b _ => some (.byt b)
 | .float b _ => some (.flt b)
 | .ref a => some (.ref a)
 | .type n => some (.ty n)
 | _ => none
theorem RelV.abs {x : V} {u : Value} (r : RelV x u) : absV u = some x := by
 cases x with
 | non => cases r; rfl
 | bl _ => cases r; rfl
 | int _ => obtain ⟨t, rfl⟩ := r; rfl
 | str _ => obtain ⟨t, rfl⟩ := r; rfl
 | byt _ => obtain ⟨t, rfl⟩ := r; rfl
 | flt _ => obtain ⟨t, rfl⟩ := r; rfl
 | ref _ => cases r; rfl
 | ty _ => cases r; rfl
theorem RelV.inj {x y : V} {u : Value} (r : RelV x u) (q : RelV y u) : x = y := Option.some.inj (r.abs.symm.trans q.abs)
theorem Vals.inj : ∀ {xs ys : List V} {us : List Value}, Vals xs us -> Vals ys us -> xs = ys
 | _, _, _, .nil, .nil => rfl
 | _, _, _, .cons r t, .cons r' t' => by rw [r.inj r', Vals.inj t t']
section
variable {X : Cx} {pins : List (Addr × Obj)} {σ : St} {H : Hp} {s : Shared} {a : Addr} {xs ys : List V}
theorem SqT.of {K : PySem.W.Frag} (h : H a = some (.tup xs)) : SqT K H a xs := .inl (.inl h)
theorem Inv.list (I : Inv X pins σ H s) (h : SqL X.K H a xs) : ∃ its : List Value, Vals xs its /\ PlainL s.heap a its.toArray /\ xs.length <= sizeLine := by
 rcases h with h | ⟨o, its, n, hk, hc, hd, hs, hz, r⟩
 ·obtain ⟨z, its, n, r, e⟩ := h.ok I.hok
  exact ⟨its, r, ⟨_, n, e, rfl, rfl, rfl⟩, z⟩
 ·refine ⟨its.toList, r, ⟨o, n, I.kIn a o hk, hc, hd, by simpa using hs⟩, ?_⟩
  have e := r.length
  simp only [Array.length_toList] at e
  omega
theorem Inv.tuple (I : Inv X pins σ H s) (h : SqT X.K H a xs) : ∃ its : List Value, Vals xs its /\ IsTup s.heap a its.toArray /\ xs.length <= sizeLine := by
 rcases h with h | ⟨o, its, n, hk, hc, hs, hz, r⟩
 ·obtain ⟨z, its, r, p⟩ := h.ok I.hok
  exact ⟨its, r, p, z⟩
 ·refine ⟨its.toList, r, ⟨o, I.kIn a o hk, hc, n, by simpa using hs⟩, ?_⟩
  have e := r.length
  simp only [Array.length_toList] at e
  omega
theorem Inv.list_inj (I : Inv X pins σ H s) (h : SqL X.K H a xs) (h' : SqL X.K H a ys) : xs = ys := by
 obtain ⟨its, r, ⟨o, n, e, _, _, d⟩, _⟩ := I.list h
 obtain ⟨its', r', ⟨o', n', e', _, _, d'⟩, _⟩ := I.list h'
 rw [e] at e'; cases e'
 rw [d] at d'
 injection d' with d1 _
 have : its = its' := by simpa using congrArg Array.toList d1
 subst this
 exact r.inj r'
theorem Inv.tuple_inj (I : Inv X pins σ H s) (h : SqT X.K H a xs) (h' : SqT X.K H a ys) : xs = ys := by
 obtain ⟨its, r, ⟨o, e, _, n, d⟩, _⟩ := I.tuple h
 obtain ⟨its', r', ⟨o', e', _, n', d'⟩, _⟩ := I.tuple h'
 rw [e] at e'; cases e'
 rw [d] at d'
 injection d' with d1 _
 have : its = its' := by simpa using congrArg Array.toList d1
 subst this
 exact r.inj r'
end

abbrev Cx.wish (X : Cx) (E : Value -> Shared -> Prop) : Cx := { X with xe := E }
abbrev Cx.nox (X : Cx) : Cx := X.wish fun _ _ => False
theorem Cx.Ok.wish {X : Cx} (ok : X.Ok) (E : Value -> Shared -> Prop) : (X.wish E).Ok :=
 ⟨ok.mod, ok.kind, ok.glob, ok.blt, ok.above, ok.inj, ok.has, ok.cab, ok.hd, ok.frames, ok.stk, ok.exf, ok.bs, ok.bsz, ok.noex, ok.exfs, ok.funs, ok.frf⟩
theorem Cx.Ok.unwish {X : Cx} {E : Value -> Shared -> Prop} (ok : (X.wish E).Ok) : X.Ok :=
 ⟨ok.mod, ok.kind, ok.glob, ok.blt, ok.above, ok.inj, ok.has, ok.cab, ok.hd, ok.frames, ok.stk, ok.exf, ok.bs, ok.bsz, ok.noex, ok.exfs, ok.funs, ok.frf⟩
section
variable {X : Cx} {pins : List (Addr × Obj)} {σ : St} {H : Hp} {s : Shared} {E : Value -> Shared -> Prop}
theorem Inv.wish (I : Inv X pins σ H s) (E : Value -> Shared -> Prop) : Inv (X.wish E) pins σ H s := ⟨I.ok.wish E, I.os, I.bare, I.base, I.loc, I.cell, I.free, I.freeC, I.pin, I.hok, I.len⟩
theorem Inv.unwish (I : Inv (X.wish E) pins σ H s) : Inv X pins σ H s := ⟨I.ok.unwish, I.os, I.bare, I.base, I.loc, I.cell, I.free, I.freeC, I.pin, I.hok, I.len⟩
theorem SP.unwish {D : Ends} {f : Flow} {s' : Shared} (h : SP (X.wish E) pins D f s') : SP X pins D f s' := by
 cases f with
 | next => obtain ⟨σ', H', I, q⟩ := h; exact ⟨σ', H', I.unwish, q⟩
 | brk => obtain ⟨σ', H', I, q⟩ := h; exact ⟨σ', H', I.unwish, q⟩
 | cont => obtain ⟨σ', H', I, q⟩ := h; exact ⟨σ', H', I.unwish, q⟩
 | ret u => obtain ⟨v, σ', H', I, r, q⟩ := h; exact ⟨v, σ', H', I.unwish, r, q⟩
theorem PSs.nox {st : List Stmt} {t : TS} (h : PSs X.nox st t) : PSs X st t := fun pins s σ H D I hw =>
 wpAny_mono (h pins s σ H D (I.wish _) hw) (fun _ _ q => q.unwish) fun _ _ z => False.elim z
end

section
variable {X : Cx} {st : Stmt} {rest : List Stmt} {t u : TS} {e : Expr} {te : TE} {pos : Pos}
def tNext : TS := fun D σ H => D.nx σ H
def tSeq (t u : TS) : TS := fun D σ H => t { D with nx := u D } σ H
theorem pss_nil : PSs X [] tNext := fun _ _ σ H _ I h => wpAny_execs_nil ⟨σ, H, I, h⟩
theorem pss_cons (h1 : PS X st t) (h2 : PSs X rest u) : PSs X (st :: rest) (tSeq t u) := by
 intro pins s σ H D I h
 refine wpAny_execs_cons (thn (h1 pins s σ H { D with nx := u D } I h) fun f s1 q => ?_)
 cases f with
 | next =>
  obtain ⟨σ', H', I', q⟩ := q
  exact h2 pins s1 σ' H' D I' q
 | ret v => exact q
 | brk => exact q
 | cont => exact q
theorem pss_one (h1 : PS X st t) : PSs X [st] t := by
 intro pins s σ H D I h
 refine wpAny_execs_cons (thn (h1 pins s σ H D I h) fun f s1 q => ?_)
 cases f with
 | next => exact wpAny_execs_nil q
 | ret v => exact q
 | brk => exact q
 | cont => exact q
def tBreak : TS := fun D σ H => D.bk σ H
theorem ps_break : PS X (.Break pos) tBreak := fun _ _ σ H _ I h => wpAny_Break ⟨σ, H, I, h⟩
theorem Inv.quiet {pins : List (Addr × Obj)} {σ : St} {H : Hp} {s : Shared} (I : Inv X pins σ H s) : interactive X.env = false := by simp [interactive, I.ok.kind]
def tDrop (te : TE) : TS := fun D σ H => te σ H fun _ H1 => D.nx σ H1
theorem ps_expr (he : PE X e te) (hs : swapsWith e none pos.line X.env = pure false := by rfl) : PS X (.Expr e pos) (tDrop te) := by
 intro pins s σ H D I h
 exact wpAny_Expr_any (thn (he pins s σ H _ I h) fun v s1 ⟨x, H1, I1, r1, q1⟩ => ⟨σ, H1, I1, q1⟩) I.quiet hs
def tRet (te : TE) : TS := fun D σ H => te σ H D.rt
theorem ps_ret (he : PE X e te) : PS X (.Return (some e) pos) (tRet te) := by
 intro pins s σ H D I h
 exact wpAny_Return_some (thn (he pins s σ H _ I h) fun v s1 ⟨x, H1, I1, r1, q1⟩ => ⟨x, σ, H1, I1, r1, q1⟩)
def tIfS (c : TT) (t u : TS) : TS := fun D σ H => c σ H fun b H1 => if b = true then t D σ H1 else u D σ H1
theorem ps_if {c : Expr} {a b : List Stmt} {tc : TT} (hc : PT X c tc) (ha : PSs X a t) (hb : PSs X b u) : PS X (.If c a b pos) (tIfS tc t u) := by
 intro pins s σ H D I h
 refine wpAny_If (thn (hc pins s σ H _ I h) fun d s1 ⟨H1, I1, q1⟩ => ?_)
 cases d with
 | true => exact ha pins s1 σ H1 D I1 q1
 | false => exact hb pins s1 σ H1 D I1 q1
def tNever : TS := fun _ _ _ => False
theorem ps_never : PS X st tNever := fun _ _ _ _ _ _ h => h.elim
end

abbrev TG := V -> St -> Hp -> (St -> Hp -> Prop) -> Prop
abbrev TGs := List V -> St -> Hp -> (St -> Hp -> Prop) -> Prop
def PG (X : Cx) (target : Expr) (t : TG) : Prop :=
 ∀ (pins : List (Addr × Obj)) (s : Shared) (σ : St) (H : Hp) (v : V) (u : Value) (Q : St -> Hp -> Prop), Inv X pins σ H s -> RelV v u -> t v σ H Q ->
  wpAny (model X.prog X.w) X.A (assign target X.env u) (fun _ s' => ∃ σ' H', Inv X pins σ' H' s' /\ Q σ' H') X.xe s
def PGs (X : Cx) (ts : List Expr) (t : TGs) : Prop :=
 ∀ (pins : List (Addr × Obj)) (s : Shared) (σ : St) (H : Hp) (vs : List V) (us : List Value) (Q : St -> Hp -> Prop), Inv X pins σ H s -> Vals vs us -> t vs σ H Q ->
  wpAny (model X.prog X.w) X.A (assignInOrder ((assignEach ts X.env).map (·.2)) us) (fun _ s' => ∃ σ' H', Inv X pins σ' H' s' /\ Q σ' H') X.xe s
section
variable {X : Cx} {pos : Pos}
def gName (i : Nat) : TG := fun v σ H Q => Q (σ.set i (some v)) H
theorem pg_name {i : Nat} {x : Str} (hN : X.N.Nodup) (hi : X.N[i]? = some x) (hx : Loc X.env.scope x) (hf : X.fn x = true \/ X.env.scope.names.lookup x = some .local := by first | exact .inl rfl | exact .inr rfl | assumption) : PG X (.Name x pos) (gName i) := by
 intro pins s σ H v u Q I r h
 exact wpAny_assign_Name (store_ok I hN hi hx r (fun s' I' => ⟨_, H, I', h⟩) hf)
def gNil : TGs := fun vs σ H Q => vs = [] /\ Q σ H
def gCons (t : TG) (u : TGs) : TGs := fun vs σ H Q => ∃ v r, vs = v :: r /\ t v σ H fun σ' H' => u r σ' H' Q
theorem pgs_nil : PGs X [] gNil := by
 intro pins s σ H vs us Q I r h
 obtain ⟨e, h⟩ := h
 subst e
 cases r
 exact assignInOrder_nil ⟨σ, H, I, h⟩
theorem pgs_cons {e : Expr} {es : List Expr} {t : TG} {u : TGs} (h1 : PG X e t) (h2 : PGs X es u)
  (hs : (assignEach (e :: es) X.env).map (·.2) = assign e X.env :: (assignEach es X.env).map (·.2) := by rfl) : PGs X (e :: es) (gCons t u) := by
 intro pins s σ H vs us Q I r h
 obtain ⟨v, vr, e1, h⟩ := h
 subst e1
 cases r with
 | cons r rr =>
  rw [hs]
  refine assignInOrder_cons (thn (h1 pins s σ H _ _ _ I r h) fun _ s1 ⟨σ1, H1, I1, q1⟩ => ?_)
  exact h2 pins s1 σ1 H1 _ _ Q I1 rr q1
def gTup (K : PySem.W.Frag) (n : Nat) (t : TGs) : TG := fun v σ H Q => ∃ a xs, v = .ref a /\ SqT K H a xs /\ xs.length = n /\ t xs σ H Q
theorem pg_tup {es : List Expr} {k : Nat} {t : TGs} {n : Nat} (hc : X.calm = true) (h : PGs X es t)
  (hn : (assignEach es X.env).length = n := by rfl) (hst : (assignEach es X.env).findIdx? (·.1) = none := by rfl) : PG X (.Tuple es k pos) (gTup X.K n t) := by
 intro pins s σ H v u Q I r hw
 obtain ⟨a, xs, e1, hq, hl, hw⟩ := hw
 subst e1
 cases r
 obtain ⟨its, rv, ht, hz⟩ := I.tuple hq
 refine assign_Tuple_tuple (I.ok.hd hc) ht (by simp [hn, <- hl, rv.length]) hst fun h' hx => ?_
 have I1 : Inv X pins σ H { s with heap := h' } := I.kept (t' := s.toks) fun b o e => hx b o (Nat.ne_of_lt (Heap.lt_size e)) e
 exact h pins _ σ H xs _ Q I1 (by simpa using rv) hw
def tAsg (te : TE) (g : TG) : TS := fun D σ H => te σ H fun x H1 => g x σ H1 D.nx
theorem ps_set {i : Nat} {x : Str} {e : Expr} {te : TE} {pos' : Pos} (hN : X.N.Nodup) (hi : X.N[i]? = some x) (hx : Loc X.env.scope x) (he : PE X e te) (hs : swapsWith e (some (.Name x pos')) pos.line X.env = pure false := by rfl) (hf : X.fn x = true \/ X.env.scope.names.lookup x = some .local := by first | exact .inl rfl | exact .inr rfl | assumption) :
  PS X (.Assign [.Name x pos'] e pos) (tAsg te (gName i)) := by
 intro pins s σ H D I h
 refine wpAny_Assign_Name (thn (he pins s σ H _ I h) fun v s1 ⟨y, H1, I1, r1, q1⟩ => ?_) hs
 exact store_ok I1 hN hi hx r1 (fun s2 I2 => ⟨_, H1, I2, q1⟩) hf
end

section
variable {X : Cx} {pos : Pos}
def tWhile (c : TT) (tb : TS) : TS := fun D σ H => ∃ W : Nat -> St -> Hp -> Prop, (∃ m, W m σ H) /\ ∀ m σ H, W m σ H ->
 c σ H fun b H1 => if b = true then ∃ N : St -> Hp -> Prop, (∀ σ' H', N σ' H' -> ∃ m', m' < m /\ W m' σ' H') /\ tb { D with nx := N, ct := N, bk := D.nx } σ H1 else D.nx σ H1
theorem ps_while {c : Expr} {body : List Stmt} {tc : TT} {tb : TS} (hp : PassesOwn (model X.prog X.w) X.A X.env X.xe) (hc : PT X c tc) (hb : PSs X body tb) : PS X (.While c body [] pos) (tWhile tc tb) := by
 intro pins s σ H D I h
 obtain ⟨W, ⟨m0, w0⟩, turn⟩ := h
 refine wpAny_While (codeAny_whileLoop (fun n s' => ∃ σ' H', Inv X pins σ' H' s' /\ W n σ' H') ?_ m0 ⟨σ, H, I, w0⟩)
 rintro n s1 ⟨σ1, H1, I1, w1⟩
 refine wpAny_passesOwn hp (thn (hc pins s1 σ1 H1 _ I1 (turn n σ1 H1 w1)) fun b s2 ⟨H2, I2, q2⟩ => ?_)
 cases b with
 | true =>
  obtain ⟨N, hN, q2⟩ := q2
  rw [if_pos rfl]
  refine wpAny_passesOwn hp (thn (hb pins s2 σ1 H2 _ I2 q2) fun f s3 q3 => ?_)
  cases f with
  | next =>
   obtain ⟨σ3, H3, I3, n3⟩ := q3
   obtain ⟨m', hm, w3⟩ := hN σ3 H3 n3
   exact ⟨m', hm, σ3, H3, I3, w3⟩
  | cont =>
   obtain ⟨σ3, H3, I3, n3⟩ := q3
   obtain ⟨m', hm, w3⟩ := hN σ3 H3 n3
   exact ⟨m', hm, σ3, H3, I3, w3⟩
  | brk => exact q3
  | ret v => exact q3
 | false =>
  rw [if_neg Bool.false_ne_true]
  exact wpAny_execs_nil ⟨σ1, H2, I2, q2⟩
end

structure It where
 go : Nat -> Hp -> Prop
 yld : Nat -> Hp -> V -> Hp -> Prop
 stop : Nat -> Hp -> Prop
def FpOk (X : Cx) (pins : List (Addr × Obj)) (H : Hp) (b : Addr) : Prop :=
 H b = none /\ b ≠ X.env.locals /\ b ∉ X.fs /\ (b ∈ X.ex \/ X.s₀.heap.objs.size <= b) /\ (∀ x c, X.env.cells.lookup x = some c -> c ≠ b) /\ ∀ p ∈ X.pn ++ pins, p.1 ≠ b
theorem Inv.fpOk {X : Cx} {pins : List (Addr × Obj)} {σ : St} {H H' : Hp} {s : Shared} {b : Addr} (I : Inv X pins σ H s) (hb : s.heap.objs.size <= b) (hn : H' b = none) : FpOk X pins H' b := by
 refine ⟨hn, Nat.ne_of_gt (Nat.lt_of_lt_of_le I.lt hb), I.nofs hb, .inr (Nat.le_trans I.sz hb), fun x c e z => ?_, fun p hp z => ?_⟩
 ·obtain ⟨v, q⟩ := I.cell x c e
  exact absurd (Nat.lt_of_lt_of_le q.lt (by rw [z]; exact hb)) (Nat.lt_irrefl _)
 ·exact absurd (Nat.lt_of_lt_of_le (Heap.lt_size (I.pin p hp).1) (by rw [z]; exact hb)) (Nat.lt_irrefl _)
structure Turn (P : Program) (w : World) (K : PySem.W.Frag) (tg : Expr) (J : It) (fp : List Addr) (it : Addr) (tn : Nat -> Heap -> Prop) : Prop where
 mem : it ∈ fp
 obj : ∀ i h, tn i h -> ∀ b ∈ fp, ∃ o, h.get? b = some o /\ ∀ v, o.data ≠ .cell v
 keep : ∀ i h h', tn i h -> (∀ b ∈ fp, ∀ o, h.get? b = some o -> h'.get? b = some o) -> tn i h'
 item : ∀ (X : Cx), X.prog = P -> X.w = w -> X.K = K -> X.calm = true -> ∀ (i : Nat) (pins : List (Addr × Obj)) (s : Shared) (σ : St) (H : Hp) (E : Value -> Shared -> Prop), Inv X pins σ H s -> (∀ b ∈ fp, FpOk X pins H b) -> tn i s.heap -> J.go i H ->
  wpAny (model P w) X.A (pyNext (.ref it)) (fun r s1 => ∃ u, r = some u /\
   wpAny (model P w) X.A (letOwnedTupleGo tg (.ref it) u) (fun _ s2 => ∃ x H', Inv X pins σ H' s2 /\ RelV x u /\ J.yld i H x H' /\ tn (i + 1) s2.heap /\ ∀ b ∈ fp, H' b = none) E s1) E s
 done : ∀ (X : Cx), X.prog = P -> X.w = w -> X.K = K -> X.calm = true -> ∀ (i : Nat) (pins : List (Addr × Obj)) (s : Shared) (σ : St) (H : Hp) (E : Value -> Shared -> Prop), Inv X pins σ H s -> (∀ b ∈ fp, FpOk X pins H b) -> tn i s.heap -> J.stop i H ->
  wpAny (model P w) X.A (pyNext (.ref it)) (fun r s1 => r = none /\ Inv X pins σ H s1) E s
 self : ∀ (A : Around) (i : Nat) (s : Shared) (Q : Value -> Shared -> Prop) (E : Value -> Shared -> Prop), tn i s.heap -> Q (.ref it) s -> wpAny (model P w) A (pyIter (.ref it)) Q E s
abbrev TI := St -> Hp -> (It -> Hp -> Prop) -> Prop
def PIE (X : Cx) (pins : List (Addr × Obj)) (σ : St) (tg : Expr) (R : It -> Hp -> Prop) (itv : Value) (s2 : Shared) : Prop :=
 ∃ (it : Addr) (fp : List Addr) (tn : Nat -> Heap -> Prop) (J : It) (H' : Hp), itv = .ref it /\ Inv X pins σ H' s2 /\ Turn X.prog X.w X.K tg J fp it tn /\ tn 0 s2.heap /\ (∀ b ∈ fp, FpOk X pins H' b) /\ R J H'
def PI (X : Cx) (tg iter : Expr) (wi : TI) : Prop :=
 ∀ (pins : List (Addr × Obj)) (s : Shared) (σ : St) (H : Hp) (R : It -> Hp -> Prop), Inv X pins σ H s -> wi σ H R ->
  wpAny (model X.prog X.w) X.A (eval iter X.env) (fun v s1 => wpAny (model X.prog X.w) X.A (pyIter v) (PIE X pins σ tg R) X.xe s1) X.xe s

theorem go_of {M : Model} {A : Around} {E : Value -> Shared -> Prop} {s : Shared} {tg : Expr} {it : Addr} {u : Value} {o : Obj} {n : String} {vs : Array Value} {Q : Unit -> Shared -> Prop} (ho : s.heap.get? it = some o) (hc : o.cls = .type n) (hd : o.data = .fields vs)
    (hn : ["enumerate", "zip", "dict_itemiterator", "dict_reverseitemiterator", "odict_iterator", "itertools.zip_longest", "itertools.pairwise"].contains n = false) (hQ : Q () s) : wpAny M A (letOwnedTupleGo tg (.ref it) u) Q E s := by
  unfold letOwnedTupleGo
  cases tg <;> first
    | exact wpAny_pure hQ
    | (cases u <;> first
        | exact wpAny_pure hQ
        | (refine wpAny_bind (wpAny_load ho ?_)
           rw [hc, hd]
           show wpAny M A (if (["enumerate", "zip", "dict_itemiterator", "dict_reverseitemiterator", "odict_iterator", "itertools.zip_longest", "itertools.pairwise"].contains n && vs[0]? == some (rawInt _)) = true then _ else _) Q E s
           rw [if_neg (by intro h; rw [hn, Bool.false_and] at h; cases h)]
           exact wpAny_pure hQ))

def Itl (K : PySem.W.Frag) (a : Addr) : It :=
 ⟨fun i H => ∃ xs x, SqL K H a xs /\ xs[i]? = some x, fun i H x H' => H' = H /\ ∀ xs, SqL K H a xs -> xs[i]? = some x, fun i H => ∃ xs, SqL K H a xs /\ xs.length <= i⟩
def Itt (K : PySem.W.Frag) (a : Addr) : It :=
 ⟨fun i H => ∃ xs x, SqT K H a xs /\ xs[i]? = some x, fun i H x H' => H' = H /\ ∀ xs, SqT K H a xs -> xs[i]? = some x, fun i H => ∃ xs, SqT K H a xs /\ xs.length <= i⟩
def Itr (lo : Int) (n : Nat) : It := ⟨fun i _ => i < n, fun i H x H' => H' = H /\ x = .int (lo + i), fun i _ => n <= i⟩
theorem turn_list {P : Program} {w : World} {K : PySem.W.Frag} {tg : Expr} (a it : Addr) : Turn P w K tg (Itl K a) [it] it (fun i h => h.IsListIter it a i) where
 mem := by simp
 obj := fun i h st b hb => by
  have e : b = it := by simpa using hb
  subst e
  obtain ⟨o, e, c, d⟩ := st
  exact ⟨o, e, fun v z => by rw [d] at z; cases z⟩
 keep := fun i h h' st k => st.at fun o e => k it (by simp) o e
 item := by
  intro X hP hw hK hc i pins s σ H E I hf st hg
  subst hP hw hK
  obtain ⟨xs, x, hq, hx⟩ := hg
  obtain ⟨its, rv, p, hz⟩ := I.list hq
  obtain ⟨u, hu, ru⟩ := rv.get hx
  obtain ⟨f0, f1, f2, f3, f4, f5⟩ := hf it (by simp)
  refine wpAny_pyNext_list_item st p.isList (x := u) (by simpa using hu) fun h' st' sb => ?_
  have I1 : Inv X pins σ H { s with heap := h' } := I.turned (t' := s.toks) (fun b o hb e => (sb.2 b hb).trans e) f0 f1 f3 f4 f5
  obtain ⟨o, e, c, d⟩ := id st'
  exact ⟨u, rfl, go_of (s := { s with heap := h' }) e c d (by decide) ⟨x, H, I1, ru, ⟨rfl, fun ys hy => by rw [I.list_inj hy hq]; exact hx⟩, st', fun b hb => (hf b hb).1⟩⟩
 done := by
  intro X hP hw hK hc i pins s σ H E I hf st hg
  subst hP hw hK
  obtain ⟨xs, hq, hx⟩ := hg
  obtain ⟨its, rv, p, hz⟩ := I.list hq
  obtain ⟨f0, f1, f2, f3, f4, f5⟩ := hf it (by simp)
  have hl := rv.length
  exact wpAny_pyNext_list_end (I.ok.hd hc) st p.isList (by simp; omega) fun h' eb => ⟨rfl, I.turned (t' := s.toks) (fun b o hb e => eb b o hb e) f0 f1 f3 f4 f5⟩
 self := fun _ _ _ _ _ st h => wpAny_pyIter_listiter st h
theorem turn_tuple {P : Program} {w : World} {K : PySem.W.Frag} {tg : Expr} (a it : Addr) : Turn P w K tg (Itt K a) [it] it (fun i h => h.IsTupleIter it a i) where
 mem := by simp
 obj := fun i h st b hb => by
  have e : b = it := by simpa using hb
  subst e
  obtain ⟨o, e, c, d⟩ := st
  exact ⟨o, e, fun v z => by rw [d] at z; cases z⟩
 keep := fun i h h' st k => st.at fun o e => k it (by simp) o e
 item := by
  intro X hP hw hK hc i pins s σ H E I hf st hg
  subst hP hw hK
  obtain ⟨xs, x, hq, hx⟩ := hg
  obtain ⟨its, rv, p, hz⟩ := I.tuple hq
  obtain ⟨u, hu, ru⟩ := rv.get hx
  obtain ⟨f0, f1, f2, f3, f4, f5⟩ := hf it (by simp)
  refine wpAny_pyNext_tuple_item st (show s.heap.IsTuple a its.toArray from p) (x := u) (by simpa using hu) fun h' st' sb => ?_
  have I1 : Inv X pins σ H { s with heap := h' } := I.turned (t' := s.toks) (fun b o hb e => (sb.2 b hb).trans e) f0 f1 f3 f4 f5
  obtain ⟨o, e, c, d⟩ := id st'
  exact ⟨u, rfl, go_of (s := { s with heap := h' }) e c d (by decide) ⟨x, H, I1, ru, ⟨rfl, fun ys hy => by rw [I.tuple_inj hy hq]; exact hx⟩, st', fun b hb => (hf b hb).1⟩⟩
 done := by
  intro X hP hw hK hc i pins s σ H E I hf st hg
  subst hP hw hK
  obtain ⟨xs, hq, hx⟩ := hg
  obtain ⟨its, rv, p, hz⟩ := I.tuple hq
  obtain ⟨f0, f1, f2, f3, f4, f5⟩ := hf it (by simp)
  have hl := rv.length
  exact wpAny_pyNext_tuple_end (I.ok.hd hc) st (show s.heap.IsTuple a its.toArray from p) (by simp; omega) fun h' eb => ⟨rfl, I.turned (t' := s.toks) (fun b o hb e => eb b o hb e) f0 f1 f3 f4 f5⟩
 self := fun _ _ _ _ _ st h => wpAny_pyIter_tupleiter st h
theorem turn_range {P : Program} {w : World} {K : PySem.W.Frag} {tg : Expr} (it : Addr) (lo : Int) (n : Nat) : Turn P w K tg (Itr lo n) [it] it (fun i h => IsRangeIter h it (lo + (i : Nat) * 1) ((n : Int) - (i : Nat)) 1) where
 mem := by simp
 obj := fun i h st b hb => by
  have e : b = it := by simpa using hb
  subst e
  exact ⟨_, st, fun v z => by
   have z' : Data.fields _ = Data.cell v := z
   cases z'⟩
 keep := fun i h h' st k => k it (by simp) _ st
 item := by
  intro X hP hw hK hc i pins s σ H E I hf st hg
  subst hP hw hK
  obtain ⟨f0, f1, f2, f3, f4, f5⟩ := hf it (by simp)
  have W := Walks.range (prog := X.prog) (w := X.w) (I.ok.hd hc) it lo 1 n
  refine W.item i s _ _ hg st fun v h' tk hv st' kk => ?_
  obtain ⟨t, rfl⟩ := hv
  have I1 : Inv X pins σ H { s with heap := h', toks := tk } := I.turned (fun b o hb e => kk b o (by simpa using hb) e) f0 f1 f3 f4 f5
  refine ⟨_, rfl, go_of (s := { s with heap := h', toks := tk }) (n := "range_iterator") st' rfl rfl (by decide) ⟨.int (lo + i), H, I1, ⟨t, ?_⟩, ⟨rfl, rfl⟩, st', fun b hb => (hf b hb).1⟩⟩
  rw [Int.mul_one]
 done := by
  intro X hP hw hK hc i pins s σ H E I hf st hg
  subst hP hw hK
  obtain ⟨f0, f1, f2, f3, f4, f5⟩ := hf it (by simp)
  exact wpAny_pyNext_range_end (I.ok.hd hc) st (by have : n <= i := hg; omega) fun h' eb => ⟨rfl, I.turned (t' := s.toks) (fun b o hb e => eb b o hb e) f0 f1 f3 f4 f5⟩
 self := fun _ _ _ _ _ st h => wpAny_pyIter_rangeiter st h
end L2

namespace L2
open PySem PySem.Spec PyProof.Rows
section
variable {X : Cx} {tg : Expr}
theorem range_it {pins : List (Addr × Obj)} {σ : St} {H : Hp} {s : Shared} {R : It -> Hp -> Prop} {E : Value -> Shared -> Prop} {lo hi : Int} {t u v : Tok} {tk : Nat} (I : Inv X pins σ H s) (h1 : -(2 ^ 62) <= lo) (h2 : lo < 2 ^ 62) (h3 : -(2 ^ 62) <= hi) (h4 : hi < 2 ^ 62)
  (q : R (Itr lo (hi - lo).toNat) H) : wpAny (model X.prog X.w) X.A (pyIter (.ref s.heap.objs.size)) (PIE X pins σ tg R) E { s with heap := s.heap.push { cls := .type "range", data := .fields #[.int lo t, .int hi u, .int 1 v] }, toks := tk } := by
 refine wpAny_pyIter_range (IsRange.new ..) (small_one h1 h2 h3 h4) ?_
 have I1 : Inv X pins σ H { s with heap := s.heap.push { cls := .type "range", data := .fields #[.int lo t, .int hi u, .int 1 v] }, toks := tk } := I.kept fun b o e => Heap.get?_push_of_some _ e
 refine ⟨(s.heap.push { cls := .type "range", data := .fields #[.int lo t, .int hi u, .int 1 v] }).objs.size, [(s.heap.push { cls := .type "range", data := .fields #[.int lo t, .int hi u, .int 1 v] }).objs.size], _, _, H, rfl,
  I1.kept (t' := tk) fun b o e => Heap.get?_push_of_some _ e, turn_range _ lo (hi - lo).toNat, ?_, fun b hb => ?_, q⟩
 ·have e1 : lo + ((0 : Nat) : Int) * 1 = lo := by simp
  have e2 : (((hi - lo).toNat : Nat) : Int) - ((0 : Nat) : Int) = Builtin.Range.rangeSize lo hi 1 := by rw [rangeSize_one]; split <;> omega
  show IsRangeIter _ _ (lo + ((0 : Nat) : Int) * 1) ((((hi - lo).toNat : Nat) : Int) - ((0 : Nat) : Int)) 1
  rw [e1, e2]
  exact Heap.get?_push_size _ rfl
 ·have e : b = (s.heap.push { cls := .type "range", data := .fields #[.int lo t, .int hi u, .int 1 v] }).objs.size := by simpa using hb
  subst e
  exact I1.fpOk (Nat.le_refl _) (I1.hok.fresh (Nat.le_refl _))
def iRng1 (ta : TA) : TI := fun σ H R => ta σ H fun vs H1 => ∃ j : Int, vs = [.int j] /\ -(2 ^ 62) <= j /\ j < 2 ^ 62 /\ R (Itr 0 j.toNat) H1
theorem pi_range1 {a : Expr} {ta : TA} {p pos : Pos} (hg : Gl X "range") (hm : X.mg "range" = none) (ha : PA X [a] ta) (hs : starEach [a] X.env = [(false, eval a X.env)] := by rfl) : PI X tg (.Call (.Name "range" p) [a] [] pos) (iRng1 ta) := by
 intro pins s σ H R I h
 refine Call_ (ld_blt I hg hm boot_range (PyProof.Rows.callWith_type1 (thn (ha pos pins s σ H _ I h) fun us s1 ⟨vs, H1, I1, r1, q1⟩ => ?_) hs rfl))
 obtain ⟨j, e, q1, q2, q⟩ := q1
 subst e
 cases r1 with
 | cons r rr =>
  cases rr
  obtain ⟨t, rfl⟩ := r
  exact call_range_1 (range_it I1 (by omega) (by omega) q1 q2 (by simpa using q))
def tFor (wi : TI) (g : TG) (tb : TS) : TS := fun D σ H => wi σ H fun J H1 => ∃ W : Nat -> Nat -> St -> Hp -> Prop, (∃ m, W 0 m σ H1) /\ ∀ i m σ H, W i m σ H ->
 (J.stop i H /\ D.nx σ H) \/ (J.go i H /\ ∃ N : St -> Hp -> Prop, (∀ σ' H', N σ' H' -> ∃ m', m' < m /\ W (i + 1) m' σ' H') /\ ∀ x H', J.yld i H x H' -> g x σ H' fun σ2 H2 => tb { D with nx := N, ct := N, bk := D.nx } σ2 H2)
def pinsAt (fp : List Addr) (h : Heap) : List (Addr × Obj) := fp.filterMap fun b => (h.get? b).map fun o => (b, o)
theorem mem_pinsAt {fp : List Addr} {h : Heap} {b : Addr} {o : Obj} (hb : b ∈ fp) (e : h.get? b = some o) : (b, o) ∈ pinsAt fp h := List.mem_filterMap.mpr ⟨b, hb, by rw [e]; rfl⟩
theorem of_pinsAt {fp : List Addr} {h : Heap} {p : Addr × Obj} (hp : p ∈ pinsAt fp h) : p.1 ∈ fp /\ h.get? p.1 = some p.2 := by
 obtain ⟨b, hb, e⟩ := List.mem_filterMap.mp hp
 cases q : h.get? b with
 | none => rw [q] at e; cases e
 | some o =>
  rw [q] at e
  have e' : (b, o) = p := Option.some.inj e
  subst e'
  exact ⟨hb, q⟩
theorem Inv.pinned {pins : List (Addr × Obj)} {σ : St} {H : Hp} {s : Shared} {fp : List Addr} (I : Inv X pins σ H s) (hf : ∀ b ∈ fp, FpOk X pins H b) (ho : ∀ b ∈ fp, ∃ o, s.heap.get? b = some o /\ ∀ v, o.data ≠ .cell v) : Inv X (pins ++ pinsAt fp s.heap) σ H s :=
 I.pins_of fun p hp => (List.mem_append.mp hp).elim (fun z => I.pin p (List.mem_append_right _ z)) fun z => by
  obtain ⟨hb, e⟩ := of_pinsAt z
  obtain ⟨f0, f1, f2, _⟩ := hf p.1 hb
  obtain ⟨o, e', d⟩ := ho p.1 hb
  rw [e] at e'; cases e'
  exact ⟨e, f0, f1, f2, d⟩
theorem Inv.unpinned {pins pl : List (Addr × Obj)} {σ : St} {H : Hp} {s : Shared} (I : Inv X (pins ++ pl) σ H s) : Inv X pins σ H s := I.pins_of fun p hp => I.pin p (List.mem_append_right _ (List.mem_append_left _ hp))
theorem ps_for {iter : Expr} {body : List Stmt} {wi : TI} {g : TG} {tb : TS} {pos : Pos} (hp : PassesOwn (model X.prog X.w) X.A X.env X.xe) (hc : X.calm = true) (hi : PI X tg iter wi) (hg : PG X tg g) (hb : PSs X body tb)
  (hs : ∀ x, foldedSetIterable iter X.env x = pure x := by intro _; rfl) : PS X (.For tg iter body [] pos) (tFor wi g tb) := by
 intro pins s σ H D I h
 refine wpAny_For (thn (hi pins s σ H _ I h) fun v s1 h1 => thn h1 fun itv s2 h2 => ?_) hs
 obtain ⟨it, fp, tn, J, H2, e, I2, T, st2, f2, W, ⟨m0, w0⟩, turn⟩ := h2
 subst e
 have stat : ∀ {H' : Hp}, (∀ b ∈ fp, H' b = none) -> ∀ b ∈ fp, FpOk X pins H' b := fun hn b hb => ⟨hn b hb, (f2 b hb).2⟩
 refine codeAny_forLoop_any (fun n s' => ∃ i σ' H', Inv X pins σ' H' s' /\ tn i s'.heap /\ (∀ b ∈ fp, H' b = none) /\ W i n σ' H') ?_ m0 ⟨0, σ, H2, I2, st2, fun b hb => (f2 b hb).1, w0⟩
 rintro n s3 ⟨i, σ3, H3, I3, st3, fr3, w3⟩
 rcases turn i n σ3 H3 w3 with ⟨stop, qn⟩ | ⟨go, N, hN, step⟩
 ·refine wpAny_passesOwn hp (thn (T.done X rfl rfl rfl hc i pins s3 σ3 H3 X.xe I3 (stat fr3) st3 stop) fun r s4 ⟨hr, I4⟩ => ?_)
  subst hr
  exact wpAny_execs_nil ⟨σ3, H3, I4, qn⟩
 ·refine wpAny_passesOwn hp (thn (T.item X rfl rfl rfl hc i pins s3 σ3 H3 X.xe I3 (stat fr3) st3 go) fun r s4 ⟨u, hr, h4⟩ => ?_)
  subst hr
  refine wpAny_passesOwn hp (thn h4 fun _ s5 ⟨x, H5, I5, r5, y5, st5, fr5⟩ => ?_)
  have I5' := I5.pinned (stat fr5) (T.obj _ _ st5)
  refine wpAny_passesOwn hp (thn (hg _ s5 σ3 H5 x u _ I5' r5 (step x H5 y5)) fun _ s6 ⟨σ6, H6, I6, q6⟩ => ?_)
  refine wpAny_passesOwn hp (thn (hb _ s6 σ6 H6 _ I6 q6) fun f s7 q7 => ?_)
  have again : ∀ {σ7 : St} {H7 : Hp}, Inv X (pins ++ pinsAt fp s5.heap) σ7 H7 s7 -> N σ7 H7 -> ∃ m, m < n /\ ∃ i σ' H', Inv X pins σ' H' s7 /\ tn i s7.heap /\ (∀ b ∈ fp, H' b = none) /\ W i m σ' H' := fun {σ7 H7} I7 n7 => by
   obtain ⟨m', hm, w7⟩ := hN σ7 H7 n7
   refine ⟨m', hm, i + 1, σ7, H7, I7.unpinned, T.keep _ _ _ st5 fun b hb o e => (I7.pin (b, o) (List.mem_append_right _ (List.mem_append_right _ (mem_pinsAt hb e)))).1, fun b hb => ?_, w7⟩
   obtain ⟨o, e, d⟩ := T.obj _ _ st5 b hb
   exact (I7.pin (b, o) (List.mem_append_right _ (List.mem_append_right _ (mem_pinsAt hb e)))).2.1
  cases f with
  | next => obtain ⟨σ7, H7, I7, n7⟩ := q7; exact again I7 n7
  | cont => obtain ⟨σ7, H7, I7, n7⟩ := q7; exact again I7 n7
  | brk => obtain ⟨σ7, H7, I7, q7⟩ := q7; exact ⟨σ7, H7, I7.unpinned, q7⟩
  | ret v => obtain ⟨x7, σ7, H7, I7, r7, q7⟩ := q7; exact ⟨x7, σ7, H7, I7.unpinned, r7, q7⟩
end

end L2

namespace L2
open PySem PySem.Spec PyProof.Rows

abbrev R2 := V -> V -> Hp -> VK -> Prop
def OpR (X : Cx) (f : Value -> Value -> Sem Value) (r : R2) : Prop :=
 ∀ (pins : List (Addr × Obj)) (s : Shared) (σ : St) (H : Hp) (x y : V) (v u : Value) (Q : VK), Inv X pins σ H s -> RelV x v -> RelV y u -> r x y H Q ->
  wpAny (model X.prog X.w) X.A (f v u) (EP X pins σ Q) X.xe s
def UnR (X : Cx) (f : Value -> Sem Value) (r : V -> Hp -> VK -> Prop) : Prop :=
 ∀ (pins : List (Addr × Obj)) (s : Shared) (σ : St) (H : Hp) (x : V) (v : Value) (Q : VK), Inv X pins σ H s -> RelV x v -> r x H Q ->
  wpAny (model X.prog X.w) X.A (f v) (EP X pins σ Q) X.xe s
def CallR (X : Cx) (f : Value) (r : List V -> Hp -> VK -> Prop) : Prop :=
 ∀ (pins : List (Addr × Obj)) (s : Shared) (σ : St) (H : Hp) (xs : List V) (us : List Value) (Q : VK), Inv X pins σ H s -> Vals xs us -> r xs H Q ->
  wpAny (model X.prog X.w) X.A (call f us) (EP X pins σ Q) X.xe s
def TruR (X : Cx) (r : V -> Hp -> (Bool -> Hp -> Prop) -> Prop) : Prop :=
 ∀ (pins : List (Addr × Obj)) (s : Shared) (σ : St) (H : Hp) (x : V) (v : Value) (Q : Bool -> Hp -> Prop), Inv X pins σ H s -> RelV x v -> r x H Q ->
  wpAny (model X.prog X.w) X.A (truthy v) (TP X pins σ Q) X.xe s

def tOp (r : R2) (ta tb : TE) : TE := fun σ H Q => ta σ H fun x H1 => tb σ H1 fun y H2 => r x y H2 Q
def tUn (r : V -> Hp -> VK -> Prop) (ta : TE) : TE := fun σ H Q => ta σ H fun x H1 => r x H1 Q
def rI (C : Int -> Int -> Prop) (g : Int -> Int -> V) : R2 := fun x y H Q => ∃ i j, x = .int i /\ y = .int j /\ C i j /\ Q (g i j) H
def rI0 (g : Int -> Int -> V) : R2 := fun x y H Q => ∃ i j, x = .int i /\ y = .int j /\ Q (g i j) H
def rU (g : Int -> V) : V -> Hp -> VK -> Prop := fun x H Q => ∃ i, x = .int i /\ Q (g i) H

section
variable {X : Cx} {a b c : Expr} {ta tb tc : TE} {pos : Pos}

theorem binT (ha : PE X a ta) (hb : PE X b tb) {pins : List (Addr × Obj)} {s : Shared} {σ : St} {H : Hp} {R : V -> V -> Hp -> Prop} (I : Inv X pins σ H s)
  (h : ta σ H fun x H1 => tb σ H1 fun y H2 => R x y H2) {Q : Value -> Shared -> Prop} {f : Value -> Value -> Sem Value}
  (hf : ∀ v u s2 x y H2, Inv X pins σ H2 s2 -> RelV x v -> RelV y u -> R x y H2 -> wpAny (model X.prog X.w) X.A (f v u) Q X.xe s2) :
  wpAny (model X.prog X.w) X.A (eval a X.env) (fun v s₁ => wpAny (model X.prog X.w) X.A (eval b X.env) (fun u s₂ => wpAny (model X.prog X.w) X.A (f v u) Q X.xe s₂) X.xe s₁) X.xe s := by
 refine thn (ha pins s σ H _ I h) fun v s1 ⟨x, H1, I1, r1, q1⟩ => ?_
 refine thn (hb pins s1 σ H1 _ I1 q1) fun u s2 ⟨y, H2, I2, r2, q2⟩ => ?_
 exact hf v u s2 x y H2 I2 r1 r2 q2

theorem pe_op {op : Operator} {r : R2} (ho : OpR X (binaryOp op) r) (ha : PE X a ta) (hb : PE X b tb) : PE X (.BinOp a op b pos) (tOp r ta tb) := by
 intro pins s σ H Q I h
 exact wpAny_BinOp (binT ha hb I h fun v u s2 x y H2 I2 rx ry q => ho pins s2 σ H2 x y v u Q I2 rx ry q)
theorem pe_un {op : UnaryOp} {r : V -> Hp -> VK -> Prop} (ho : UnR X (unaryOp op) r) (ha : PE X a ta) : PE X (.UnaryOp op a pos) (tUn r ta) := by
 intro pins s σ H Q I h
 exact UnaryOp_ (thn (ha pins s σ H _ I h) fun v s1 ⟨x, H1, I1, r1, q1⟩ => ho pins s1 σ H1 x v Q I1 r1 q1)
theorem opI {f : Value -> Value -> Sem Value} {C : Int -> Int -> Prop} {g : Int -> Int -> Int}
  (rule : ∀ (i j : Int) (t u : Tok) (s : Shared) (Q : Value -> Shared -> Prop) (E : Value -> Shared -> Prop), C i j -> Q (.int (g i j) s.toks) { s with toks := s.toks + 1 } -> wpAny (model X.prog X.w) X.A (f (.int i t) (.int j u)) Q E s) :
  OpR X f (rI C fun i j => .int (g i j)) := by
 intro pins s σ H x y v u Q I rx ry h
 obtain ⟨i, j, rfl, rfl, hc, q⟩ := h
 obtain ⟨t, rfl⟩ := rx
 obtain ⟨t', rfl⟩ := ry
 exact rule i j t t' s _ _ hc ⟨.int (g i j), H, I.tok _, ⟨_, rfl⟩, q⟩
theorem opI0 {f : Value -> Value -> Sem Value} {g : Int -> Int -> Int}
  (rule : ∀ (i j : Int) (t u : Tok) (s : Shared) (Q : Value -> Shared -> Prop) (E : Value -> Shared -> Prop), Q (.int (g i j) s.toks) { s with toks := s.toks + 1 } -> wpAny (model X.prog X.w) X.A (f (.int i t) (.int j u)) Q E s) :
  OpR X f (rI0 fun i j => .int (g i j)) := by
 intro pins s σ H x y v u Q I rx ry h
 obtain ⟨i, j, rfl, rfl, q⟩ := h
 obtain ⟨t, rfl⟩ := rx
 obtain ⟨t', rfl⟩ := ry
 exact rule i j t t' s _ _ ⟨.int (g i j), H, I.tok _, ⟨_, rfl⟩, q⟩
theorem opB0 {f : Value -> Value -> Sem Value} {g : Int -> Int -> Bool}
  (rule : ∀ (i j : Int) (t u : Tok) (s : Shared) (Q : Value -> Shared -> Prop) (E : Value -> Shared -> Prop), Q (.bool (g i j)) s -> wpAny (model X.prog X.w) X.A (f (.int i t) (.int j u)) Q E s) :
  OpR X f (rI0 fun i j => .bl (g i j)) := by
 intro pins s σ H x y v u Q I rx ry h
 obtain ⟨i, j, rfl, rfl, q⟩ := h
 obtain ⟨t, rfl⟩ := rx
 obtain ⟨t', rfl⟩ := ry
 exact rule i j t t' s _ _ ⟨.bl (g i j), H, I, rfl, q⟩

def CMul (i j : Int) : Prop := (-(2 ^ 64) < i /\ i < 2 ^ 64) \/ (-(2 ^ 64) < j /\ j < 2 ^ 64)
theorem CMul.ok {i j : Int} (h : CMul i j) : IntMulOk i j := by
 rcases h with ⟨h1, h2⟩ | ⟨h1, h2⟩
 ·exact .of_left (intBits_le_64 h1 h2)
 ·exact .of_right (intBits_le_64 h1 h2)
theorem op_add : OpR X (binaryOp .Add) (rI0 fun i j => .int (i + j)) := opI0 fun _ _ _ _ _ _ _ q => add_int q
theorem op_sub : OpR X (binaryOp .Sub) (rI0 fun i j => .int (i - j)) := opI0 fun _ _ _ _ _ _ _ q => sub_int q
theorem op_mul : OpR X (binaryOp .Mult) (rI CMul fun i j => .int (i * j)) := opI fun _ _ _ _ _ _ _ hc q => mul_int q hc.ok
theorem op_mod : OpR X (binaryOp .Mod) (rI (fun _ j => 0 < j) fun i j => .int (i % j)) := opI fun i j _ _ _ _ _ hc q => by
 have h1 : (0 : Int) < j := hc
 exact mod_int' (by omega) (by rw [Int.fmod_eq_emod_of_nonneg i (by omega)]; exact q)
theorem unI {f : Value -> Sem Value} {g : Int -> Int}
  (rule : ∀ (i : Int) (t : Tok) (s : Shared) (Q : Value -> Shared -> Prop) (E : Value -> Shared -> Prop), Q (.int (g i) s.toks) { s with toks := s.toks + 1 } -> wpAny (model X.prog X.w) X.A (f (.int i t)) Q E s) :
  UnR X f (rU fun i => .int (g i)) := by
 intro pins s σ H x v Q I rx h
 obtain ⟨i, rfl, q⟩ := h
 obtain ⟨t, rfl⟩ := rx
 exact rule i t s _ _ ⟨.int (g i), H, I.tok _, ⟨_, rfl⟩, q⟩
theorem un_neg : UnR X (unaryOp .USub) (rU fun i => .int (-i)) := unI fun _ _ _ _ _ q => neg_int q
end

section
variable {X : Cx} {a b c : Expr} {ta tb tc : TE} {pos : Pos}
theorem fin_bl {pins : List (Addr × Obj)} {σ : St} {H : Hp} {s : Shared} {Q : VK} {k k' : Bool} (I : Inv X pins σ H s) (q : Q (.bl k) H) (e : k = k') : EP X pins σ Q (.bool k') s := by
 subst e
 exact ⟨.bl k, H, I, rfl, q⟩
theorem op_lt : OpR X (compareOp .Lt) (rI0 fun i j => .bl (decide (i < j))) := opB0 fun _ _ _ _ _ _ _ q => lt_int q
theorem op_le : OpR X (compareOp .LtE) (rI0 fun i j => .bl (decide (i <= j))) := opB0 fun _ _ _ _ _ _ _ q => le_int q
theorem op_gt : OpR X (compareOp .Gt) (rI0 fun i j => .bl (decide (j < i))) := opB0 fun _ _ _ _ _ _ _ q => gt_int q
theorem op_ge : OpR X (compareOp .GtE) (rI0 fun i j => .bl (decide (j <= i))) := opB0 fun _ _ _ _ _ _ _ q => ge_int q
theorem op_in_str : OpR X (compareOp .In) (fun x y H Q => ∃ i j, x = .str i /\ y = .str j /\ Q (.bl (!(Builtin.Str.occurrences j i 0 j.length 1).isEmpty)) H) := by
 intro pins s σ H x y v u Q I rx ry h
 obtain ⟨i, j, rfl, rfl, q⟩ := h
 obtain ⟨t, rfl⟩ := rx
 obtain ⟨t', rfl⟩ := ry
 exact in_str (fin_bl I q rfl)

theorem OpR.or {f : Value -> Value -> Sem Value} {r r' : R2} (h : OpR X f r) (h' : OpR X f r') : OpR X f (fun x y H Q => r x y H Q \/ r' x y H Q) := by
 intro pins s σ H x y v u Q I rx ry q
 rcases q with q | q
 ·exact h pins s σ H x y v u Q I rx ry q
 ·exact h' pins s σ H x y v u Q I rx ry q

theorem nomark (b : Expr) {op : CmpOp} (h : op ≠ .In := by decide) (h2 : op ≠ .NotIn := by decide) : behindInMarks op b = false := by
 have e1 : (op == CmpOp.In) = false := by cases op <;> first | rfl | exact absurd rfl h
 have e2 : (op == CmpOp.NotIn) = false := by cases op <;> first | rfl | exact absurd rfl h2
 cases b <;> simp [behindInMarks, e1, e2]
theorem pe_cmpR {op : CmpOp} {r : R2} (ho : OpR X (compareOp op) r) (ha : PE X a ta) (hb : PE X b tb) (hm : behindInMarks op b = false) : PE X (.Compare a [op] [b] pos) (tOp r ta tb) := by
 intro pins s σ H Q I h
 exact wpAny_Compare1 (binT ha hb I h fun v u s2 x y H2 I2 rx ry q => ho pins s2 σ H2 x y v u Q I2 rx ry q) hm
def tTest (t : TE) : TT := fun σ H Q => t σ H fun x H' => ∃ k, x = .bl k /\ Q k H'
theorem pt_cmpR {op : CmpOp} {r : R2} (ho : OpR X (compareOp op) r) (ha : PE X a ta) (hb : PE X b tb) (hm : behindInMarks op b = false) : PT X (.Compare a [op] [b] pos) (tTest (tOp r ta tb)) := by
 intro pins s σ H Q I h
 refine wpAny_isTrue_Compare1 (thn (ha pins s σ H _ I h) fun v s1 ⟨x, H1, I1, r1, q1⟩ => thn (hb pins s1 σ H1 _ I1 q1) fun u s2 ⟨y, H2, I2, r2, q2⟩ =>
  thn (ho pins s2 σ H2 x y v u _ I2 r1 r2 q2) fun c s3 ⟨z, H3, I3, r3, k, e, q3⟩ => ?_) hm
 subst e
 cases r3
 exact wpAny_truthy_bool ⟨H3, I3, q3⟩
def tChain (r r' : R2) (ta tb tc : TE) : TE := fun σ H Q => ta σ H fun x H1 => tb σ H1 fun y H2 => r x y H2 fun z H3 => ∃ k, z = .bl k /\
 (if k = true then tc σ H3 fun w' H4 => r' y w' H4 Q else Q (.bl false) H3)
theorem pe_chain {op op' : CmpOp} {r r' : R2} (ho : OpR X (compareOp op) r) (ho' : OpR X (compareOp op') r') (ha : PE X a ta) (hb : PE X b tb) (hc : PE X c tc)
  (hm : lastMarks [op, op'] [b, c] = false := by with_unfolding_all rfl) : PE X (.Compare a [op, op'] [b, c] pos) (tChain r r' ta tb tc) := by
 intro pins s σ H Q I h
 refine Compare_chain (thn (ha pins s σ H _ I h) fun v s1 ⟨x, H1, I1, r1, q1⟩ => chain_link (thn (hb pins s1 σ H1 _ I1 q1) fun u s2 ⟨y, H2, I2, r2, q2⟩ =>
  thn (ho pins s2 σ H2 x y v u _ I2 r1 r2 q2) fun d s3 ⟨z, H3, I3, r3, k, e, q3⟩ => ?_)) hm
 subst e
 cases r3
 refine wpAny_truthy_bool ?_
 cases k with
 | false => exact ite_ff ⟨.bl false, H3, I3, rfl, q3⟩
 | true => exact ite_tt (chain_last (thn (hc pins s3 σ H3 _ I3 q3) fun w' s4 ⟨z', H4, I4, r4, q4⟩ => ho' pins s4 σ H4 y z' u w' Q I4 r2 r4 q4))
theorem pt_chain {op op' : CmpOp} {r r' : R2} (ho : OpR X (compareOp op) r) (ho' : OpR X (compareOp op') r') (ha : PE X a ta) (hb : PE X b tb) (hc : PE X c tc)
  (hm : lastMarks [op, op'] [b, c] = false := by with_unfolding_all rfl) : PT X (.Compare a [op, op'] [b, c] pos) (tTest (tChain r r' ta tb tc)) := by
 intro pins s σ H Q I h
 refine isTrue_chain (thn (ha pins s σ H _ I h) fun v s1 ⟨x, H1, I1, r1, q1⟩ => test_link (thn (hb pins s1 σ H1 _ I1 q1) fun u s2 ⟨y, H2, I2, r2, q2⟩ =>
  thn (ho pins s2 σ H2 x y v u _ I2 r1 r2 q2) fun d s3 ⟨z, H3, I3, r3, k, e, q3⟩ => ?_)) hm
 subst e
 cases r3
 refine wpAny_truthy_bool ?_
 cases k with
 | false =>
  obtain ⟨k', e', q'⟩ := q3
  cases e'
  exact ite_ff ⟨H3, I3, q'⟩
 | true =>
  refine ite_tt (test_last (thn (hc pins s3 σ H3 _ I3 q3) fun w' s4 ⟨z', H4, I4, r4, q4⟩ => thn (ho' pins s4 σ H4 y z' u w' _ I4 r2 r4 q4) fun d' s5 ⟨z2, H5, I5, r5, k2, e2, q5⟩ => ?_))
  subst e2
  cases r5
  exact wpAny_truthy_bool ⟨H5, I5, q5⟩

def TruV (K : PySem.W.Frag) (x : V) (H : Hp) (k : Bool) : Prop :=
 match x with
 | .non => k = false
 | .bl b => k = b
 | .int i => k = (i != 0)
 | .str y => y.length <= sizeLine /\ k = ((y.length : Int) != 0)
 | .byt y => y.size <= sizeLine /\ k = ((y.size : Int) != 0)
 | .ref p => (∃ xs, SqL K H p xs /\ k = !xs.isEmpty) \/ (∃ xs, SqT K H p xs /\ k = !xs.isEmpty) \/ ∃ kvs, H p = some (.dK kvs) /\ k = !kvs.isEmpty
 | _ => False
theorem isEmpty_kv {κ : Type} {kvs : List (κ × V)} {vs : List (κ × Value)} (r : KV kvs vs) : (!vs.isEmpty) = !kvs.isEmpty := by
 cases r <;> rfl
theorem isEmpty_of {xs : List V} {its : List Value} (r : Vals xs its) : (!its.toArray.isEmpty) = !xs.isEmpty := by
 cases r <;> simp
theorem line63 : (sizeLine : Nat) < 2 ^ 63 := by rw [sizeLine_eq]; decide
theorem tru_ok : TruR X (fun x H Q => ∃ k, TruV X.K x H k /\ Q k H) := by
 intro pins s σ H x v Q I rx h
 obtain ⟨k, e, q⟩ := h
 have hl := line63
 have hs : sizeLine = 16777216 := sizeLine_eq
 cases x with
 | non =>
  cases rx
  have e' : k = false := e
  subst e'
  exact truthy_none ⟨H, I, q⟩
 | bl b =>
  cases rx
  have e' : k = b := e
  subst e'
  exact wpAny_truthy_bool ⟨H, I, q⟩
 | int i =>
  obtain ⟨t, rfl⟩ := rx
  have e' : k = (i != 0) := e
  subst e'
  exact PySem.P.truthy_int ⟨H, I, q⟩
 | str y =>
  obtain ⟨t, rfl⟩ := rx
  obtain ⟨hy, e'⟩ : y.length <= sizeLine /\ k = ((y.length : Int) != 0) := e
  subst e'
  exact PySem.P.truthy_str (by omega) ⟨H, I.tok _, q⟩
 | byt y =>
  obtain ⟨t, rfl⟩ := rx
  obtain ⟨hy, e'⟩ : y.size <= sizeLine /\ k = ((y.size : Int) != 0) := e
  subst e'
  exact PySem.W.truthy_bytes (by omega) ⟨H, I.tok _, q⟩
 | ref p =>
  cases rx
  have e' : (∃ xs, SqL X.K H p xs /\ k = !xs.isEmpty) \/ (∃ xs, SqT X.K H p xs /\ k = !xs.isEmpty) \/ ∃ kvs, H p = some (.dK kvs) /\ k = !kvs.isEmpty := e
  rcases e' with ⟨xs, hx, e'⟩ | ⟨xs, hx, e'⟩ | ⟨kvs, hx, e'⟩
  ·subst e'
   obtain ⟨its, r, pl, hz⟩ := I.list hx
   have hlen := r.length
   exact wpAny_truthy_list pl.isList (by simp only [List.size_toArray]; omega) ⟨H, I.tok _, by rw [isEmpty_of r]; exact q⟩
  ·subst e'
   obtain ⟨its, r, pl, hz⟩ := I.tuple hx
   have hlen := r.length
   exact truthy_tuple pl (by simp only [List.size_toArray]; omega) ⟨H, I.tok _, by rw [isEmpty_of r]; exact q⟩
  ·subst e'
   obtain ⟨hz, hS, vs, r, m⟩ : kvs.length <= sizeLine /\ (p == sysModules) = false /\ ∃ vs, KV kvs vs /\ s.heap.DictOf (mixKind X.prog X.w) p vs := I.hok p _ hx
   have hlen : kvs.length = vs.length := Paired.length r
   exact wpAny_truthy_dict hS m (by omega) ⟨H, I.tok _, by rw [isEmpty_kv r]; exact q⟩
 | _ => exact (show False from e).elim
theorem pt_truth (ha : PE X a ta) (he : ∀ whole, isTrue a X.env whole = (do let v <- whole; standAt a.pos; holding [v] (truthy v))) :
  PT X a (fun σ H Q => ta σ H fun x H' => ∃ k, TruV X.K x H' k /\ Q k H') := by
 intro pins s σ H Q I h
 exact isTrue_plain (thn (ha pins s σ H _ I h) fun v s1 ⟨x, H1, I1, r1, q1⟩ => tru_ok pins s1 σ H1 x v Q I1 r1 q1) (he _)

theorem op_add_str : OpR X (binaryOp .Add) (fun x y H Q => ∃ i j, x = .str i /\ y = .str j /\ i.length + j.length <= sizeLine /\ Q (.str (i ++ j)) H) := by
 intro pins s σ H x y v u Q I rx ry h
 obtain ⟨i, j, rfl, rfl, hz, q⟩ := h
 obtain ⟨t, rfl⟩ := rx
 obtain ⟨t', rfl⟩ := ry
 exact add_str (fun t' tk => ⟨.str (i ++ j), H, I.tok _, ⟨_, rfl⟩, q⟩) hz
theorem vals1 {x : V} {us : List Value} (r : Vals [x] us) : ∃ u, us = [u] /\ RelV x u := by
 cases r with
 | cons r1 r2 => cases r2; exact ⟨_, rfl, r1⟩
theorem vals2 {x y : V} {us : List Value} (r : Vals [x, y] us) : ∃ u w', us = [u, w'] /\ RelV x u /\ RelV y w' := by
 cases r with
 | cons r1 r2 =>
  cases r2 with
  | cons r3 r4 => cases r4; exact ⟨_, _, rfl, r1, r3⟩
theorem call_max2 (hc : X.calm = true) : CallR X (.builtin "max") (fun xs H Q => ∃ i j, xs = [.int i, .int j] /\ Q (.int (if j > i then j else i)) H) := by
 intro pins s σ H xs us Q I r h
 obtain ⟨i, j, rfl, q⟩ := h
 obtain ⟨u, w', rfl, ⟨t, rfl⟩, ⟨t', rfl⟩⟩ := vals2 r
 refine max_two_ints (I.ok.hd hc) fun h' tk k => ⟨_, H, I.kept k, ?_, q⟩
 by_cases hj : j > i
 ·rw [if_pos hj, if_pos hj]; exact ⟨_, rfl⟩
 ·rw [if_neg hj, if_neg hj]; exact ⟨_, rfl⟩
theorem call_int1 : CallR X (.type "int") (fun xs H Q => (∃ i, xs = [.int i] /\ Q (.int i) H) \/ ∃ k, xs = [.bl k] /\ Q (.int (if k then 1 else 0)) H) := by
 intro pins s σ H xs us Q I r h
 rcases h with ⟨i, rfl, q⟩ | ⟨k, rfl, q⟩
 ·obtain ⟨u, rfl, t, rfl⟩ := vals1 r
  exact call_int_int ⟨.int i, H, I, ⟨_, rfl⟩, q⟩
 ·obtain ⟨u, rfl, r1⟩ := vals1 r
  cases r1
  exact call_int_bool ⟨.int (if k then 1 else 0), H, I.tok _, ⟨_, rfl⟩, q⟩
theorem call_str_int : CallR X (.type "str") (fun xs H Q => ∃ i, xs = [.int i] /\ i.natAbs.log2 < 1920 /\ Q (.str (toString i)) H) := by
 intro pins s σ H xs us Q I r h
 obtain ⟨i, rfl, hz, q⟩ := h
 obtain ⟨u, rfl, t, rfl⟩ := vals1 r
 exact PySem.P.str_of_int hz ⟨.str _, H, I.tok _, ⟨_, rfl⟩, q⟩
theorem call_ord : CallR X (.builtin "ord") (fun xs H Q => ∃ x, xs = [.str x] /\ x.length = 1 /\ Q (.int (x.cps.getD 0 0 : Nat)) H) := by
 intro pins s σ H xs us Q I r h
 obtain ⟨x, rfl, hz, q⟩ := h
 obtain ⟨u, rfl, t, rfl⟩ := vals1 r
 exact ord_of_one hz ⟨.int _, H, I.tok _, ⟨_, rfl⟩, q⟩
end
end L2

namespace L2
open PySem PySem.Spec PyProof.Rows

structure ObjM (h : Heap) (x dx C : Addr) (mA : Str -> Option Value) : Prop where
 obj : h.get? x = some (PySem.W.instObj C dx)
 ns : h.Ns1 dx mA
 ne : dx ≠ x

theorem lookIn_ns {h : Heap} {dx : Addr} {mA : Str -> Option Value} (n : h.Ns1 dx mA) : ∃ od, h.get? dx = some od /\ ∀ name, PySem.W.lookIn name od = some (mA name) := by
 obtain ⟨o, es, ep, ho, hd, hk, _, hm⟩ := n
 refine ⟨o, ho, fun name => ?_⟩
 have e := hm name
 unfold nsFind findBy at e
 rw [<- Array.find?_toList] at e
 unfold PySem.W.lookIn
 rw [hd]
 dsimp only
 split
 ·rename_i y q
  rw [q] at e
  exact congrArg some e
 ·rename_i q
  rw [q] at e
  have a : es.toList.any (·.refKey) = false := by
   rw [List.any_eq_false]
   intro y hy
   obtain ⟨z, t, hkey⟩ := hk y (Array.mem_toList_iff.mp hy)
   simp [DictEntry.refKey, hkey]
  have a' : ¬ es.toList.any (·.refKey) = true := by rw [a]; exact Bool.false_ne_true
  rw [if_neg a']
  exact congrArg some e

theorem ObjM.look {h : Heap} {x dx C : Addr} {mA : Str -> Option Value} (I : ObjM h x dx C mA) : ∃ od, PySem.W.InstAt h x (PySem.W.instObj C dx) C (some od) /\ ∀ name, PySem.W.lookIn name od = some (mA name) :=
 let ⟨od, ho, hl⟩ := lookIn_ns I.ns
 ⟨od, ⟨I.obj, rfl, rfl, ho⟩, hl⟩

section
variable {prog : Program} {w : World} {A : Around} {E : Value -> Shared -> Prop} {s : Shared} {K : PySem.W.Frag} {x dx C f : Addr} {mA : Str -> Option Value} {name : Str} {v : Value}

theorem get_map {expr : Bool} {Q : Value -> Shared -> Prop} (X : K.In s.heap) (I : ObjM s.heap x dx C mA) (hg : PySem.W.plainGet K C name = true) (hh : PySem.W.hasDictIn K C = true)
  (ha : PySem.W.findIn K (.ref C) name = some none) (hv : mA name = some v) (hv' : PySem.W.handedIn v = true) (h : Q v { s with toks := s.toks + 1 }) :
  wpAny (model prog w) A (getAttr (.ref x) name expr) Q E s := by
 obtain ⟨od, J, hl⟩ := I.look
 exact PySem.W.get_value X J (PySem.W.plainGet_of hg).1 (PySem.W.findObj_own hh ha rfl (by rw [hl, hv])) hv' h

theorem get_meth {pl : Sem Bool} {Q : Value × List Value -> Shared -> Prop} (X : K.In s.heap) (I : ObjM s.heap x dx C mA) (hg : PySem.W.plainGet K C name = true)
  (hf : PySem.W.findIn K (.ref C) name = some (some (.ref f))) (ht : PySem.W.isFn K (.ref f) = true) (hv : mA name = none) (h : Q (.ref f, [.ref x]) s) :
  wpAny (model prog w) A (getMethod (.ref x) name pl) Q E s := by
 obtain ⟨od, J, hl⟩ := I.look
 exact PySem.W.method_fn X J (PySem.W.plainGet_of hg).1 (PySem.W.plainGet_of hg).2 hf (beq_iff_eq.mp ht) (by show (PySem.W.lookIn name od).map (·.isSome) = some false; rw [hl, hv]; rfl) h

theorem set_map {ns : List Str} {Q : Unit -> Shared -> Prop} (X : K.In s.heap) (I : ObjM s.heap x dx C mA)
  (hs : PySem.W.findIn K (.ref C) "__setattr__" = some (some (.builtin "object.__setattr__"))) (hp : PySem.W.plainOver K C = true) (ht : PySem.W.takerIn K C name = some none) (hh : PySem.W.hasDictIn K C = true)
  (hw : PySem.Within mA ns) (hsz : ns.length <= sizeLine)
  (h : ∀ h', ObjM h' x dx C (fun y => if y = name then some v else mA y) -> Heap.SameBut dx s.heap h' -> Q () { s with heap := h', toks := s.toks + 2 }) :
  wpAny (model prog w) A (setAttr (.ref x) name v) Q E s := by
 obtain ⟨od, J, hl⟩ := I.look
 refine PySem.W.set_plain X J hs (PySem.W.osa_open (s := { s with toks := s.toks + 1 }) (r := none) X J hp ht fun b => ?_)
 obtain ⟨cd, hc, hd'⟩ := PySem.W.any_some hh
 have hx : s.heap.get? x = some ⟨.ref C, some dx, .plain, #[]⟩ := I.obj
 refine wpAny_bind (wpAny_pure (wpAny_bind (wpAny_bind (wpAny_loadPart hx (wpAny_bind (PySem.W.Looks.here (s := { s with toks := s.toks + 1 }) (PySem.W.looks_clsIn X hc) ?_))))))
 rw [hd']
 refine wpAny_pure (a := some dx) (wpAny_bind (wpAny_pure (wpAny_bind ?_)))
 refine wpAny_nsSet1 (s := { s with toks := s.toks + 1 }) I.ns fun h' hn2 hs2 => ?_
 obtain ⟨oD, esD, epD, hoD, hdD, hcD⟩ := hn2.count (PySem.Within.cons name v hw)
 refine wpAny_bind (wpAny_lookBehind hoD (by rw [hdD]; exact pastItsLine_dict (Nat.le_trans hcD (by rw [List.length_cons]; omega))) ?_)
 exact wpAny_pure (h _ ⟨(hs2.2 _ (Ne.symm I.ne)).trans I.obj, hn2, I.ne⟩ hs2)

theorem make_map {R : Result -> Shared -> Prop} {vs : List Value} {kw : List (Str × Value)} (X : K.In s.heap) (hm : PySem.W.makesIn K C = true)
  (hi : PySem.W.findIn K (.ref C) "__init__" = some (some (.ref f))) (hf : PySem.W.typeIn K (.ref f) = some (.type "function"))
  (h : codeAny (model prog w) (A.under (.builtin "type.__call__" ⟨.ref C :: vs, kw⟩)) (.call (.ref f) ⟨.ref (s.heap.objs.size + 1) :: vs, kw⟩) (PySem.W.InitBack (s.heap.objs.size + 1) R)
   { s with heap := (s.heap.push PySem.W.emptyDict).push (PySem.W.instObj C s.heap.objs.size) }) :
  codeAny (model prog w) A (.call (.ref C) ⟨vs, kw⟩) R s := by
 obtain ⟨hh, g, d, t, os⟩ := s
 exact PySem.W.make_core (PySem.W.makes_of X hm) (PySem.W.looks_findIn X hi) (fun self => PySem.W.bind_fn X self hf) (.inl rfl) h
theorem make_map0 {R : Result -> Shared -> Prop} (X : K.In s.heap) (hm : PySem.W.makesIn K C = true)
  (hi : PySem.W.findIn K (.ref C) "__init__" = some (some (.builtin "object.__init__")))
  (hb : ∀ self, PySem.W.Looks (model prog w) s.heap (bindSpecial (.builtin "object.__init__") self) (.builtin "object.__init__", [self]))
  (h : codeAny (model prog w) (A.under (.builtin "type.__call__" ⟨[.ref C], []⟩)) (.call (.builtin "object.__init__") ⟨[.ref (s.heap.objs.size + 1)], []⟩) (PySem.W.InitBack (s.heap.objs.size + 1) R)
   { s with heap := (s.heap.push PySem.W.emptyDict).push (PySem.W.instObj C s.heap.objs.size) }) :
  codeAny (model prog w) A (.call (.ref C) ⟨[], []⟩) R s := by
 obtain ⟨hh, g, d, t, os⟩ := s
 exact PySem.W.make_core (PySem.W.makes_of X hm) (PySem.W.looks_findIn X hi) hb (.inr ⟨rfl, rfl⟩) h
end

def putF (f : Str) (v : V) : List (Str × V) -> List (Str × V)
 | [] => [(f, v)]
 | (g, x) :: r => if g = f then (g, v) :: r else (g, x) :: putF f v r
theorem lookup_putF (f g : Str) (v : V) : ∀ fs : List (Str × V), (putF f v fs).lookup g = if g = f then some v else fs.lookup g
 | [] => by
  show List.lookup g [(f, v)] = _
  by_cases h : g = f
  ·have hb : (g == f) = true := beq_iff_eq.mpr h
   simp only [List.lookup, hb, if_pos h]
  ·have hb : (g == f) = false := beq_eq_false_iff_ne.mpr h
   simp only [List.lookup, hb, if_neg h]
 | (k, x) :: r => by
  have ih := lookup_putF f g v r
  rw [show putF f v ((k, x) :: r) = (if k = f then (k, v) :: r else (k, x) :: putF f v r) from rfl]
  by_cases hk : k = f
  ·rw [if_pos hk]
   by_cases h : g = k
   ·have hb : (g == k) = true := beq_iff_eq.mpr h
    simp only [List.lookup, hb, if_pos (h.trans hk)]
   ·have hb : (g == k) = false := beq_eq_false_iff_ne.mpr h
    simp only [List.lookup, hb, if_neg (fun e : g = f => h (e.trans hk.symm))]
  ·rw [if_neg hk]
   by_cases h : g = k
   ·have hb : (g == k) = true := beq_iff_eq.mpr h
    simp only [List.lookup, hb, if_neg (fun e : g = f => hk (h.symm.trans e))]
   ·have hb : (g == k) = false := beq_eq_false_iff_ne.mpr h
    simp only [List.lookup, hb]
    exact ih
theorem keys_putF (f : Str) (v : V) : ∀ fs : List (Str × V), f ∈ (putF f v fs).map (·.1) /\ ∀ g, g ∈ fs.map (·.1) -> g ∈ (putF f v fs).map (·.1)
 | [] => ⟨by simp [putF], fun g h => by simp at h⟩
 | (k, x) :: r => by
  obtain ⟨i1, i2⟩ := keys_putF f v r
  rw [show putF f v ((k, x) :: r) = (if k = f then (k, v) :: r else (k, x) :: putF f v r) from rfl]
  by_cases hk : k = f
  ·rw [if_pos hk]
   subst hk
   exact ⟨by simp, fun g h => by simpa using h⟩
  ·rw [if_neg hk]
   refine ⟨?_, fun g h => ?_⟩
   ·rw [List.map_cons]
    exact List.mem_cons_of_mem _ i1
   ·rw [List.map_cons] at h ⊢
    rcases List.mem_cons.mp h with e | e
    ·exact List.mem_cons.mpr (.inl e)
    ·exact List.mem_cons_of_mem _ (i2 g e)
theorem length_putF (f : Str) (v : V) : ∀ fs : List (Str × V), (putF f v fs).length <= fs.length + 1
 | [] => by simp [putF]
 | (k, x) :: r => by
  have ih := length_putF f v r
  rw [show putF f v ((k, x) :: r) = (if k = f then (k, v) :: r else (k, x) :: putF f v r) from rfl]
  by_cases hk : k = f
  ·rw [if_pos hk, List.length_cons, List.length_cons]; omega
  ·rw [if_neg hk, List.length_cons, List.length_cons]; omega

theorem RelO.some_of {v : V} {o : Option Value} (r : RelO (some v) o) : ∃ u, o = some u /\ RelV v u := by
 cases o with
 | none => exact (show False from r).elim
 | some u => exact ⟨u, rfl, r⟩
theorem RelO.none_of {o : Option Value} (r : RelO none o) : o = none := by
 cases o with
 | none => rfl
 | some u => exact (show False from r).elim
theorem handed_of {v : V} {u : Value} (r : RelV v u) : PySem.W.handedIn u = true := by
 cases v with
 | non => cases (show u = Value.none from r); rfl
 | bl b => cases (show u = Value.bool b from r); rfl
 | int i => obtain ⟨t, e⟩ := (show ∃ t, u = Value.int i t from r); cases e; rfl
 | str x => obtain ⟨t, e⟩ := (show ∃ t, u = Value.str x t from r); cases e; rfl
 | byt b => obtain ⟨t, e⟩ := (show ∃ t, u = Value.bytes b t from r); cases e; rfl
 | flt b => obtain ⟨t, e⟩ := (show ∃ t, u = Value.float b t from r); cases e; rfl
 | ref a => cases (show u = Value.ref a from r); rfl
 | ty n => cases (show u = Value.type n from r); rfl

section
variable {P : Program} {w : World} {H H' : Hp} {h h' : Heap} {a C dx : Addr} {fs fs' : List (Str × V)}
theorem ins_get (hok : HOk P w H h) (e : H a = some (.ins C dx fs)) : ∃ mA, ObjM h a dx C mA /\ (∀ f, RelO (fs.lookup f) (mA f)) /\ PySem.Within mA (fs.map (·.1)) /\ fs.length <= 1000 /\ H dx = some (.own a) := by
 obtain ⟨d, z, ne, ob, mA, n, r, q⟩ := (show ObjOk P w H h a (.ins C dx fs) from hok a _ e)
 exact ⟨mA, ⟨ob, n, ne⟩, r, q, z, d⟩
end

structure Cls (K : PySem.W.Frag) (C : Addr) : Prop where
 pg : PySem.W.plainGet K C Str.empty = true
 hd : PySem.W.hasDictIn K C = true
 po : PySem.W.plainOver K C = true
 sa : PySem.W.findIn K (.ref C) "__setattr__" = some (some (.builtin "object.__setattr__"))
theorem Cls.get {K : PySem.W.Frag} {C : Addr} (c : Cls K C) (f : Str) : PySem.W.plainGet K C f = true := c.pg
def NoAttr (K : PySem.W.Frag) (C : Addr) (f : Str) : Prop := PySem.W.findIn K (.ref C) f = some none
theorem NoAttr.taker {K : PySem.W.Frag} {C : Addr} {f : Str} (n : NoAttr K C f) : PySem.W.takerIn K C f = some none := by
 unfold PySem.W.takerIn
 rw [show PySem.W.findIn K (.ref C) f = some none from n]
 rfl
structure Meth (K : PySem.W.Frag) (C : Addr) (m : Str) (f : Addr) : Prop where
 at_ : PySem.W.findIn K (.ref C) m = some (some (.ref f))
 fn : PySem.W.isFn K (.ref f) = true
 kp : PySem.W.keepIn K (.ref f) = true

section
variable {X : Cx} {pins : List (Addr × Obj)} {σ : St} {H : Hp} {s : Shared} {a C dx : Addr} {fs : List (Str × V)} {f : Str} {v : V} {A : Around} {E : Value -> Shared -> Prop}

theorem getattr_ok {b : Bool} {Q : Value -> Shared -> Prop} (I : Inv X pins σ H s) (e : H a = some (.ins C dx fs)) (c : Cls X.K C) (n : NoAttr X.K C f) (l : fs.lookup f = some v)
  (h : ∀ u s', Inv X pins σ H s' -> RelV v u -> Q u s') : wpAny (model X.prog X.w) A (getAttr (.ref a) f b) Q E s := by
 obtain ⟨mA, O, r, _, _, _⟩ := ins_get I.hok e
 obtain ⟨u, hu, ru⟩ := RelO.some_of (v := v) (o := mA f) (by rw [<- l]; exact r f)
 exact get_map I.kIn O (c.get f) c.hd n hu (handed_of ru) (h u _ (I.tok _) ru)

theorem getmeth_ok {m : Str} {g : Addr} {pl : Sem Bool} {Q : Value × List Value -> Shared -> Prop} (I : Inv X pins σ H s) (e : H a = some (.ins C dx fs)) (c : Cls X.K C) (k : Meth X.K C m g) (l : fs.lookup m = none)
  (h : Q (.ref g, [.ref a]) s) : wpAny (model X.prog X.w) A (getMethod (.ref a) m pl) Q E s := by
 obtain ⟨mA, O, r, _, _, _⟩ := ins_get I.hok e
 have hn : mA m = none := RelO.none_of (by rw [<- l]; exact r m)
 exact get_meth I.kIn O (c.get m) k.at_ k.fn hn h

theorem setattr_ok {y : V} {u : Value} {Q : Unit -> Shared -> Prop} (I : Inv X pins σ H s) (e : H a = some (.ins C dx fs)) (c : Cls X.K C) (n : NoAttr X.K C f) (hl : fs.length < 1000) (ry : RelV y u)
  (h : ∀ s', Inv X pins σ (upd H a (.ins C dx (putF f y fs))) s' -> Q () s') : wpAny (model X.prog X.w) A (setAttr (.ref a) f u) Q E s := by
 obtain ⟨mA, O, r, wi, _, ho⟩ := ins_get I.hok e
 have hz : (fs.map (·.1)).length <= sizeLine := by rw [List.length_map, sizeLine_eq]; omega
 refine set_map I.kIn O c.sa c.po n.taker c.hd wi hz fun h' O' sb => h _ ?_
 have hd : ∃ o, h'.get? dx = some o := let ⟨o, _, _, e', _⟩ := O'.ns; ⟨o, e'⟩
 refine I.write (x := a) (e := dx) (by rw [e]; exact True.intro) (.inr ho) (fun b q hb z => (sb.2 b hb).trans z) hd ?_
 refine ⟨by rw [upd_ne O.ne]; exact ho, ?_, O.ne, O'.obj, _, O'.ns, fun g => ?_, fun g hg => ?_⟩
 ·have := length_putF f y fs; omega
 ·show RelO ((putF f y fs).lookup g) (if g = f then some u else mA g)
  rw [lookup_putF]
  by_cases q : g = f
  ·rw [if_pos q, if_pos q]; exact ry
  ·rw [if_neg q, if_neg q]; exact r g
 ·by_cases q : g = f
  ·rw [q]; exact (keys_putF f y fs).1
  ·refine (keys_putF f y fs).2 g (wi g fun z => hg ?_)
   show (if g = f then some u else mA g) = none
   rw [if_neg q]; exact z

theorem Inv.made (I : Inv X pins σ H s) : Inv X pins σ (upd (upd H s.heap.objs.size (.own (s.heap.objs.size + 1))) (s.heap.objs.size + 1) (.ins C s.heap.objs.size []))
  { s with heap := (s.heap.push PySem.W.emptyDict).push (PySem.W.instObj C s.heap.objs.size) } := by
 have e1 : (s.heap.push PySem.W.emptyDict).get? s.heap.objs.size = some PySem.W.emptyDict := Heap.get?_push_size s.heap rfl
 have e2 : ((s.heap.push PySem.W.emptyDict).push (PySem.W.instObj C s.heap.objs.size)).get? (s.heap.objs.size + 1) = some (PySem.W.instObj C s.heap.objs.size) := by
  have := Heap.get?_push_size (s.heap.push PySem.W.emptyDict) (o := PySem.W.instObj C s.heap.objs.size) rfl
  rwa [Heap.size_push] at this
 have e3 : (s.heap.push PySem.W.emptyDict).Ns s.heap.objs.size (fun _ => none) := ⟨PySem.W.emptyDict, #[], _, e1, rfl, (fun e he => absurd he (by simp)), fun _ => rfl⟩
 have I1 := I.laid (a := s.heap.objs.size) (o := .own (s.heap.objs.size + 1)) (h' := s.heap.push PySem.W.emptyDict) (t' := s.toks) (fun b u q => Heap.get?_push_of_some _ q) (Nat.le_refl _) ⟨_, e1⟩
 refine I1.laid (a := s.heap.objs.size + 1) (o := .ins C s.heap.objs.size []) (t' := s.toks) (fun b u q => Heap.get?_push_of_some _ q) (Nat.le_of_eq (Heap.size_push _ _)) ?_
 have ne : s.heap.objs.size ≠ s.heap.objs.size + 1 := Nat.ne_of_lt (Nat.lt_succ_self _)
 refine ⟨by rw [upd_ne ne, a0w], Nat.zero_le _, ne, e2, fun _ => none, (Heap.Ns1.of_empty e3).at fun o q => Heap.get?_push_of_some _ q, fun _ => True.intro, fun y hy => absurd rfl hy⟩

theorem attr_of {prog : Program} {w : World} {env : Env} {e : Expr} {f : Str} {pos : Pos} {s : Shared} {Q : Value -> Shared -> Prop} (hb : attributeBase e f env (eval e env) = eval e env)
  (h : wpAny (model prog w) A (eval e env) (fun o s₁ => wpAny (model prog w) A (getAttr o f true) Q E s₁) E s) : wpAny (model prog w) A (eval (.Attribute e f pos) env) Q E s :=
 Attribute_any_ h (by rw [arm_eval_Attribute, hb])
end

def tFld (K : PySem.W.Frag) (ta : TE) (f : Str) : TE := fun σ H Q => ta σ H fun x H1 => ∃ a C dx fs v, x = .ref a /\ H1 a = some (.ins C dx fs) /\ Cls K C /\ NoAttr K C f /\ fs.lookup f = some v /\ Q v H1
def sFld (K : PySem.W.Frag) (ta tv : TE) (f : Str) : TS := fun D σ H => tv σ H fun y H1 => ta σ H1 fun x H2 => ∃ a C dx fs, x = .ref a /\ H2 a = some (.ins C dx fs) /\ Cls K C /\ NoAttr K C f /\ fs.length < 1000 /\
 D.nx σ (upd H2 a (.ins C dx (putF f y fs)))
section
variable {X : Cx} {o e value : Expr} {f : Str} {pos pos' tpos : Pos} {ta tv : TE}
theorem pe_fld (he : PE X e ta) (hb : attributeBase e f X.env (eval e X.env) = eval e X.env) : PE X (.Attribute e f pos) (tFld X.K ta f) := by
 intro pins s σ H Q I h
 refine attr_of hb (thn (he pins s σ H _ I h) fun u s1 ⟨x, H1, I1, rx, a, C, dx, fs, v, ex, ea, c, n, l, q⟩ => ?_)
 subst ex
 obtain rfl : u = Value.ref a := rx
 exact getattr_ok I1 ea c n l fun u' s2 I2 ru => ⟨v, H1, I2, ru, q⟩
theorem ps_fld (ha : PE X o ta) (hv : PE X value tv) (hs : swapsWith value (some (.Attribute o f pos')) pos.line X.env = pure false) : PS X (.Assign [.Attribute o f pos'] value pos) (sFld X.K ta tv f) := by
 intro pins s σ H D I h
 refine plainObj_wpAny_Assign_Attribute (thn (hv pins s σ H _ I h) fun u s1 ⟨y, H1, I1, ry, q⟩ => thn (ha pins s1 σ H1 _ I1 q) fun ov s2 ⟨x, H2, I2, rx, a, C, dx, fs, ex, ea, c, n, l, q2⟩ => ?_) hs
 subst ex
 obtain rfl : ov = Value.ref a := rx
 exact setattr_ok I2 ea c n l ry fun s3 I3 => ⟨σ, _, I3, q2⟩
end

section
variable {X : Cx} {pins : List (Addr × Obj)} {σ : St} {H : Hp} {s : Shared} {A : Around} {E : Value -> Shared -> Prop} {Q : Value -> Shared -> Prop} {c : Value} {b : Bool}
end
end L2

namespace L2
open PySem PySem.Spec PyProof.Rows

structure Room (k : Nat) (A : Around) : Prop where
 hd : A.handled = none
 dp : A.depth + 3 * k + 5 < recursionLimit
 un : A.units + 16 * k + 200 < cLine
theorem Room.mono {j k : Nat} {A : Around} (r : Room k A) (h : j <= k) : Room j A := ⟨r.hd, by have := r.dp; omega, by have := r.un; omega⟩
theorem Room.deeper {k : Nat} {A : Around} (r : Room (k + 1) A) (env : Env) : Room k (A.deeper env) :=
 ⟨r.hd, by have := r.dp; show A.depth + 1 + 3 * k + 5 < _; omega, by have := r.un; show A.units + 3 + 16 * k + 200 < _; omega⟩
theorem make_depth {A : Around} {C : Addr} {us : List Value} {kw : List (Str × Value)} : (A.under (.builtin "type.__call__" ⟨.ref C :: us, kw⟩)).depth = A.depth + 1 := by
 first | rfl | simp [Around.under, Code.weight, Code.isCreation, Code.isGuard, Code.isCaller, Code.frames, Code.isFrame, guardIds]
theorem make_units {A : Around} {C : Addr} {us : List Value} {kw : List (Str × Value)} : (A.under (.builtin "type.__call__" ⟨.ref C :: us, kw⟩)).units = A.units + 1 := by
 first | rfl | simp [Around.under, Code.cUnits, Code.frames, Code.isFrame]
theorem Room.make {k : Nat} {A : Around} (r : Room (k + 1) A) (C : Addr) (us : List Value) (kw : List (Str × Value)) : Room k (A.under (.builtin "type.__call__" ⟨.ref C :: us, kw⟩)) :=
 ⟨r.hd, by have := r.dp; rw [make_depth]; omega, by have := r.un; rw [make_units]; omega⟩
theorem Room.depth {k : Nat} {A : Around} (r : Room k A) : A.depth < recursionLimit := by have := r.dp; omega
theorem Room.units {k : Nat} {A : Around} (r : Room k A) : A.units + 64 < cLine := by have := r.un; omega
def tNil : TA := fun _ H Q => Q [] H
def tCons (ta : TE) (tr : TA) : TA := fun σ H Q => ta σ H fun x H1 => tr σ H1 fun xs H2 => Q (x :: xs) H2
section
variable {X : Cx} {e : Expr} {es : List Expr} {te : TE} {t : TA} {pos : Pos}
theorem pa_nil : PA X [] tNil := fun _ _ _ _ H Q I h => Calls.spliced_nil ⟨[], H, I, .nil, h⟩
theorem pa_cons (ha : PE X e te) (hr : PA X es t) (hs : starEach (e :: es) X.env = (false, eval e X.env) :: starEach es X.env := by rfl) : PA X (e :: es) (tCons te t) := by
 intro pos pins s σ H Q I h
 rw [hs]
 show wpAny _ _ (spliced ((false, eval e X.env) :: backTo pos (starEach es X.env))) _ _ s
 refine Calls.spliced_cons (thn (ha pins s σ H _ I h) fun u s1 ⟨x, H1, I1, r1, q1⟩ => ?_)
 exact thn (hr pos pins s1 σ H1 _ I1 q1) fun us s2 ⟨xs, H2, I2, r2, q2⟩ => ⟨x :: xs, H2, I2, .cons r1 r2, q2⟩

def tTup (t : TA) : TE := fun σ H Q => t σ H fun xs H1 => xs.length <= sizeLine /\ ∀ p, H1 p = none -> Q (.ref p) (upd H1 p (.tup xs))
def tLst (t : TA) : TE := fun σ H Q => t σ H fun xs H1 => xs.length <= sizeLine /\ ∀ p, H1 p = none -> Q (.ref p) (upd H1 p (.lst xs))
theorem pe_tup {x1} (h : PA X es t) : PE X (.Tuple es x1 pos) (tTup t) := by
 intro pins s σ H Q I hq
 refine wpAny_Tuple_spliced (thn (h pos pins s σ H _ I hq) fun us s1 ⟨xs, H1, I1, r, z, q⟩ => ⟨by rw [<- r.length]; exact z, ?_⟩)
 have hf : H1 s1.heap.objs.size = none := I1.hok.fresh (Nat.le_refl _)
 refine ⟨.ref s1.heap.objs.size, upd H1 s1.heap.objs.size (.tup xs), I1.laid (t' := s1.toks) (fun b u e => Heap.get?_push_of_some _ e) (Nat.le_refl _) ?_, rfl, q _ hf⟩
 exact ⟨z, us, r, ⟨_, Heap.get?_push_size _ rfl, rfl, _, rfl⟩⟩
theorem pe_lst (h : PA X es t) : PE X (.List es pos) (tLst t) := by
 intro pins s σ H Q I hq
 refine wpAny_List_spliced (thn (h pos pins s σ H _ I hq) fun us s1 ⟨xs, H1, I1, r, z, q⟩ => ⟨by rw [<- r.length]; exact z, ?_⟩)
 have hf : H1 s1.heap.objs.size = none := I1.hok.fresh (Nat.le_refl _)
 refine ⟨.ref s1.heap.objs.size, upd H1 s1.heap.objs.size (.lst xs), I1.laid (t' := s1.toks) (fun b u e => Heap.get?_push_of_some _ e) (Nat.le_refl _) ?_, rfl, q _ hf⟩
 exact ⟨z, us, 0, r, Heap.get?_push_size _ rfl⟩
end

abbrev Sp := List V -> Hp -> VK -> XK -> Prop
abbrev CXT := List Env -> Hp -> Shared -> XK -> Value -> Shared -> Prop

structure Env0 (P : Program) (w : World) (K : PySem.W.Frag) (mg : Str -> Option Value) (base : Heap) (A : Around) (outer : List Env) (s : Shared) (H : Hp) : Prop where
 frames : A.frames = some outer
 mod : Mod K mg base
 bs : ∀ b o, base.get? b = some o -> s.heap.get? b = some o /\ H b = none
 bsz : base.objs.size <= s.heap.objs.size
 funs : s.heap.FunFrames base outer
 frf : ∀ b ∈ frs outer, H b = none
 hok : HOk P w H s.heap
 bare : AllBare s.gens
def CE (outer : List Env) (P : Program) (w : World) (H : Hp) (s : Shared) (Q : VK) (u : Value) (s' : Shared) : Prop :=
 ∃ v H', s'.os = s.os /\ AllBare s'.gens /\ Un (frs outer) [] H H' s.heap s'.heap /\ HOk P w H' s'.heap /\ RelV v u /\ Q v H'
def CR (CX : CXT) (outer : List Env) (P : Program) (w : World) (H : Hp) (s : Shared) (Q : VK) (E : XK) (r : Result) (s' : Shared) : Prop :=
 match r with
 | .ok (.ret u) => CE outer P w H s Q u s'
 | .ok _ => False
 | .error e => CX outer H s E e s'
structure FnOk (P : Program) (w : World) (K : PySem.W.Frag) (mg : Str -> Option Value) (base : Heap) (CX : CXT) (k : Nat) (f : Addr) (fd : FuncData) (ps : List Str) (sp : Sp) : Prop where
 len : ∀ vs H Q E, sp vs H Q E -> vs.length = ps.length
 run : ∀ (A : Around) (outer : List Env) (s : Shared) (H : Hp) (args : Args) (us : List Value) (vs : List V) (Q : VK) (E : XK), Room k A -> Env0 P w K mg base A outer s H -> BindsTo s fd args (ps.zip us) -> Vals vs us -> sp vs H Q E ->
  codeAny (model P w) A (.call (.ref f) args) (CR CX outer P w H s Q E) s
theorem Env0.make {P : Program} {w : World} {K : PySem.W.Frag} {mg : Str -> Option Value} {base : Heap} {A : Around} {outer : List Env} {s : Shared} {H : Hp} (e : Env0 P w K mg base A outer s H) (C : Addr) (us : List Value) (kw : List (Str × Value)) :
  Env0 P w K mg base (A.under (.builtin "type.__call__" ⟨.ref C :: us, kw⟩)) outer s H := ⟨by first | exact e.frames | (simpa [Around.under, Code.envs, Code.isFrame, pushEnvs] using e.frames), e.mod, e.bs, e.bsz, e.funs, e.frf, e.hok, e.bare⟩
section
variable {X : Cx} {pins : List (Addr × Obj)} {σ : St} {H : Hp} {s s' : Shared}
theorem Inv.env0 (I : Inv X pins σ H s) : Env0 X.prog X.w X.K X.mg X.base X.A X.stack s H :=
 ⟨I.ok.frames, I.ok.mod, I.bs, Nat.le_trans I.ok.bsz I.sz, I.stack, I.stkFree, I.hok, I.bare⟩
theorem Inv.after {Q : VK} {u : Value} (I : Inv X pins σ H s) (h : CE X.stack X.prog X.w H s Q u s') : EP X pins σ Q u s' := by
 obtain ⟨v, H', os, bare, un, hok, r, q⟩ := h
 obtain ⟨hh, g, d, t, os'⟩ := s'
 obtain rfl : os' = s.os := os
 exact ⟨v, H', I.call (h' := hh) (g' := g) (d' := d) (t' := t) (ch := []) un hok bare (fun b z => absurd z (by simp)), r, q⟩
end

def tCall (sp : Sp) (dvs : List V) (E : XK) (t : TA) : TE := fun σ H Q => t σ H fun vs H1 => sp (vs ++ dvs) H1 Q E
def tMeth (C : Addr) (m : Str) (sp : Sp) (dvs : List V) (E : XK) (ta : TE) (t : TA) : TE := fun σ H Q => ta σ H fun x H1 => ∃ a dx fs, x = .ref a /\ H1 a = some (.ins C dx fs) /\ fs.lookup m = none /\
 t σ H1 fun vs H2 => sp (x :: (vs ++ dvs)) H2 Q E
def tMake (C : Addr) (sp : Sp) (dvs : List V) (E : XK) (t : TA) : TE := fun σ H Q => t σ H fun vs H1 => ∀ x dx, H1 x = none -> H1 dx = none -> dx ≠ x ->
 sp (.ref x :: (vs ++ dvs)) (upd (upd H1 dx (.own x)) x (.ins C dx [])) (fun v H2 => v = .non /\ Q (.ref x) H2) E

def Binds (K : PySem.W.Frag) (fd : FuncData) (ps : List Str) (ds : List Value) : Prop :=
 ∀ (s : Shared) (us : List Value), K.In s.heap -> (us ++ ds).length = ps.length -> BindsTo s fd ⟨us, []⟩ (ps.zip (us ++ ds))
theorem Binds.all {K : PySem.W.Frag} {fd : FuncData} {ps : List Str} (h : ∀ us : List Value, us.length = ps.length -> bindArgs fd ⟨us, []⟩ = pure (ps.zip us)) : Binds K fd ps [] := fun s us _ hl => by
 rw [List.append_nil] at hl ⊢
 exact .of_eq (h us hl)

def Passes (CX : CXT) (X : Cx) (E : XK) : Prop := ∀ (pins : List (Addr × Obj)) (σ : St) (H : Hp) (s : Shared) (e : Value) (s' : Shared), Inv X pins σ H s -> CX X.stack H s E e s' -> X.xe e s'

section
variable {X : Cx} {CX : CXT} {k : Nat} {f C : Addr} {fd : FuncData} {ps : List Str} {sp : Sp} {dvs : List V} {ds : List Value} {E : XK} {x m : Str} {p pos apos : Pos} {e o : Expr} {es : List Expr} {ta : TE} {t : TA}

theorem run_fn {pins : List (Addr × Obj)} {σ : St} {H : Hp} {s : Shared} {Q : VK} {us : List Value} {vs : List V} (F : FnOk X.prog X.w X.K X.mg X.base CX k f fd ps sp) (hr : Room k X.A) (hb : Binds X.K fd ps ds) (hd : Vals dvs ds) (hx : Passes CX X E)
  (I : Inv X pins σ H s) (r : Vals vs us) (h : sp (vs ++ dvs) H Q E) : wpAny (model X.prog X.w) X.A (call (.ref f) us) (EP X pins σ Q) X.xe s := by
 have r2 : Vals (vs ++ dvs) (us ++ ds) := r.append hd
 have hl : (us ++ ds).length = ps.length := by rw [<- r2.length]; exact F.len _ _ _ _ h
 refine wpAny_call (codeAny_mono (F.run X.A X.stack s H ⟨us, []⟩ (us ++ ds) (vs ++ dvs) Q E hr I.env0 (hb s us I.kIn hl) r2 h) fun r s' hq => ?_)
 cases r with
 | error e => exact hx pins σ H s e s' I hq
 | ok fl =>
  cases fl with
  | ret u => exact I.after hq
  | next => exact False.elim hq
  | brk => exact False.elim hq
  | cont => exact False.elim hq

theorem pe_call (F : FnOk X.prog X.w X.K X.mg X.base CX k f fd ps sp) (hr : Room k X.A) (hg : Gl X x) (hm : X.mg x = some (.ref f)) (hk : PySem.W.keepIn X.K (.ref f) = true) (hb : Binds X.K fd ps ds) (hd : Vals dvs ds) (hx : Passes CX X E)
  (ha : PA X (e :: es) t) (hdb : (x == ("__debug__" : Str)) = false := by decide) (he : starEach (e :: es) X.env = (false, eval e X.env) :: starEach es X.env := by rfl) (hpl : (backTo pos (starEach es X.env)).any (·.1) = false := by rfl) :
  PE X (.Call (.Name x p) (e :: es) [] pos) (tCall sp dvs E t) := by
 intro pins s σ H Q I h
 refine wpAny_Call_Name_kw (ld_glob I hg hm ?_ hdb)
 refine PySem.W.callWith_K (h₀ := X.base) I.ok.mod.kin hk (thn (ha pos pins s σ H _ I h) fun us s1 ⟨vs, H1, I1, r, q⟩ => ⟨I1.kIn, ?_⟩) he hpl
 exact run_fn F hr hb hd hx I1 r q
theorem pe_meth {pl : Sem Bool} (he : PE X o ta) (c : Cls X.K C) (hm : Meth X.K C m f) (F : FnOk X.prog X.w X.K X.mg X.base CX k f fd ps sp) (hr : Room k X.A) (hb : Binds X.K fd ps ds) (hd : Vals dvs ds) (hx : Passes CX X E) (ha : PA X (e :: es) t)
  (hst : starEach (e :: es) X.env = (false, eval e X.env) :: starEach es X.env := by rfl) (hpl : (backTo pos (starEach es X.env)).any (·.1) = false := by rfl)
  (ht : eval (.Call (.Attribute o m apos) (e :: es) [] pos) X.env = (do
   let ov <- eval o X.env
   standAt apos.atName
   let (f, first) <- holding [ov] (getMethod ov m pl)
   callWith pos f first (backTo pos (starEach (e :: es) X.env)) (backToKw pos (keywordEach [] X.env))) := by rfl) :
  PE X (.Call (.Attribute o m apos) (e :: es) [] pos) (tMeth C m sp dvs E ta t) := by
 intro pins s σ H Q I h
 refine PySem.W.methodCall_KW (pl := pl) (thn (he pins s σ H _ I h) fun u s1 ⟨x, H1, I1, rx, a, dx, fs, ex, ea, l, q⟩ => ?_) ht
 subst ex
 obtain rfl : u = Value.ref a := rx
 refine getmeth_ok I1 ea c hm l ?_
 refine PySem.W.callWith_K (first := [.ref a]) (h₀ := X.base) I.ok.mod.kin hm.kp (thn (ha pos pins s1 σ H1 _ I1 q) fun us s2 ⟨vs, H2, I2, r, q2⟩ => ⟨I2.kIn, ?_⟩) hst hpl
 exact run_fn (us := .ref a :: us) (vs := .ref a :: vs) F hr hb hd hx I2 (.cons rfl r) q2
structure Mk (K : PySem.W.Frag) (C f : Addr) : Prop where
 makes : PySem.W.makesIn K C = true
 init : PySem.W.findIn K (.ref C) "__init__" = some (some (.ref f))
 fn : PySem.W.isFn K (.ref f) = true
 kp : PySem.W.keepIn K (.ref C) = true

theorem run_make {pins : List (Addr × Obj)} {σ : St} {H : Hp} {s : Shared} {Q : VK} {us : List Value} {vs : List V} (M : Mk X.K C f) (F : FnOk X.prog X.w X.K X.mg X.base CX k f fd ps sp) (hr : Room (k + 1) X.A) (hb : Binds X.K fd ps ds) (hd : Vals dvs ds)
  (hx : Passes CX X E) (I : Inv X pins σ H s) (r : Vals vs us)
  (h : ∀ x dx, H x = none -> H dx = none -> dx ≠ x -> sp (.ref x :: (vs ++ dvs)) (upd (upd H dx (.own x)) x (.ins C dx [])) (fun v H2 => v = .non /\ Q (.ref x) H2) E) :
  wpAny (model X.prog X.w) X.A (call (.ref C) us) (EP X pins σ Q) X.xe s := by
 have hq := h (s.heap.objs.size + 1) s.heap.objs.size (I.hok.fresh (Nat.le_succ _)) (I.hok.fresh (Nat.le_refl _)) (Nat.ne_of_lt (Nat.lt_succ_self _))
 have I2 := Inv.made (C := C) I
 have r2 : Vals (V.ref (s.heap.objs.size + 1) :: (vs ++ dvs)) (Value.ref (s.heap.objs.size + 1) :: (us ++ ds)) := .cons rfl (r.append hd)
 have hl : (Value.ref (s.heap.objs.size + 1) :: us ++ ds).length = ps.length := by
  have e := r2.length
  rw [F.len _ _ _ _ hq] at e
  exact e.symm
 refine wpAny_call (make_map (f := f) I.kIn M.makes M.init (beq_iff_eq.mp M.fn) (codeAny_mono (F.run _ X.stack _ _ ⟨Value.ref (s.heap.objs.size + 1) :: us, []⟩ (Value.ref (s.heap.objs.size + 1) :: (us ++ ds)) _ _ E (hr.make C us [])
  (I2.env0.make C us []) (hb _ (Value.ref (s.heap.objs.size + 1) :: us) I2.kIn hl) r2 hq) fun r s' hq' => ?_))
 cases r with
 | error e => exact hx pins σ _ _ e s' I2 hq'
 | ok fl =>
  cases fl with
  | ret u =>
   obtain ⟨v, H', I3, rv, ev, q3⟩ := I2.after hq'
   subst ev
   exact ⟨rv, ⟨V.ref (s.heap.objs.size + 1), H', I3, rfl, q3⟩⟩
  | next => exact False.elim hq'
  | brk => exact False.elim hq'
  | cont => exact False.elim hq'
theorem pe_make (M : Mk X.K C f) (F : FnOk X.prog X.w X.K X.mg X.base CX k f fd ps sp) (hr : Room (k + 1) X.A) (hg : Gl X x) (hm : X.mg x = some (.ref C)) (hb : Binds X.K fd ps ds) (hd : Vals dvs ds) (hx : Passes CX X E)
  (ha : PA X (e :: es) t) (hdb : (x == ("__debug__" : Str)) = false := by decide) (he : starEach (e :: es) X.env = (false, eval e X.env) :: starEach es X.env := by rfl) (hpl : (backTo pos (starEach es X.env)).any (·.1) = false := by rfl) :
  PE X (.Call (.Name x p) (e :: es) [] pos) (tMake C sp dvs E t) := by
 intro pins s σ H Q I h
 refine wpAny_Call_Name_kw (ld_glob I hg hm ?_ hdb)
 refine PySem.W.callWith_K (h₀ := X.base) I.ok.mod.kin M.kp (thn (ha pos pins s σ H _ I h) fun us s1 ⟨vs, H1, I1, r, q⟩ => ⟨I1.kIn, ?_⟩) he hpl
 exact run_make M F hr hb hd hx I1 r q
end

section
variable {X : Cx} {CX : CXT} {k : Nat} {f C : Addr} {fd : FuncData} {ps ks : List Str} {sp : Sp} {E : XK} {x m : Str} {p pos apos kpos : Pos} {e o : Expr} {es : List Expr} {kws : List Keyword} {te ta : TE} {t tk : TA} {nm : Option Str}
variable {g : List Value -> List Value -> List Value} {gV : List V -> List V -> List V}
end

structure FnScope (N P : List Str) (sc : Scope) : Prop where
 kind : sc.kind = .function
 co : sc.isCoroutine = false
 gen : sc.isGenerator = false
 nd : N.Nodup
 pre : N.take P.length = P
 par : ∀ x ∈ P, sc.names.lookup x = some .local \/ sc.names.lookup x = some .cell
 nofree : ∀ y ∈ sc.names, y.2 ≠ .free

theorem bindL_out {kindOf : Str -> Option NameKind} {x : Str} : ∀ {binds : List (Str × Value)} {m : Str -> Option Value}, (∀ v, (x, v) ∉ binds) -> bindL kindOf binds m x = m x
 | [], _, _ => rfl
 | (n, v) :: r, m, h => by
  unfold bindL
  rw [bindL_out fun w hw => h w (List.mem_cons_of_mem _ hw)]
  split
  ·have : x ≠ n := by rintro rfl; exact h v List.mem_cons_self
   simp [this]
  ·rfl
theorem bindC_out {kindOf : Str -> Option NameKind} {x : Str} : ∀ {binds : List (Str × Value)} {m : Str -> Option Value}, (∀ v, (x, v) ∉ binds) -> bindC kindOf binds m x = m x
 | [], _, _ => rfl
 | (n, v) :: r, m, h => by
  unfold bindC
  rw [bindC_out fun w hw => h w (List.mem_cons_of_mem _ hw)]
  split
  ·rfl
  ·have : x ≠ n := by rintro rfl; exact h v List.mem_cons_self
   simp [this]
theorem bindL_get {kindOf : Str -> Option NameKind} {x : Str} {v : Value} : ∀ {P : List Str} {vs : List Value} {i : Nat} {m : Str -> Option Value}, P.Nodup -> P[i]? = some x -> vs[i]? = some v -> kindOf x = some .local ->
  bindL kindOf (P.zip vs) m x = some v
 | [], _, _, _, _, h, _, _ => by simp at h
 | _ :: _, [], _, _, _, _, h, _ => by simp at h
 | p :: P, w :: vs, 0, m, nd, h1, h2, hk => by
  simp at h1 h2; subst h1; subst h2
  show bindL kindOf ((p, w) :: P.zip vs) m p = _
  unfold bindL
  rw [bindL_out fun v hv => (List.nodup_cons.mp nd).1 (List.of_mem_zip hv).1, if_pos hk]
  simp
 | p :: P, w :: vs, i + 1, m, nd, h1, h2, hk => by
  show bindL kindOf ((p, w) :: P.zip vs) m x = _
  unfold bindL
  exact bindL_get (i := i) (List.nodup_cons.mp nd).2 (by simpa using h1) (by simpa using h2) hk
theorem bindC_get {kindOf : Str -> Option NameKind} {x : Str} {v : Value} : ∀ {P : List Str} {vs : List Value} {i : Nat} {m : Str -> Option Value}, P.Nodup -> P[i]? = some x -> vs[i]? = some v -> kindOf x ≠ some .local ->
  bindC kindOf (P.zip vs) m x = some v
 | [], _, _, _, _, h, _, _ => by simp at h
 | _ :: _, [], _, _, _, _, h, _ => by simp at h
 | p :: P, w :: vs, 0, m, nd, h1, h2, hk => by
  simp at h1 h2; subst h1; subst h2
  show bindC kindOf ((p, w) :: P.zip vs) m p = _
  unfold bindC
  rw [bindC_out fun v hv => (List.nodup_cons.mp nd).1 (List.of_mem_zip hv).1, if_neg hk]
  simp
 | p :: P, w :: vs, i + 1, m, nd, h1, h2, hk => by
  show bindC kindOf ((p, w) :: P.zip vs) m x = _
  unfold bindC
  exact bindC_get (i := i) (List.nodup_cons.mp nd).2 (by simpa using h1) (by simpa using h2) hk

def start (N : List Str) (vs : List V) : St := vs.map some ++ List.replicate (N.length - vs.length) none

def cxOf (CX : CXT) (P : Program) (w : World) (K : PySem.W.Frag) (mg : Str -> Option Value) (base : Heap) (N : List Str) (qual : Str) (scope : Scope) (f : Addr) (cd : Value) (A : Around) (outer : List Env) (s : Shared) (H : Hp) (E : XK) : Cx where
 prog := P
 w := w
 K := K
 mg := mg
 base := base
 A := A.deeper (envOfC qual scope s.heap.objs.size f cd)
 N := N
 s₀ := s
 H₀ := H
 env := envOfC qual scope s.heap.objs.size f cd
 outer := outer
 stack := envOfC qual scope s.heap.objs.size f cd :: outer
 ex := []
 calm := true
 fn := fun _ => true
 pn := []
 xe := fun e s' => wpAny (model P w) (A.deeper (envOfC qual scope s.heap.objs.size f cd)) (leaving (envOfC qual scope s.heap.objs.size f cd) e) (fun _ s'' => CX outer H s E e s'') (fun e' s'' => CX outer H s E e' s'') s'

theorem cell_has {sc : Scope} {n : Nat} {x : Str} (h : sc.names.lookup x = some .cell) : ∃ c, (cellsFrom n sc.names []).lookup x = some c := by
 have q := PySem.W.cellsFrom_some sc.names n [] (.inl h)
 exact Option.isSome_iff_exists.mp q

theorem inv_start {CX : CXT} {P : Program} {w : World} {K : PySem.W.Frag} {mg : Str -> Option Value} {base : Heap} {N ps : List Str} {qual : Str} {scope : Scope} {f : Addr} {cd : Value} {A : Around} {outer : List Env} {s s1 : Shared} {H : Hp} {E : XK} {us : List Value} {vs : List V}
  (S : FnScope N ps scope) (hd : A.handled = none) (e0 : Env0 P w K mg base A outer s H) (hl : vs.length = ps.length) (r : Vals vs us)
  (x : InCallC s s.heap.objs.size (bindL (envOfC qual scope s.heap.objs.size f cd).kindOf (ps.zip us) fun _ => none) (cellsFrom (s.heap.objs.size + 1) scope.names []) (bindC (envOfC qual scope s.heap.objs.size f cd).kindOf (ps.zip us) fun _ => none) s1) :
  Inv (cxOf CX P w K mg base N qual scope f cd A outer s H E) [] (start N vs) H s1 := by
 have hpl : ps.length <= N.length := by have := congrArg List.length S.pre; rw [List.length_take] at this; omega
 obtain ⟨h1, tk, rfl, hk⟩ := x.done
 have noA : ∀ b : Addr, b ∉ (cxOf CX P w K mg base N qual scope f cd A outer s H E).ex := fun b z => absurd (show b ∈ ([] : List Addr) from z) (by simp)
 refine ⟨⟨e0.mod, S.kind, rfl, rfl, Nat.le_refl _, fun y z c h1 h2 => ?_, fun y hy => ?_, fun y c _ h => ?_, fun _ => hd, Around.frames_deeper e0.frames, .inr ⟨rfl, rfl⟩, fun b z => absurd z (noA b), e0.bs, e0.bsz, fun b _ _ => noA b, fun b z => absurd z (noA b), e0.funs, e0.frf⟩,
  rfl, e0.bare, Un.kept hk, ⟨_, x.toInCall.ns, fun i y v h1 h2 h3 => ?_⟩, fun y c h => ⟨_, x.cell y c h⟩, e0.hok.fresh (Nat.le_refl _), fun y c h => ?_, fun p hp => absurd (show p ∈ ([] : List (Addr × Obj)) from hp) (by simp), e0.hok.kept hk, ?_⟩
 ·exact name_of_addr x.apart (PySem.mem_of_lookup h1) (PySem.mem_of_lookup h2)
 ·have hy : scope.names.lookup y = some .cell \/ scope.names.lookup y = some .free := hy
  rcases hy with hy | hy
  ·exact cell_has hy
  ·exact absurd rfl (S.nofree _ (PySem.mem_of_lookup hy))
 ·exact Nat.le_of_lt (x.above y c (PySem.mem_of_lookup h))
 ·have hi : i < vs.length := by
   unfold start at h2
   by_cases hi : i < vs.length
   ·exact hi
   ·rw [List.getElem?_append_right (by simpa using hi)] at h2
    rw [List.getElem?_replicate] at h2
    split at h2 <;> cases h2
  have ha : vs[i]? = some v := by
   unfold start at h2
   rw [List.getElem?_append_left (by simpa using hi), List.getElem?_map] at h2
   cases e : vs[i]? with
   | none => rw [e] at h2; cases h2
   | some a => rw [e] at h2; cases h2; rfl
  obtain ⟨u, hu, rv⟩ := r.get ha
  have hp : ps[i]? = some y := by
   rw [<- S.pre, List.getElem?_take_of_lt (by omega)]; exact h1
  have ndP : ps.Nodup := by rw [<- S.pre]; exact S.nd.sublist (List.take_sublist _ _)
  refine ⟨u, rv, ?_⟩
  rcases S.par y (List.mem_of_getElem? hp) with k | k
  ·exact .inl ⟨k, bindL_get ndP hp hu k⟩
  ·obtain ⟨c, e⟩ := cell_has (n := s.heap.objs.size + 1) k
   refine .inr ⟨.inl k, c, e, ?_⟩
   have q := x.cell y c e
   rw [bindC_get ndP hp hu (by show scope.names.lookup y ≠ _; rw [k]; decide)] at q
   exact q
 ·exact e0.hok.fresh (Nat.le_of_lt (x.above y c (PySem.mem_of_lookup h)))
 ·unfold start
  show _ = N.length
  rw [List.length_append, List.length_map, List.length_replicate]
  omega

theorem fn_of {CX : CXT} {P : Program} {w : World} {K : PySem.W.Frag} {mg : Str -> Option Value} {base : Heap} {k : Nat} {f : Addr} {name qual : Str} {params : Arguments} {body : List Stmt} {scope : Scope} {dV kV doc pm cdv ct oc : Value} {an od : Option Addr}
  {osl : Array (Option Value)} {N ps : List Str} {sp : Sp} (lk : K.lookup f = some ⟨oc, od, .func (PySem.W.fnOf name qual params body scope dV kV doc pm an cdv ct), osl⟩) (hcd : PySem.W.codeIn K cdv qual = true) (S : FnScope N ps scope)
  (len : ∀ vs H Q E, sp vs H Q E -> vs.length = ps.length)
  (hbody : ∀ (A : Around) (outer : List Env) (s : Shared) (H : Hp) (vs : List V) (Q : VK) (E : XK), Room k (A.deeper (envOfC qual scope s.heap.objs.size f cdv)) -> sp vs H Q E ->
   ∃ t, PSs (cxOf CX P w K mg base N qual scope f cdv A outer s H E) body t /\ t { nx := fun _ H' => Q .non H', rt := Q } (start N vs) H) :
  FnOk P w K mg base CX (k + 1) f (PySem.W.fnOf name qual params body scope dV kV doc pm an cdv ct) ps sp := by
 refine ⟨len, fun A outer s H args us vs Q E hr e0 hb r hsp => ?_⟩
 have hl := len _ _ _ _ hsp
 have KX : K.In s.heap := e0.mod.kin.keeps fun b o e => (e0.bs b o e).1
 have lim : s.heap.NoLimit := e0.mod.nolimit.keeps fun b o e => (e0.bs b o e).1
 have hkind : ∀ y ∈ ps.zip us, scope.names.lookup y.1 = some .local \/ (scope.names.lookup y.1 = some .cell /\ ((cellsFrom (s.heap.objs.size + 1) scope.names []).lookup y.1).isSome = true) := fun ⟨n, v⟩ hy => by
  rcases S.par n (List.of_mem_zip hy).1 with q | q
  ·exact .inl q
  ·exact .inr ⟨q, PySem.W.cellsFrom_some _ _ _ (.inl q)⟩
 refine codeAny_call_function hr.depth (KX _ _ lk) rfl S.co S.gen rfl (PySem.W.codeRec_of KX hcd) (hb _ _ _ _ ?_)
 refine wpAny_newFunctionEnv_cells S.kind hkind fun env he s1 x => ?_
 subst he
 refine ⟨lim.keeps x.toInCall.keep, codeAny_func ?_⟩
 obtain ⟨t, ht, hq⟩ := hbody A outer s H vs Q E (hr.deeper _) hsp
 have I : Inv (cxOf CX P w K mg base N qual scope f cdv A outer s H E) [] (start N vs) H s1 := inv_start S hr.hd e0 hl r x
 refine wpAny_mono (ht [] s1 (start N vs) H _ I hq) (fun fl s' hs => ?_) fun e s' hs => hs
 have fin : ∀ {σ' : St} {H' : Hp} {v : V} {u : Value}, Inv (cxOf CX P w K mg base N qual scope f cdv A outer s H E) [] σ' H' s' -> RelV v u -> Q v H' -> CE outer P w H s Q u s' :=
  fun {σ' H' v u} J rv q => ⟨v, H', J.os, J.bare, J.base, J.hok, rv, q⟩
 cases fl with
 | ret u =>
  obtain ⟨v, σ', H', J, rv, q⟩ := hs
  exact fin J rv q
 | next =>
  obtain ⟨σ', H', J, q⟩ := hs
  exact fin (v := V.non) (u := Value.none) J rfl q
 | brk =>
  obtain ⟨_, _, _, q⟩ := hs
  exact False.elim q
 | cont =>
  obtain ⟨_, _, _, q⟩ := hs
  exact False.elim q
end L2

namespace L2
open PySem PySem.Spec PyProof.Rows
section
variable {X : Cx} {x : Str} {p pos : Pos} {e : Expr} {es : List Expr} {t : TA} {id T : String} {r : List V -> Hp -> VK -> Prop}

def tCB (r : List V -> Hp -> VK -> Prop) (t : TA) : TE := fun σ H Q => t σ H fun vs H1 => r vs H1 Q
theorem pe_callB (hc : CallR X (.builtin id) r) (hg : Gl X x) (hm : X.mg x = none) (hv : bootBuiltins x = some (.builtin id)) (ha : PA X (e :: es) t) (hn : x ≠ "__name__" := by decide) (hdb : (x == ("__debug__" : Str)) = false := by decide)
  (he : starEach (e :: es) X.env = (false, eval e X.env) :: starEach es X.env := by rfl) (hpl : (backTo pos (starEach es X.env)).any (·.1) = false := by rfl) : PE X (.Call (.Name x p) (e :: es) [] pos) (tCB r t) := by
 intro pins s σ H Q I h
 refine wpAny_Call_Name_kw (ld_blt I hg hm hv ?_ hn hdb)
 exact PyProof.Rows.callWith_builtin1 (thn (ha pos pins s σ H _ I h) fun us s1 ⟨vs, H1, I1, r1, q1⟩ => hc pins s1 σ H1 vs us Q I1 r1 q1) he hpl
theorem pe_callTy (hc : CallR X (.type T) r) (hg : Gl X x) (hm : X.mg x = none) (hv : bootBuiltins x = some (.type T)) (ha : PA X (e :: es) t) (hn : x ≠ "__name__" := by decide) (hdb : (x == ("__debug__" : Str)) = false := by decide)
  (he : starEach (e :: es) X.env = (false, eval e X.env) :: starEach es X.env := by rfl) (hpl : (backTo pos (starEach es X.env)).any (·.1) = false := by rfl) : PE X (.Call (.Name x p) (e :: es) [] pos) (tCB r t) := by
 intro pins s σ H Q I h
 refine wpAny_Call_Name_kw (ld_blt I hg hm hv ?_ hn hdb)
 exact PyProof.Rows.callWith_type1 (thn (ha pos pins s σ H _ I h) fun us s1 ⟨vs, H1, I1, r1, q1⟩ => hc pins s1 σ H1 vs us Q I1 r1 q1) he hpl
end
end L2

namespace HT
open PySem PyProof.Rows

def lexLt : List Int -> List Int -> Bool
 | [], [] => false
 | [], _ :: _ => true
 | _ :: _, [] => false
 | x :: xs, y :: ys => if x = y then lexLt xs ys else decide (x < y)
section
open PySem.SeqAt
open PySem.AutoSeq1 (wpAny_loadPart')
open PySem.MeetsSeq PySem.MeetsSeq2 PySem.MeetsSeq3

end

section
variable {prog : Program} {w : World} {A : Around} {E : Value -> Shared -> Prop} {s : Shared}

theorem cat_tup {t b : Addr} {vs ws : List Value} {Q : Value -> Shared -> Prop} (ht : IsTup s.heap t vs.toArray) (hb : IsTup s.heap b ws.toArray) (hv : vs ≠ [])
  (h1 : ws = [] -> Q (.ref t) s) (h2 : ws ≠ [] -> Q (.ref s.heap.objs.size) { s with heap := s.heap.push { cls := .type "tuple", data := .seq (vs ++ ws).toArray } })
  (hsz : vs.length + ws.length <= sizeLine) : wpAny (model prog w) A (binaryOp .Add (.ref t) (.ref b)) Q E s := by
 obtain ⟨⟨cls, dd, data, sl⟩, ho, hc, n, hd⟩ := id ht
 obtain ⟨⟨cls2, dd2, data2, sl2⟩, ho2, hc2, n2, hd2⟩ := id hb
 simp only at hc hd hc2 hd2
 subst hc hd hc2 hd2
 have e : vs.toArray ++ ws.toArray = (vs ++ ws).toArray := by simp
 by_cases hw : ws = []
 ·exact concat_meets ⟨_, ho, rfl⟩ ⟨_, ho2, rfl⟩ noFill_tuple_add seq_tuple_add PySem.F.slot_tuple_add PySem.F.entry_tuple_add (PySem.F.args_tuple_add_2 _ _)
   (tuple_addW1 t b vs.toArray ws.toArray n n2 dd dd2 sl sl2 (by simpa using hv) (by simp [hw])) ⟨ho, ho2, h1 hw⟩
 ·refine concat_meets ⟨_, ho, rfl⟩ ⟨_, ho2, rfl⟩ noFill_tuple_add seq_tuple_add PySem.F.slot_tuple_add PySem.F.entry_tuple_add (PySem.F.args_tuple_add_2 _ _)
   (tuple_addW2 t b vs.toArray ws.toArray n n2 dd dd2 sl sl2 (by simpa using hv) (by simpa using hw) (by rw [List.size_toArray, List.size_toArray]; exact hsz)) ⟨ho, ho2, ?_⟩
  rw [e]
  exact h2 hw

def sIx (n d : Nat) : Option Int -> Nat
 | none => d
 | some v => if v < 0 then (v + (n : Int)).toNat else min v.toNat n
theorem sIx_none (n d : Nat) : sIx n d none = d := rfl
theorem sIx_nat (n d k : Nat) : sIx n d (some (k : Int)) = min k n := by
 show (if (k : Int) < 0 then ((k : Int) + (n : Int)).toNat else min (k : Int).toNat n) = min k n
 rw [if_neg (by omega), Int.toNat_natCast]
theorem sIx_le (n d : Nat) (hd : d <= n) (o : Option Int) : sIx n d o <= n := by
 cases o with
 | none => exact hd
 | some v =>
  show (if v < 0 then (v + (n : Int)).toNat else min v.toNat n) <= n
  by_cases hv : v < 0
  ·rw [if_pos hv]; omega
  ·rw [if_neg hv]; exact Nat.min_le_right _ _
theorem clip_eq (v : Int) (n d : Nat) : (if v < 0 then max (v + (n : Int)) 0 else min v (n : Int)) = ((sIx n d (some v) : Nat) : Int) := by
 show (if v < 0 then max (v + (n : Int)) 0 else min v (n : Int)) = (((if v < 0 then (v + (n : Int)).toNat else min v.toNat n) : Nat) : Int)
 by_cases hv : v < 0
 ·simp only [if_pos hv]; omega
 ·simp only [if_neg hv]; omega
theorem adjust_gen (lo hi : Option Int) (n : Nat) : Builtin.Slice.sliceAdjust lo hi 1 (n : Int) = (((sIx n 0 lo : Nat) : Int), ((sIx n n hi : Nat) : Int)) := by
 have h1 : ¬ ((1 : Int) < 0) := by omega
 unfold Builtin.Slice.sliceAdjust
 simp only [h1, if_false]
 refine Prod.ext ?_ ?_
 ·cases lo with
  | none => rfl
  | some v => exact clip_eq v n 0
 ·cases hi with
  | none => rfl
  | some v => exact clip_eq v n n
theorem places_gen (i j : Nat) : Builtin.Slice.slicePlaces (i : Int) (j : Int) 1 = j - i := by
 unfold Builtin.Slice.slicePlaces
 have h1 : (1 : Int) > 0 := by omega
 simp only [h1, if_true, Int.ediv_one]
 split <;> omega
theorem slicePart_ {v : Value} {o : Option Int} {Q : Option Int -> Shared -> Prop} (p : IsPart v o) (h : Q o s) : wpAny (model prog w) A (Builtin.Slice.slicePartIndex v) Q E s := by
 cases p with
 | none => exact slicePart_none h
 | int i t => exact slicePart_int h
theorem sliceApplied_gen {sl : Addr} {vl vu : Value} {lo hi : Option Int} {n : Nat} {Q : Int × Int × Nat -> Shared -> Prop} (hs : s.heap.IsSliceOf sl vl vu .none) (pl : IsPart vl lo) (pu : IsPart vu hi)
  (h : Q (((sIx n 0 lo : Nat) : Int), 1, sIx n n hi - sIx n 0 lo) s) : wpAny (model prog w) A (Builtin.Slice.sliceApplied (.ref sl) (pure (n : Int))) Q E s := by
 obtain ⟨os, hos, hcs, hds⟩ := id hs
 unfold Builtin.Slice.sliceApplied Builtin.Slice.sliceFields
 refine wpAny_bind (wpAny_bind (wpAny_field hos hds (x := vl) rfl (wpAny_bind (wpAny_field hos hds (x := vu) rfl (wpAny_bind (wpAny_field hos hds (x := .none) rfl (wpAny_pure ?_)))))))
 refine wpAny_bind (slicePart_none ?_)
 show wpAny _ _ (if ((1 : Int) == 0) = true then _ else _) _ _ s
 rw [if_neg (by decide)]
 refine wpAny_bind (slicePart_ pl (wpAny_bind (slicePart_ pu (wpAny_bind (wpAny_pure ?_)))))
 show wpAny _ _ (match Builtin.Slice.sliceAdjust lo hi 1 (n : Int) with | (lo, hi) => pure (lo, (1 : Int), Builtin.Slice.slicePlaces lo hi 1)) _ _ s
 rw [adjust_gen lo hi n]
 show wpAny _ _ (pure (((sIx n 0 lo : Nat) : Int), (1 : Int), Builtin.Slice.slicePlaces ((sIx n 0 lo : Nat) : Int) ((sIx n n hi : Nat) : Int) 1)) _ _ s
 rw [places_gen]
 exact wpAny_pure h
theorem pick_gen (xs : Array Value) (i k : Nat) : ((List.range k).filterMap fun (m : Nat) => xs[((i : Int) + (m : Int) * 1).toNat]?).toArray = ((xs.toList.drop i).take k).toArray := by
 have e : (fun (m : Nat) => xs[((i : Int) + (m : Int) * 1).toNat]?) = fun m => xs[i + m]? := by
  funext m
  have : ((i : Int) + (m : Int) * 1).toNat = i + m := by omega
  rw [this]
 rw [e]
 have := pick_run xs i k
 rw [List.filterMap_map] at this
 have e2 : ((fun x => xs[x]?) ∘ fun x => i + x) = fun m => xs[i + m]? := rfl
 rw [e2] at this
 rw [this]

theorem getItem_tuple_cut {t sl : Addr} {items : Array Value} {vl vu : Value} {lo hi : Option Int} {Q : Value -> Shared -> Prop} (ht : IsTup s.heap t items) (hs : s.heap.IsSliceOf sl vl vu .none) (pl : IsPart vl lo) (pu : IsPart vu hi)
  (hw : ¬ (sIx items.size 0 lo = 0 /\ sIx items.size items.size hi = items.size))
  (h : Q (.ref s.heap.objs.size) { s with heap := s.heap.push { cls := .type "tuple", data := .seq ((items.toList.drop (sIx items.size 0 lo)).take (sIx items.size items.size hi - sIx items.size 0 lo)).toArray } })
  (hsz : items.size <= sizeLine) : wpAny (model prog w) A (getItem (.ref t) (.ref sl)) Q E s := by
 have htake : sizeOk (.seq ((items.toList.drop (sIx items.size 0 lo)).take (sIx items.size items.size hi - sIx items.size 0 lo)).toArray) := by
  show ((items.toList.drop (sIx items.size 0 lo)).take (sIx items.size items.size hi - sIx items.size 0 lo)).toArray.size <= sizeLine
  rw [List.size_toArray, List.length_take, List.length_drop, Array.length_toList]
  omega
 have hj : sIx items.size items.size hi <= items.size := sIx_le _ _ (Nat.le_refl _) hi
 obtain ⟨os, hos, hcs, hds⟩ := id hs
 have hTs : s.TypeIs (.ref sl) "slice" := ⟨os, hos, hcs⟩
 unfold getItem
 try with_reducible refine wpAny_holding ?_
 first | refine wpAny_bind (wpAny_pure ?_) | skip
 refine wpAny_bind (wpAny_sequenceKey ht.typeIs (by decide) ?_)
 refine wpAny_bind (wpAny_callSpecial?_slot (name := Str.ofString "__getitem__") ht.typeIs PyProof.Rows.slot_tuple_getitem
  (wpAny_call_entry PyProof.Rows.slot_tuple_getitem ht.typeIs entry_tuple_getitem ?_ (args_tuple_getitem _ _)))
 show wpAny _ _ (Builtin.Tuple.tupleItemsOf (.ref t) >>= _) _ _ s
 refine wpAny_bind (tupleItemsOf_ ht ?_)
 refine wpAny_bind (wpAny_typeOf hTs ?_)
 rw [if_pos (by decide)]
 refine wpAny_bind (sliceApplied_gen hs pl pu ?_)
 have hno : ¬ ((((sIx items.size 0 lo : Nat) : Int) == 0 && (1 : Int) == 1 && (sIx items.size items.size hi - sIx items.size 0 lo) == items.size) = true) := by
  intro q
  rw [Bool.and_eq_true, Bool.and_eq_true] at q
  have q1 : ((sIx items.size 0 lo : Nat) : Int) = 0 := eq_of_beq q.1.1
  have q2 : sIx items.size items.size hi - sIx items.size 0 lo = items.size := eq_of_beq q.2
  exact hw ⟨by omega, by omega⟩
 show wpAny _ _ (if (((sIx items.size 0 lo : Nat) : Int) == 0 && (1 : Int) == 1 && (sIx items.size items.size hi - sIx items.size 0 lo) == items.size) = true then _ else _) _ _ s
 rw [if_neg hno, pick_gen]
 first
  | exact wpAny_bind (m := Builtin.Tuple.tupleExact _) (wpAny_newObj_type (wpAny_pure ⟨_, rfl, wpAny_pure h⟩) htake)
  | exact wpAny_bind (m := Builtin.Tuple.tupleExact _) (wpAny_newObj_type (wpAny_bind (wpAny_pure (wpAny_pure ⟨_, rfl, wpAny_pure h⟩))) htake)
  | exact wpAny_bind (wpAny_bind (m := Builtin.Tuple.tupleExact _) (wpAny_newObj_type (wpAny_pure (wpAny_pure ⟨_, rfl, wpAny_pure h⟩)) htake))
  | exact wpAny_bind (wpAny_bind (m := Builtin.Tuple.tupleExact _) (wpAny_newObj_type (wpAny_pure ⟨_, rfl, wpAny_pure h⟩) htake))
end
end HT

namespace L2
open PySem PySem.Spec PyProof.Rows

abbrev TO := St -> Hp -> (Option Int -> Hp -> Prop) -> Prop
def PO (X : Cx) (e : Option Expr) (t : TO) : Prop :=
 ∀ (pins : List (Addr × Obj)) (s : Shared) (σ : St) (H : Hp) (Q : Option Int -> Hp -> Prop), Inv X pins σ H s -> t σ H Q ->
  wpAny (model X.prog X.w) X.A (evalPart e X.env) (fun u s' => ∃ o H', Inv X pins σ H' s' /\ IsPart u o /\ Q o H') X.xe s
def tNoPart : TO := fun _ H Q => Q none H
def tPart (t : TE) : TO := fun σ H Q => t σ H fun x H1 => ∃ i, x = .int i /\ Q (some i) H1

section
variable {X : Cx} {e : Expr} {te : TE} {lo hi : Option Expr} {tl th : TO} {pos p2 : Pos}

theorem po_none : PO X none tNoPart := by
 intro pins s σ H Q I h
 rw [evalPart_none]
 exact wpAny_pure ⟨none, H, I, .none, h⟩
theorem po_some (h : PE X e te) : PO X (some e) (tPart te) := by
 intro pins s σ H Q I hw
 rw [evalPart_some]
 refine thn (h pins s σ H _ I hw) fun u s1 ⟨x, H1, I1, r1, q1⟩ => ?_
 obtain ⟨i, rfl, q⟩ := q1
 obtain ⟨t, rfl⟩ := r1
 exact ⟨some i, H1, I1, .int i t, q⟩

def SlR (X : Cx) (r : V -> Option Int -> Option Int -> Hp -> VK -> Prop) : Prop :=
 ∀ (pins : List (Addr × Obj)) (s : Shared) (σ : St) (H : Hp) (x : V) (v vl vu : Value) (lo hi : Option Int) (sl : Addr) (Q : VK), Inv X pins σ H s -> RelV x v -> s.heap.IsSliceOf sl vl vu .none -> IsPart vl lo -> IsPart vu hi -> r x lo hi H Q ->
  ∃ T id, typeLookup (.type T) "__getitem__" = pure (some (.builtin id)) /\ s.TypeIs v T /\ wpAny (model X.prog X.w) X.A (getItem v (.ref sl)) (EP X pins σ Q) X.xe s
theorem SlR.or {r r' : V -> Option Int -> Option Int -> Hp -> VK -> Prop} (h : SlR X r) (h' : SlR X r') : SlR X (fun x lo hi H Q => r x lo hi H Q \/ r' x lo hi H Q) := by
 intro pins s σ H x v vl vu lo hi sl Q I rx hs pl pu q
 rcases q with q | q
 ·exact h pins s σ H x v vl vu lo hi sl Q I rx hs pl pu q
 ·exact h' pins s σ H x v vl vu lo hi sl Q I rx hs pl pu q
def tSl (r : V -> Option Int -> Option Int -> Hp -> VK -> Prop) (te : TE) (tl th : TO) : TE := fun σ H Q => te σ H fun x H1 => tl σ H1 fun l H2 => th σ H2 fun u H3 => r x l u H3 Q
theorem pe_slice {r : V -> Option Int -> Option Int -> Hp -> VK -> Prop} (hr : SlR X r) (he : PE X e te) (hl : PO X lo tl) (hu : PO X hi th) : PE X (.Subscript e (.Slice lo hi none p2) pos) (tSl r te tl th) := by
 intro pins s σ H Q I h
 refine Subscript_ (thn (he pins s σ H _ I h) fun v s1 ⟨x, H1, I1, r1, q1⟩ => ?_)
 refine wpAny_Slice (thn (hl pins s1 σ H1 _ I1 q1) fun vl s2 ⟨l, H2, I2, pl, q2⟩ => thn (hu pins s2 σ H2 _ I2 q2) fun vu s3 ⟨u, H3, I3, pu, q3⟩ => ?_)
 rw [evalPart_none]
 refine wpAny_pure ?_
 have I4 : Inv X pins σ H3 { s3 with heap := s3.heap.push { cls := .type "slice", data := .fields #[vl, vu, .none] } } := I3.kept (t' := s3.toks) fun b ob q => Heap.get?_push_of_some _ q
 obtain ⟨T, id, hT, ht, hg⟩ := hr pins { s3 with heap := s3.heap.push { cls := .type "slice", data := .fields #[vl, vu, .none] } } σ H3 x v vl vu l u s3.heap.objs.size Q I4 r1 (Heap.IsSliceOf.new ..) pl pu q3
 show wpAny (model X.prog X.w) X.A (subscriptTail e (.Slice lo hi none p2) v (.ref s3.heap.objs.size)) (EP X pins σ Q) X.xe { s3 with heap := s3.heap.push { cls := .type "slice", data := .fields #[vl, vu, .none] } }
 exact tail_any (ops := [.ref s3.heap.objs.size, v]) ht hT hg (by with_unfolding_all rfl)

def cutV (xs : List V) (lo hi : Option Int) : List V := (xs.drop (HT.sIx xs.length 0 lo)).take (HT.sIx xs.length xs.length hi - HT.sIx xs.length 0 lo)
theorem cutV_length (xs : List V) (lo hi : Option Int) : (cutV xs lo hi).length <= xs.length := by
 unfold cutV
 rw [List.length_take, List.length_drop]
 omega
def rSlT (K : PySem.W.Frag) : V -> Option Int -> Option Int -> Hp -> VK -> Prop := fun x lo hi H Q => ∃ a xs, x = .ref a /\ SqT K H a xs /\
 ¬ (HT.sIx xs.length 0 lo = 0 /\ HT.sIx xs.length xs.length hi = xs.length) /\ ∀ p, H p = none -> Q (.ref p) (upd H p (.tup (cutV xs lo hi)))
theorem sl_tup : SlR X (rSlT X.K) := by
 intro pins s σ H x v vl vu lo hi sl Q I rx hs pl pu h
 obtain ⟨a, xs, rfl, hx, hw, q⟩ := h
 cases rx
 obtain ⟨its, r, ht, hz⟩ := I.tuple hx
 have hlen : its.toArray.size = xs.length := by rw [List.size_toArray]; exact r.length.symm
 refine ⟨"tuple", _, PyProof.Rows.slot_tuple_getitem.lookup, ht.typeIs, ?_⟩
 refine HT.getItem_tuple_cut ht hs pl pu (by rw [hlen]; exact hw) ?_ (by rw [hlen]; exact hz)
 rw [hlen]
 refine ⟨.ref s.heap.objs.size, _, I.laid (t' := s.toks) (o := .tup (cutV xs lo hi)) (fun b ob q => Heap.get?_push_of_some _ q) (Nat.le_refl _) ?_, rfl, q _ (I.hok.fresh (Nat.le_refl _))⟩
 exact ⟨Nat.le_trans (cutV_length xs lo hi) hz, _, (r.drop (HT.sIx xs.length 0 lo)).take (HT.sIx xs.length xs.length hi - HT.sIx xs.length 0 lo), IsTup.new _ _⟩

def rCatT (K : PySem.W.Frag) : R2 := fun x y H Q => ∃ a b xs ys, x = .ref a /\ y = .ref b /\ SqT K H a xs /\ SqT K H b ys /\ xs ≠ [] /\ xs.length + ys.length <= sizeLine /\
 (ys = [] -> Q (.ref a) H) /\ (ys ≠ [] -> ∀ p, H p = none -> Q (.ref p) (upd H p (.tup (xs ++ ys))))
theorem Vals.nil_iff {xs : List V} {us : List Value} (r : Vals xs us) : us = [] ↔ xs = [] := by
 cases r with
 | nil => simp
 | cons _ _ => simp
theorem op_catT : OpR X (binaryOp .Add) (rCatT X.K) := by
 intro pins s σ H x y v u Q I rx ry h
 obtain ⟨a, b, xs, ys, rfl, rfl, ha, hb, hx, hz, q1, q2⟩ := h
 cases rx
 cases ry
 obtain ⟨its, r1, p1, _⟩ := I.tuple ha
 obtain ⟨its2, r2, p2, _⟩ := I.tuple hb
 refine HT.cat_tup p1 p2 (fun z => hx (r1.nil_iff.mp z)) (fun z => ⟨.ref a, H, I, rfl, q1 (r2.nil_iff.mp z)⟩) (fun z => ?_) (by rw [<- r1.length, <- r2.length]; exact hz)
 refine ⟨.ref s.heap.objs.size, _, I.laid (t' := s.toks) (o := .tup (xs ++ ys)) (fun b ob q => Heap.get?_push_of_some _ q) (Nat.le_refl _) ?_, rfl, q2 (fun w => z (r2.nil_iff.mpr w)) _ (I.hok.fresh (Nat.le_refl _))⟩
 exact ⟨by rw [List.length_append]; exact hz, _, r1.append r2, IsTup.new _ _⟩
end
end L2

namespace L2
open PySem PySem.Spec PyProof.Rows

def ixN (n : Nat) (i : Int) : Option Nat := if 0 <= i then (if i < n then some i.toNat else none) else if -(n : Int) <= i then some (i + n).toNat else none
def atI {α : Type} (xs : List α) (i : Int) : Option α := (ixN xs.length i).bind fun j => xs[j]?
theorem ixN_seq {n : Nat} {i : Int} {j : Nat} (h : ixN n i = some j) : seqIndex? i n = some j /\ j < n /\ -(n : Int) <= i /\ i < n := by
 unfold ixN at h
 by_cases h0 : 0 <= i
 ·rw [if_pos h0] at h
  by_cases h1 : i < n
  ·rw [if_pos h1] at h
   have e : i.toNat = j := Option.some.inj h
   exact ⟨by rw [seqIndex_of h0 h1, e], by omega, by omega, h1⟩
  ·rw [if_neg h1] at h; cases h
 ·rw [if_neg h0] at h
  by_cases h1 : -(n : Int) <= i
  ·rw [if_pos h1] at h
   have e : (i + n).toNat = j := Option.some.inj h
   exact ⟨by rw [seqIndex_neg (by omega) h1, e], by omega, h1, by omega⟩
  ·rw [if_neg h1] at h; cases h
theorem atI_get {α : Type} {xs : List α} {i : Int} {v : α} (h : atI xs i = some v) : ∃ j, seqIndex? i xs.length = some j /\ xs[j]? = some v /\ j < xs.length /\ -(xs.length : Int) <= i /\ i < xs.length := by
 unfold atI at h
 cases e : ixN xs.length i with
 | none => rw [e] at h; cases h
 | some j =>
  rw [e] at h
  obtain ⟨h1, h2, h3, h4⟩ := ixN_seq e
  exact ⟨j, h1, h, h2, h3, h4⟩
theorem atI_nat {α : Type} {xs : List α} {j : Nat} {v : α} (h : xs[j]? = some v) : atI xs (j : Int) = some v := by
 have hj : j < xs.length := (List.getElem?_eq_some_iff.mp h).1
 have e : ixN xs.length (j : Int) = some j := by
  unfold ixN
  rw [if_pos (by omega), if_pos (by omega)]; simp
 unfold atI; rw [e]; exact h
def PlainIx (b : Expr) : Prop := ∀ o i, subscripted b false o i = operate [o, i] (getItem o i)
def IxR (X : Cx) (r : R2) : Prop :=
 ∀ (value slice : Expr) (pins : List (Addr × Obj)) (s : Shared) (σ : St) (H : Hp) (x y : V) (v u : Value) (Q : VK), Inv X pins σ H s -> RelV x v -> RelV y u -> r x y H Q ->
  subscripted slice false v u = operate [v, u] (getItem v u) -> wpAny (model X.prog X.w) X.A (subscriptTail value slice v u) (EP X pins σ Q) X.xe s
def MtR (X : Cx) (id : String) (r : V -> List V -> Hp -> VK -> Prop) : Prop :=
 ∀ (pins : List (Addr × Obj)) (s : Shared) (σ : St) (H : Hp) (x : V) (xs : List V) (v : Value) (us : List Value) (Q : VK), Inv X pins σ H s -> RelV x v -> Vals xs us -> r x xs H Q ->
  wpAny (model X.prog X.w) X.A (call (.builtin id) (v :: us)) (EP X pins σ Q) X.xe s
section
variable {X : Cx} {a b : Expr} {ta tb : TE} {pos : Pos}
theorem IxR.or {r r' : R2} (h : IxR X r) (h' : IxR X r') : IxR X (fun x y H Q => r x y H Q \/ r' x y H Q) := by
 intro value slice pins s σ H x y v u Q I rx ry q hs
 rcases q with q | q
 ·exact h value slice pins s σ H x y v u Q I rx ry q hs
 ·exact h' value slice pins s σ H x y v u Q I rx ry q hs
theorem pe_ix {r : R2} (hr : IxR X r) (ha : PE X a ta) (hb : PE X b tb) (hs : PlainIx b) : PE X (.Subscript a b pos) (tOp r ta tb) := by
 intro pins s σ H Q I h
 exact Subscript_ (binT ha hb I h fun v u s2 x y H2 I2 rx ry q => hr a b pins s2 σ H2 x y v u Q I2 rx ry q (hs _ _))

def rIxL (K : PySem.W.Frag) : R2 := fun x y H Q => ∃ p xs i v, x = .ref p /\ y = .int i /\ SqL K H p xs /\ atI xs i = some v /\ Q v H
def rIxT (K : PySem.W.Frag) : R2 := fun x y H Q => ∃ p xs i v, x = .ref p /\ y = .int i /\ SqT K H p xs /\ atI xs i = some v /\ Q v H
def rIxS : R2 := fun x y H Q => ∃ z i c, x = .str z /\ y = .int i /\ z.length <= sizeLine /\ atI z.cps.toList i = some c /\ Q (.str ⟨#[c]⟩) H
theorem ix_list : IxR X (rIxL X.K) := by
 intro value slice pins s σ H x y v u Q I rx ry h hs
 obtain ⟨p, xs, i, z, rfl, rfl, hq, he, q⟩ := h
 cases rx
 obtain ⟨t, rfl⟩ := ry
 obtain ⟨its, r, pl, hz⟩ := I.list hq
 obtain ⟨j, h1, h2, h3, h4, h5⟩ := atI_get he
 obtain ⟨w, ew, rw'⟩ := r.get h2
 have hl := r.length
 have hn := line63
 have fin : EP X pins σ Q w s := ⟨z, H, I, rw', q⟩
 by_cases h0 : 0 <= i
 ·have hj : i.toNat = j := by
   rw [seqIndex_of h0 h5] at h1
   exact Option.some.inj h1
  exact item_listR pl.isList h0 (by omega) (by rw [hj]; simpa using ew) fin hs
 ·have hj : (i + (its.toArray.size : Int)).toNat = j := by
   rw [seqIndex_neg (by omega) h4] at h1
   rw [List.size_toArray, <- hl]
   exact Option.some.inj h1
  exact subscriptTail_builtinR (x := w) pl.isList.typeIs slot_list_getitem.lookup
   (wpAny_getItem_list_neg (Q := fun r s' => r = w /\ EP X pins σ Q r s') pl.isList (by omega) (by rw [List.size_toArray] <;> omega) (by omega) (by rw [hj]; simpa using ew) ⟨rfl, fin⟩) hs
theorem ix_tup : IxR X (rIxT X.K) := by
 intro value slice pins s σ H x y v u Q I rx ry h hs
 obtain ⟨p, xs, i, z, rfl, rfl, hq, he, q⟩ := h
 cases rx
 obtain ⟨t, rfl⟩ := ry
 obtain ⟨its, r, pl, hz⟩ := I.tuple hq
 obtain ⟨j, h1, h2, h3, h4, h5⟩ := atI_get he
 obtain ⟨w, ew, rw'⟩ := r.get h2
 have hl := r.length
 have hn := line63
 have fin : EP X pins σ Q w s := ⟨z, H, I, rw', q⟩
 exact subscriptTail_builtinR (x := w) pl.typeIs slot_tuple_getitem.lookup
  (getItem_tuple (j := j) (Q := fun r s' => r = w /\ EP X pins σ Q r s') pl (by omega) (by omega) (by rw [List.size_toArray, <- hl]; exact h1) (by simpa using ew) ⟨rfl, fin⟩) hs
theorem ix_str : IxR X rIxS := by
 intro value slice pins s σ H x y v u Q I rx ry h hs
 obtain ⟨z, i, c, rfl, rfl, hz, he, q⟩ := h
 obtain ⟨t, rfl⟩ := rx
 obtain ⟨t', rfl⟩ := ry
 obtain ⟨j, h1, h2, h3, h4, h5⟩ := atI_get he
 have hl : z.cps.toList.length = z.length := by simp [Str.length]
 rw [hl] at h1 h4 h5
 have hn := line63
 exact tail_any (typeIs_str s z t) slot_str_getitem.lookup (getItem_str (c := c) (by
  have e1 : decide (i < -(2 ^ 63 : Int)) = false := decide_eq_false (by omega)
  have e2 : decide (i ≥ 2 ^ 63) = false := decide_eq_false (by omega)
  rw [e1, e2, Bool.or_false]) (by rw [h1]; simpa using h2) ⟨.str ⟨#[c]⟩, H, I.tok _, ⟨_, rfl⟩, q⟩) hs
def rIx (K : PySem.W.Frag) : R2 := fun x y H Q => rIxL K x y H Q \/ rIxT K x y H Q \/ rIxS x y H Q
theorem ix_seq : IxR X (rIx X.K) := ix_list.or (ix_tup.or ix_str)

theorem slice_bounds (lo hi : Option Int) (n : Nat) : (sliceBounds lo hi none n).1 = ((HT.sIx n 0 lo : Nat) : Int) /\ (sliceBounds lo hi none n).2.1 = ((HT.sIx n n hi : Nat) : Int) /\ (sliceBounds lo hi none n).2.2 = 1 := by
 refine ⟨?_, ?_, rfl⟩
 ·cases lo with
  | none => simp [sliceBounds, HT.sIx]
  | some i =>
   simp only [sliceBounds, HT.sIx, Option.getD_none, show (1 : Int) > 0 by decide, if_true]
   by_cases h : i < 0
   ·simp only [h, if_true] <;> omega
   ·simp only [h, if_false] <;> omega
 ·cases hi with
  | none => simp [sliceBounds, HT.sIx]
  | some i =>
   simp only [sliceBounds, HT.sIx, Option.getD_none, show (1 : Int) > 0 by decide, if_true]
   by_cases h : i < 0
   ·simp only [h, if_true] <;> omega
   ·simp only [h, if_false] <;> omega
theorem slicePick_cut (its : List Value) (lo hi : Option Int) : slicePick its.toArray lo hi none = ((its.drop (HT.sIx its.length 0 lo)).take (HT.sIx its.length its.length hi - HT.sIx its.length 0 lo)).toArray := by
 obtain ⟨h1, h2, h3⟩ := slice_bounds lo hi its.toArray.size
 unfold slicePick
 rw [h1, h2, h3]
 simp only [sliceRange_one, pick_run, List.size_toArray] <;> rfl
def rSlL (K : PySem.W.Frag) : V -> Option Int -> Option Int -> Hp -> VK -> Prop := fun x lo hi H Q => ∃ a xs, x = .ref a /\ SqL K H a xs /\ ∀ p, H p = none -> Q (.ref p) (upd H p (.lst (cutV xs lo hi)))
theorem sl_list : SlR X (rSlL X.K) := by
 intro pins s σ H x v vl vu lo hi sl Q I rx hs pl pu h
 obtain ⟨a, xs, rfl, hx, q⟩ := h
 cases rx
 obtain ⟨its, r, ht, hz⟩ := I.list hx
 have hlen := r.length
 refine ⟨"list", _, slot_list_getitem.lookup, ht.isList.typeIs, ?_⟩
 refine wpAny_getItem_list_slice ht.isList hs pl pu .none (by simp) ?_ (by rw [List.size_toArray] <;> omega)
 rw [slicePick_cut, <- hlen]
 refine ⟨.ref s.heap.objs.size, _, I.laid (t' := s.toks) (o := .lst (cutV xs lo hi)) (fun b ob q => Heap.get?_push_of_some _ q) (Nat.le_refl _) ?_, rfl, q _ (I.hok.fresh (Nat.le_refl _))⟩
 exact ⟨Nat.le_trans (cutV_length xs lo hi) hz, _, 0, (r.drop (HT.sIx xs.length 0 lo)).take (HT.sIx xs.length xs.length hi - HT.sIx xs.length 0 lo), Heap.get?_push_size _ rfl⟩

theorem call_len_seq : CallR X (.builtin "len") (fun xs H Q => ∃ p ys, xs = [.ref p] /\ (SqL X.K H p ys \/ SqT X.K H p ys) /\ Q (.int ys.length) H) := by
 intro pins s σ H xs us Q I r h
 obtain ⟨p, ys, rfl, hq, q⟩ := h
 obtain ⟨u, rfl, rx⟩ := vals1 r
 cases rx
 have hn := line63
 rcases hq with hq | hq
 ·obtain ⟨its, r', pl, hz⟩ := I.list hq
  have hlen := r'.length
  exact Calls.call_len_list pl.isList (by simp only [List.size_toArray] <;> omega) ⟨.int ys.length, H, I.tok _, ⟨s.toks + 1, by rw [List.size_toArray, hlen]⟩, q⟩
 ·obtain ⟨its, r', pl, hz⟩ := I.tuple hq
  have hlen := r'.length
  exact len_tuple pl (by simp only [List.size_toArray] <;> omega) ⟨.int ys.length, H, I.tok _, ⟨s.toks + 1, by rw [List.size_toArray, hlen]⟩, q⟩
theorem call_len_str : CallR X (.builtin "len") (fun xs H Q => ∃ z, xs = [.str z] /\ z.length <= sizeLine /\ Q (.int z.length) H) := by
 intro pins s σ H xs us Q I r h
 obtain ⟨z, rfl, hz, q⟩ := h
 obtain ⟨u, rfl, t, rfl⟩ := vals1 r
 have hn := line63
 exact len_str (by omega) ⟨.int z.length, H, I.tok _, ⟨_, rfl⟩, q⟩
theorem CallR.or {f : Value} {r r' : List V -> Hp -> VK -> Prop} (h : CallR X f r) (h' : CallR X f r') : CallR X f (fun xs H Q => r xs H Q \/ r' xs H Q) := by
 intro pins s σ H xs us Q I rs q
 rcases q with q | q
 ·exact h pins s σ H xs us Q I rs q
 ·exact h' pins s σ H xs us Q I rs q
def tyV (K : PySem.W.Frag) (T : String) (x : V) (H : Hp) : Prop := match x with
 | .str _ => T = "str"
 | .int _ => T = "int"
 | .ref p => (T = "list" /\ ∃ xs, SqL K H p xs) \/ (T = "tuple" /\ ∃ o, K.lookup p = some o /\ o.cls = .type "tuple" /\ o.dict = none) \/
   (T = "dict" /\ ((∃ kvs, H p = some (.dK kvs)) \/ ∃ kvs, H p = some (.dT kvs))) \/ (T = "set" /\ ∃ S n, H p = some (.set S n))
 | _ => False
theorem tyV_is {pins : List (Addr × Obj)} {σ : St} {H : Hp} {s : Shared} {T : String} {x : V} {v : Value} (I : Inv X pins σ H s) (r : RelV x v) (ty : tyV X.K T x H) :
  s.TypeIs v T /\ ∀ a, v = .ref a -> ∃ ob, s.heap.get? a = some ob /\ ob.dict = none := by
 cases x with
 | str z =>
  obtain ⟨t, rfl⟩ := r
  cases (show T = "str" from ty)
  exact ⟨typeIs_str s z t, fun _ e => nomatch e⟩
 | int i =>
  obtain ⟨t, rfl⟩ := r
  cases (show T = "int" from ty)
  exact ⟨typeIs_int s i t, fun _ e => nomatch e⟩
 | ref p =>
  cases r
  rcases ty with ⟨rfl, xs, hq⟩ | ⟨rfl, o, hk, hc, hd⟩ | ⟨rfl, hk⟩ | ⟨rfl, S, n, hk⟩
  ·obtain ⟨its, _, pl, _⟩ := I.list hq
   refine ⟨pl.isList.typeIs, fun a e => ?_⟩
   cases e
   obtain ⟨o, n, e, c, hd, _⟩ := pl
   exact ⟨o, e, hd⟩
  ·refine ⟨⟨o, I.kIn p o hk, hc⟩, fun a e => ?_⟩
   cases e
   exact ⟨o, I.kIn _ o hk, hd⟩
  ·have z : ∃ o, s.heap.get? p = some o /\ o.ExactDict := by
    rcases hk with ⟨kvs, hk⟩ | ⟨kvs, hk⟩
    ·obtain ⟨_, _, _, _, o, _, _, e, ex, _⟩ := I.hok p _ hk
     exact ⟨o, e, ex⟩
    ·obtain ⟨_, _, _, _, o, _, _, e, ex, _⟩ := I.hok p _ hk
     exact ⟨o, e, ex⟩
   obtain ⟨o, e, ex⟩ := z
   refine ⟨⟨o, e, ex.1⟩, fun a e2 => ?_⟩
   cases e2
   exact ⟨o, e, ex.2.1⟩
  ·obtain ⟨o, _, _, _, e, ex, _⟩ := I.hok p _ hk
   refine ⟨⟨o, e, ex.1⟩, fun a e2 => ?_⟩
   cases e2
   exact ⟨o, e, ex.2.1⟩
 | _ => exact False.elim ty
def tBM (K : PySem.W.Frag) (T : String) (r : V -> List V -> Hp -> VK -> Prop) (to : TE) (t : TA) : TE := fun σ H Q => to σ H fun x H1 => tyV K T x H1 /\ t σ H1 fun xs H2 => r x xs H2 Q
variable {o e : Expr} {es : List Expr} {to : TE} {t : TA} {name : Str} {apos cpos : Pos} {T id : String} {r : V -> List V -> Hp -> VK -> Prop}
theorem pe_bm (pa : PlainAttrs T) (slot : Slot T name id) (hty : typeOf (.builtin id) = pure (.type "method_descriptor")) (hm : MtR X id r) (ho : PE X o to) (ha : PA X (e :: es) t)
  (hbase : attributeBase o name X.env (eval o X.env) = eval o X.env := by rfl)
  (hfew : ((backTo cpos (starEach (e :: es) X.env)).all (fun x => !x.1) && (backToKw cpos (keywordEach [] X.env)).all (fun x => x.1.isSome)
   && decide ((e :: es).length + ([] : List Keyword).length + (if ([] : List Keyword).isEmpty then 0 else 1) < 30)) = true := by rfl)
  (hline : (apos.endLine == cpos.line) = true := by rfl) (hs : starEach (e :: es) X.env = (false, eval e X.env) :: starEach es X.env := by rfl) (hplain : (backTo cpos (starEach es X.env)).any (·.1) = false := by rfl) :
  PE X (.Call (.Attribute o name apos) (e :: es) [] cpos) (tBM X.K T r to t) := by
 intro pins s σ H Q I h
 refine wpAny_Call_method_late hbase hfew hline rfl (thn (ho pins s σ H _ I h) fun v s1 ⟨x, H1, I1, r1, ty, q1⟩ => ?_)
 obtain ⟨h1, h2⟩ := tyV_is I1 r1 ty
 refine ⟨T, id, pa, slot, hty, h1, h2, ?_⟩
 have hA := ha cpos pins s1 σ H1 _ I1 q1
 rw [hs] at hA ⊢
 refine Calls.callWith_builtin (by show (false || (backTo cpos (starEach es X.env)).any (·.1)) = false; rw [hplain] <;> rfl) (Calls.evalArgs_plain ?_)
 exact thn hA fun us s2 ⟨vs, H2, I2, r2, q2⟩ => hm pins s2 σ H2 x vs v us Q I2 r1 r2 q2
/- xs.append(e), list.index on a module's tuple .. are MtR facts of 06m -/
end
end L2

namespace L2
open PySem PySem.Spec PyProof.Rows

def MtM (X : Cx) (id : String) (r : V -> List V -> Hp -> VK -> Prop) : Prop :=
 ∀ (pins : List (Addr × Obj)) (s : Shared) (σ : St) (H : Hp) (x : V) (xs : List V) (v : Value) (us : List Value) (Q : VK), Inv X pins σ H s -> RelV x v -> Vals xs us -> r x xs H Q ->
  wpAny (model X.prog X.w) X.A (call (.builtin id) (v :: us)) (EP X pins σ Q) X.xe s

theorem Vals.one : ∀ {x : V} {us : List Value}, Vals [x] us -> ∃ u, us = [u] /\ RelV x u
 | _, _, .cons r .nil => ⟨_, rfl, r⟩
section
variable {X : Cx} {pins : List (Addr × Obj)} {σ : St} {H : Hp} {s : Shared} {l b : Addr} {xs ys zs : List V}

theorem Inv.lset {its its' : List Value} {n : Nat} {f : Array Value -> Array Value} {t' : Nat} (I : Inv X pins σ H s) (hH : H l = some (.lst xs))
  (e : s.heap.get? l = some { cls := .type "list", data := .seq its.toArray n }) (hf : f its.toArray = its'.toArray) (hv : Vals ys its') (hz : ys.length <= sizeLine) :
  Inv X pins σ (upd H l (.lst ys)) { s with heap := s.heap.update l (Obj.mapSeq f), toks := t' } := by
 have q := PySem.IsL.update e f
 rw [hf] at q
 refine I.write (x := l) (e := l) (by rw [hH]; exact trivial) (.inl rfl) (fun b' u hb hu => (Heap.get?_update_other s.heap (Obj.mapSeq f) (Ne.symm hb)).trans hu) ⟨_, q⟩ ?_
 exact ⟨hz, its', _, hv, q⟩
theorem Inv.lnew {its : List Value} {t' : Nat} (I : Inv X pins σ H s) (hv : Vals ys its) (hz : ys.length <= sizeLine) :
  Inv X pins σ (upd H s.heap.objs.size (.lst ys)) { s with heap := s.heap.push { cls := .type "list", data := .seq its.toArray }, toks := t' } :=
 I.laid (fun _ _ q => Heap.get?_push_of_some _ q) (Nat.le_refl _) ⟨hz, its, 0, hv, Heap.get?_push_size _ rfl⟩
theorem Inv.fresh (I : Inv X pins σ H s) : H s.heap.objs.size = none := I.hok.fresh (Nat.le_refl _)
theorem Inv.lstM (I : Inv X pins σ H s) (hH : H l = some (.lst xs)) : xs.length <= sizeLine /\ ∃ (its : List Value) (n : Nat), Vals xs its /\ xs.length = its.length /\ s.heap.get? l = some { cls := .type "list", data := .seq its.toArray n } := by
 obtain ⟨z, its, n, r, e⟩ := I.hok l _ hH
 exact ⟨z, its, n, r, r.length, e⟩

end

section
variable {X : Cx}

def rAppend : V -> List V -> Hp -> VK -> Prop := fun x vs H Q => ∃ l xs y, x = .ref l /\ vs = [y] /\ H l = some (.lst xs) /\ xs.length < sizeLine /\ Q .non (upd H l (.lst (xs ++ [y])))
theorem mt_append : MtM X "list.append" rAppend := by
 intro pins s σ H x vs v us Q I rx rv h
 obtain ⟨l, xs, y, rfl, rfl, hH, hz, q⟩ := h
 cases rx
 obtain ⟨u, rfl, ru⟩ := rv.one
 obtain ⟨z, its, n, r, hl, e⟩ := I.lstM hH
 refine call_meets F.slot_list_append ⟨_, e, rfl⟩ F.entry_list_append (F.args_list_append_2 _ _) (PySem.list_append l its.toArray n u (by rw [List.size_toArray]; omega)) ⟨e, ?_⟩
 refine ⟨.non, _, I.lset (its' := its ++ [u]) hH e (by simp) (r.append (.cons ru .nil)) ?_, rfl, q⟩
 rw [List.length_append, List.length_singleton]
 omega

end

section
variable {prog : Program} {w : World} {A : Around} {E : Value -> Shared -> Prop} {s : Shared}
end

section
variable {X : Cx}
end
end L2

namespace Att
open PySem PySem.W PySem.Calls PyProof.Rows

theorem ints_of_wellAll {P : Params} {h : Heap} : ∀ (ns : List Int) (vs : List Value), WellAll P h vs (ns.map WData.int) -> IntsAre vs ns := by
 intro ns
 induction ns with
 | nil =>
  intro vs w
  rw [List.map_nil] at w
  cases w
  exact .nil
 | cons n ns ih =>
  intro vs w
  rw [List.map_cons] at w
  cases w with
  | cons a b =>
   cases a
   exact .cons _ _ (ih _ b)

theorem script_of {l : OpenLaw} {n : Nat} (hn : l.most = some n) {P : Params} {h : Heap} {args : List WData} {vals : List Value}
  (hpre : l.row.toRowW.claim.pre args = true) (hwl : WellAll P h vals args) :
  ∃ a vs ns, vals = [Value.ref a] /\ args = [WData.list (ns.map WData.int)] /\ h.get? a = some { cls := .type "list", data := .seq vs.toArray } /\ IntsAre vs ns /\ ns.length <= n := by
 have hsh : WShape.hasAll [] args [.list .int] = true := (pre_splitW hpre).1
 have hc : l.pre.holds [] { args := args } = true := (pre_splitW hpre).2
 obtain ⟨d, r, rfl, h1, h2⟩ := hasAllW_cons hsh
 obtain rfl := hasAllW_nil h2
 obtain ⟨xs, rfl, h3⟩ := hasW_list h1
 obtain ⟨ns, rfl⟩ := items_int h3
 have hlen : ns.length <= n := by
  unfold OpenLaw.pre at hc
  have h4 : (WTm.not (.lt (.lit (.int (n : Int))) (.len (.arg 0)))).holds [] { args := [.list (ns.map .int)] } = true := by
   have h4 := (holds_andW hc).1
   rw [hn] at h4
   exact h4
  have h5 := condW_of h4 (w_not (w_lt w_lit (w_len_list (w_arg rfl))))
  rw [List.length_map] at h5
  refine Nat.le_of_not_lt fun q => ?_
  have q' : (n : Int) < ((ns.length : Nat) : Int) := by omega
  first
   | (rw [decide_eq_true q'] at h5; exact absurd h5 (by decide))
   | (simp at h5; omega)
 cases hwl with
 | cons w1 w2 =>
  cases w2
  cases w1 with
  | list ho hall => exact ⟨_, _, ns, rfl, rfl, ho, ints_of_wellAll ns _ hall, hlen⟩

theorem post_true (l : OpenLaw) (args : List WData) : l.row.toRowW.claim.post args (.bool true) args = true :=
 postW_of (r := l.row.toRowW) (X := (true == true))
  (show WShape.has [] (.bool true) .bool = true by first | rfl | decide | simp [WShape.has, WShape.arms, WShape.armsAll])
  (show (WTm.eq .res (.lit (.bool true))).value [] { args := args, res := some (.bool true), after := args } = some (.bool (true == true)) from w_eq_bool (w_res rfl) w_lit) rfl

theorem attach_call {l : OpenLaw} {n : Nat} {q : Program} {loose : List Str} {XP : (Str -> Option Value) -> Heap -> Prop} {YP : World -> Heap -> Prop} {d : DefRec}
  (hn : l.most = some n) (hdf : d.params.defaults = [])
  (call : ∀ (w : World) (s₀ s₁ : Shared) (mg mb : Str -> Option Value) (fa : Addr) (o : Obj) (pm cd doc : Value) (a : Addr) (vs : List Value) (ns : List Int),
   Ground q loose [] XP w s₀ mg mb s₁.heap -> YP w s₁.heap ->
   s₁.heap.get? fa = some o -> o.data = .func (docDef d.name d.params d.body d.scope pm cd doc) -> s₁.heap.CodeRec cd d.name -> mg d.name = some (.ref fa) ->
   s₁.heap.get? a = some { cls := .type "list", data := .seq vs.toArray } -> IntsAre vs ns -> ns.length <= n -> s₁.gens = #[] ->
   codeAny (model l.prog w) callerA (.call (.ref fa) ⟨[.ref a], []⟩) (fun r s' => r = .ok (.ret (.bool true)) /\ OldK s₁.heap s'.heap /\ s'.os = s₁.os /\ AllBare s'.gens) s₁) :
  WalkO q loose XP YP l.row.toRowW d [] (fun f vs => PySem.call f vs) := by
 intro w s₀ s₁ mg mb G Y fa o pm cd doc dV kV ho hd hcd hD hmg hg args vals as hpre hlay hrd hwl hlo
 obtain rfl : dV = .none := Dflts.none hD hdf
 obtain rfl : kV = .none := Dflts.noKw hD
 obtain ⟨a, vs, ns, rfl, rfl, hobj, hints, hlen⟩ := script_of hn hpre hwl
 refine enter_call (codeAny_mono (call w s₀ s₁ mg mb fa o pm cd doc a vs ns G Y ho (fd_plain hd) hcd hmg hobj hints hlen hg) fun r s' hq => ?_)
 obtain ⟨rfl, h2, h3, h4⟩ := hq
 exact ⟨.inl ⟨.bool true, .bool true, [], rfl, fun _ => rfl, .bool true, post_true l _, fun _ => ⟨List.Pairwise.nil, fun _ hm => (nomatch hm)⟩⟩, h2, h3, h4⟩

section
variable {prog : Program} {w : World} {A : Around} {E : Value -> Shared -> Prop} {s : Shared} {K : Frag}

theorem get_field {x C : Addr} {ox : Obj} {es : List DictEntry} {n : Nat} {name : Str} {expr : Bool} {v : Value} {Q : Value -> Shared -> Prop}
  (X : K.In s.heap) (I : PySem.W.InstAt s.heap x ox C (some (dictOf es n))) (hg : plainGet K C name = true) (hh : hasDictIn K C = true) (ha : findIn K (.ref C) name = some none)
  (hl : getL name es = some (some v)) (hv : handedIn v = true) (h : Q v { s with toks := s.toks + 1 }) : wpAny (model prog w) A (getAttr (.ref x) name expr) Q E s :=
 get_value X I (plainGet_of hg).1 (findObj_own hh ha rfl hl) hv h

def noObjs (h : Heap) : Heap := { h with objs := #[] }
theorem noObjs_get (h : Heap) (b : Addr) : (noObjs h).get? b = none := by
 cases e : (noObjs h).get? b with
 | none => rfl
 | some o => exact absurd (Heap.lt_size e) (Nat.not_lt_zero _)
def ledger (h : Heap) (L d : Addr) : List (Addr × Obj) := (List.range h.objs.size).filterMap fun a => if a = L \/ a = d then none else (h.get? a).map fun o => (a, o)
theorem mem_ledger {h : Heap} {L d a : Addr} {o : Obj} : (a, o) ∈ ledger h L d ↔ a ≠ L /\ a ≠ d /\ h.get? a = some o := by
 unfold ledger
 rw [List.mem_filterMap]
 constructor
 ·rintro ⟨b, _, e⟩
  split at e
  ·cases e
  ·rename_i hb
   obtain ⟨o', ho, e'⟩ := Option.map_eq_some_iff.mp e
   cases e'
   exact ⟨fun q => hb (.inl q), fun q => hb (.inr q), ho⟩
 ·rintro ⟨n1, n2, ho⟩
  refine ⟨a, List.mem_range.mpr (Heap.lt_size ho), ?_⟩
  rw [if_neg (show ¬ (a = L \/ a = d) from fun q => q.elim n1 n2), ho] <;> rfl
theorem news_ledger {h : Heap} {L d : Addr} {od : Obj} (hne : d ≠ L) (ho : h.get? d = some od) : News (noObjs h) L h ([] ++ (d, od) :: ledger h L d) := by
 rintro ⟨a, o⟩ hp
 rcases List.mem_cons.mp hp with e | hp
 ·cases e
  exact ⟨ho, hne, noObjs_get _ _⟩
 ·obtain ⟨n1, n2, e⟩ := mem_ledger.mp hp
  exact ⟨e, n1, noObjs_get _ _⟩
theorem fr_all {h : Heap} {L : Addr} {m : Str -> Option Value} (n : h.Ns L m) : Fr (noObjs h) L h m :=
 ⟨n, fun b o e => (by rw [noObjs_get] at e; cases e), Nat.zero_le _⟩
theorem set_field {x C dx L : Addr} {ox : Obj} {m : Str -> Option Value} {es es' : List DictEntry} {n n' : Nat} {name : Str} {v : Value} {Q : Unit -> Shared -> Prop}
  (X : K.In s.heap) (I : PySem.W.InstAt s.heap x ox C (some (dictOf es n))) (hd : ox.dict = some dx) (hL : s.heap.Ns L m) (hne : dx ≠ L)
  (hs : findIn K (.ref C) "__setattr__" = some (some (.builtin "object.__setattr__"))) (hp : plainOver K C = true) (ht : takerIn K C name = some none) (hh : hasDictIn K C = true) (hl : (getL name es).isSome = true)
  (e : (putL name (PyData.keyHash w.params name) (.str name (s.toks + 1)) v es, putN name es n) = (es', n')) (hz : es'.length <= 1000)
  (h : ∀ h' : Heap, h'.Ns L m -> h'.get? dx = some (dictOf es' n') -> (∀ b o, b ≠ dx -> b ≠ L -> s.heap.get? b = some o -> h'.get? b = some o) -> Q () { s with heap := h', toks := s.toks + 2 }) :
  wpAny (model prog w) A (setAttr (.ref x) name v) Q E s := by
 obtain ⟨e1, e2⟩ := Prod.mk.inj e
 have hdx : s.heap.get? dx = some (dictOf es n) := by
  have := I.dict
  rw [hd] at this
  exact this
 refine set_plain X I hs (osa_dict (s := { s with toks := s.toks + 1 }) (h₀ := noObjs s.heap) (L := L) (m := m) (od := dictOf es n) (od' := dictOf es' n') (es := es') (n := n') (pre := []) (post := ledger s.heap L dx)
  (fr_all hL) (news_ledger hne hdx) X I hd hp ht hh hl (fun _ q => nomatch q) (fun ⟨_, _⟩ q => (mem_ledger.mp q).2.1) (by rw [putName_dict, e1, e2]) rfl hz fun h' F' N' => ?_)
 exact h h' F'.ns (N'.get (List.Mem.head _)) fun b o n1 n2 ho => N'.get (List.Mem.tail _ (mem_ledger.mpr ⟨n2, n1, ho⟩))
end
end Att

namespace L2
open PySem PySem.Spec PyProof.Rows

theorem vals_ints : ∀ {vs : List Value} {ns : List Int}, IntsAre vs ns -> Vals (ns.map V.int) vs
 | _, _, .nil => .nil
 | _, _, .cons n t h => .cons ⟨t, rfl⟩ (vals_ints h)

def Only (H : Hp) : Prop := ∀ b, H b = none \/ ∃ o xs, H b = some (.frz o (.lst xs))

theorem law_call {P : Program} {w : World} {K : PySem.W.Frag} {mg mb : Str -> Option Value} {CX : CXT} {k : Nat} {fa a : Addr} {fd : FuncData} {x : Str} {sp : Sp} {s₁ : Shared} {vs : List Value} {ns : List Int}
  (KX : K.In s₁.heap) (hns : s₁.heap.Ns mainGlobals mg) (hb : s₁.heap.Ns builtinsNs mb) (hbb : ∀ x : Str, x ≠ "__name__" -> mb x = bootBuiltins x) (hlim : s₁.heap.NoLimit) (hg : s₁.gens = #[])
  (ha : s₁.heap.get? a = some { cls := .type "list", data := .seq vs.toArray }) (hi : IntsAre vs ns) (hl : ns.length <= sizeLine) (hr : Room k callerA)
  (F : ∀ base : Heap, K.In base -> base.Ns mainGlobals mg -> FnOk P w K mg base CX k fa fd [x] sp) (hbind : ∀ (s : Shared) (u : Value), BindsTo s fd ⟨[u], []⟩ [(x, u)])
  (hsp : ∀ H : Hp, Only H -> SqL K H a (ns.map V.int) -> sp [.ref a] H (fun v _ => v = .bl true) fun _ _ _ => False)
  (hCX : ∀ H e s', CX [] H s₁ (fun _ _ _ => False) e s' -> False) :
  codeAny (model P w) callerA (.call (.ref fa) ⟨[.ref a], []⟩) (fun r s' => r = .ok (.ret (.bool true)) /\ OldK s₁.heap s'.heap /\ s'.os = s₁.os /\ AllBare s'.gens) s₁ := by
 have rv := vals_ints hi
 have lenV := hi.length
 have core : ∀ H : Hp, Only H -> SqL K H a (ns.map V.int) -> HOk P w H s₁.heap -> (∀ b, H b ≠ none -> b = a) -> (H a ≠ none -> K.lookup a = none) ->
   codeAny (model P w) callerA (.call (.ref fa) ⟨[.ref a], []⟩) (fun r s' => r = .ok (.ret (.bool true)) /\ OldK s₁.heap s'.heap /\ s'.os = s₁.os /\ AllBare s'.gens) s₁ := by
  intro H hO hS hok hA hK
  have base_of : ∀ {b : Addr} {o : Obj}, s₁.heap.get? b = some o -> H b = none -> (hidT s₁.heap H).get? b = some o := fun e n => hidT_get e n
  have noA : ∀ {b : Addr} {o : Obj} {es : Array DictEntry} {ep : Nat}, s₁.heap.get? b = some o -> o.data = .dict es ep -> H b = none := fun {b o es ep} e d => by
   cases q : H b with
   | none => rfl
   | some u =>
    have e' : b = a := hA b (by rw [q]; simp)
    subst e'
    rw [ha] at e; cases e
    have d' : Data.seq vs.toArray _ = Data.dict es ep := d
    cases d'
  have nsK : ∀ {b : Addr} {m : Str -> Option Value}, s₁.heap.Ns b m -> (hidT s₁.heap H).Ns b m := fun {b m} ⟨o, es, ep, e, d, r⟩ => ⟨o, es, ep, base_of e (noA e d), d, r⟩
  have hKb : K.In (hidT s₁.heap H) := fun b o e => base_of (KX b o e) (by
   cases q : H b with
   | none => rfl
   | some u =>
    have e' : b = a := hA b (by rw [q]; simp)
    subst e'
    rw [hK (by rw [q]; simp)] at e; cases e)
  have hM : Mod K mg (hidT s₁.heap H) := ⟨hKb, nsK hns, ⟨mb, nsK hb, hbb⟩, let ⟨mc, h1, h2⟩ := hlim; ⟨mc, nsK h1, h2⟩⟩
  have e0 : Env0 P w K mg (hidT s₁.heap H) callerA [] s₁ H := ⟨rfl, hM, fun b o e => of_hidT e, Nat.le_of_eq (hidT_size _ _), trivial, fun b hb => absurd (show b ∈ ([] : List Addr) from hb) (by simp), hok, .of_eq hg⟩
  refine codeAny_mono ((F _ hKb (nsK hns)).run callerA [] s₁ H ⟨[.ref a], []⟩ [.ref a] [.ref a] _ _ hr e0 (hbind s₁ (.ref a)) (.cons rfl .nil) (hsp H hO hS)) fun r s' h => ?_
  cases r with
  | error e => exact (hCX H e s' h).elim
  | ok fl =>
   cases fl with
   | next => exact False.elim h
   | brk => exact False.elim h
   | cont => exact False.elim h
   | ret u =>
    obtain ⟨v, H', os, bare, un, hok', r', q⟩ := h
    have q' : v = .bl true := q
    subst q'
    obtain rfl : u = Value.bool true := r'
    refine ⟨rfl, OldK.of_keep fun b o e => ?_, os, bare⟩
    cases q : H b with
    | none => exact un.keep b o e q (by intro z; exact absurd (show b ∈ ([] : List Addr) from z) (by simp)) (by simp)
    | some u =>
     rcases hO b with z | ⟨ob, xs, z⟩
     ·rw [q] at z; cases z
     ·have z2 := un.frzs b ob _ z
      obtain ⟨e1, _⟩ := hok b _ z
      obtain ⟨e2, _⟩ := hok' b _ z2
      rw [e] at e1; cases e1
      exact e2
 cases hk : K.lookup a with
 | some o =>
  have e := KX a o hk
  rw [ha] at e
  cases e
  refine core (fun _ => none) (fun _ => .inl rfl) (.inr ⟨_, vs.toArray, _, hk, rfl, rfl, rfl, by rw [List.size_toArray, lenV]; exact hl, by simpa using rv⟩) (fun b u z => by have z' : (none : Option HO) = some u := z; cases z') (fun b z => absurd rfl z) fun z => absurd rfl z
 | none =>
  refine core (fun b => if b = a then some (.frz { cls := .type "list", data := .seq vs.toArray } (.lst (ns.map V.int))) else none) (fun b => ?_) (.inl (.inr ⟨{ cls := .type "list", data := .seq vs.toArray }, if_pos rfl⟩)) (fun b u z => ?_) (fun b z => ?_) fun _ => hk
  ·by_cases hb : b = a
   ·exact .inr ⟨_, _, if_pos hb⟩
   ·exact .inl (if_neg hb)
  ·by_cases hb : b = a
   ·have z' := (if_pos hb).symm.trans z
    cases z'
    subst hb
    exact ⟨ha, by rw [List.length_map]; exact hl, vs, _, rv, ha⟩
   ·have z' := (if_neg hb).symm.trans z
    cases z'
  ·by_cases hb : b = a
   ·exact hb
   ·exact absurd (if_neg hb) z
end L2

namespace L2
open PySem PySem.Spec PyProof.Rows

abbrev KOf {K : PySem.W.Frag} {h : Heap} (_ : K.In h) : PySem.W.Frag := K

theorem walk_of {l : PySem.W.OpenLaw} {n k : Nat} {q : Program} {loose : List Str} {XP : (Str -> Option Value) -> Heap -> Prop} {YP : World -> Heap -> Prop} {d : DefRec} {K : Params -> PySem.W.Frag} {CX : World -> CXT} {sp : World -> Sp} {x : Str}
  (hn : l.most = some n) (hn2 : n <= sizeLine) (hdf : d.params.defaults = []) (hr : Room k callerA)
  (hY : ∀ (w : World) (h : Heap), YP w h -> (K w.params).In h)
  (F : ∀ (w : World) (mg : Str -> Option Value) (fa : Addr) (h : Heap), (K w.params).In h -> h.Ns mainGlobals mg -> mg d.name = some (.ref fa) ->
   ∃ fd : FuncData, (∀ (s : Shared) (u : Value), BindsTo s fd ⟨[u], []⟩ [(x, u)]) /\
    ∀ base : Heap, (K w.params).In base -> base.Ns mainGlobals mg -> FnOk l.prog w (K w.params) mg base (CX w) k fa fd [x] (sp w))
  (hsp : ∀ (w : World) (H : Hp) (a : Addr) (ns : List Int), ns.length <= n -> Only H -> SqL (K w.params) H a (ns.map V.int) -> sp w [.ref a] H (fun v _ => v = .bl true) fun _ _ _ => False)
  (hCX : ∀ (w : World) (H : Hp) (s : Shared) (e : Value) (s' : Shared), CX w [] H s (fun _ _ _ => False) e s' -> False) :
  PySem.W.WalkO q loose XP YP l.row.toRowW d [] (fun f vs => PySem.call f vs) := by
 refine Att.attach_call hn hdf fun w s₀ s₁ mg mb fa o pm cd doc a vs ns G Y ho hd hcd hmg hobj hints hlen hg => ?_
 have KX := hY w _ Y
 obtain ⟨fd, hb, hF⟩ := F w mg fa _ KX G.T.g hmg
 exact law_call KX G.T.g G.T.b G.T.builtins G.T.nolimit hg hobj hints (Nat.le_trans hlen hn2) hr hF hb (fun H hO hS => hsp w H a ns hlen hO hS) fun H e s' => hCX w H s₁ e s'
end L2

/- THE LAST THEOREM (shape; LID, My.* are yours):
   My.Adr: a structure of the addresses that your layer names (classes, functions); My.Txt K t: a structure (Prop) of the equations over K;
   My.txt_mk : {K} {implicit addresses ..} (e1 : nsIn K mainGlobals "law" = some (some (.ref f))) (e2 : K.lookup f = some ⟨oc, od, .func (fnOf "law" "law" params body scope dV kV doc pm an cdv ct), sl⟩) (e3 : codeIn K cdv "law" = true) .. : ∃ t, My.Txt K t

theorem PySem.Challenge.cw_LID_holds : PySem.Challenge.rw_LID.Holds := by
 w_on; o_law; k_head; (case hw => w_witness2)
 k_fill
 refine L2.walk_of (l := PySem.Challenge.rw_LID) (n := 63) (k := 40) (x := "script") (CX := fun w => ..) (sp := fun _ => My.sp_law) rfl (by decide) rfl ⟨rfl, by decide, by decide⟩ (fun w h Y => PySem.W.kIn_of Y) ?F ?S ?C
 case F =>
  intro w mg fa h KX G hmg
  have T : ∃ t, My.Txt (L2.KOf KX) t := by
   dsimp only [L2.KOf]                          -- K must stand as «<heap const> w.params» for k_is
   refine' My.txt_mk ?e1 ?e2 ?e3 ..
   (case e1 => PySem.W.k_is)                    -- in the order: a name -> its address -> its object -> its parts
   (case e2 => PySem.W.k_is)
   ..
  obtain ⟨t, T⟩ := T
  have e0 := hmg.symm.trans (PySem.W.mg_of KX G T.law)
  cases e0                                       -- fa is the law's own address
  exact ⟨_, fun s u => .of_eq rfl, fun base kb nb => My.law_fn T kb nb⟩     -- if «.of_eq rfl» comes too early: refine' ⟨_, ?b, fun base kb nb => My.law_fn T kb nb⟩; exact fun s u => .of_eq rfl
 case S => exact fun w H a ns hl hO hS => ..
 case C => exact ..
(the tactic k_is has no namespace: write k_is) -/

namespace L2
open PySem PySem.Spec PyProof.Rows

def defArgs (s : Stmt) : Arguments := match s with
 | .FunctionDef _ a _ _ _ _ _ _ _ _ => a
 | _ => { posonlyargs := [], args := [], vararg := none, kwonlyargs := [], kw_defaults := [], kwarg := none, defaults := [] }
def defBody (s : Stmt) : List Stmt := match s with
 | .FunctionDef _ _ b _ _ _ _ _ _ _ => b
 | _ => []
def defScope (s : Stmt) : Scope := match s with
 | .FunctionDef _ _ _ _ _ _ sc _ _ _ => sc
 | _ => { kind := .function, names := [], isGenerator := false, isCoroutine := false }

abbrev CX0 : CXT := fun _ _ _ _ _ _ => False
abbrev E0 : XK := fun _ _ _ => False
theorem pass0 {X : Cx} : Passes CX0 X E0 := fun _ _ _ _ _ _ _ h => h.elim

structure Fun (K : PySem.W.Frag) (x qual : Str) (st : Stmt) (f : Addr) (fd : FuncData) : Prop where
 ex : ∃ (oc : Value) (od : Option Addr) (kV doc pm : Value) (an : Option Addr) (cdv ct : Value) (osl : Array (Option Value)),
  fd = PySem.W.fnOf x qual (defArgs st) (defBody st) (defScope st) .none kV doc pm an cdv ct /\ K.lookup f = some ⟨oc, od, .func fd, osl⟩ /\ PySem.W.codeIn K cdv qual = true
 kp : PySem.W.keepIn K (.ref f) = true
section
variable {P : Program} {w : World} {K : PySem.W.Frag} {mg : Str -> Option Value} {base : Heap}
theorem Fun.ok {x qual : Str} {st : Stmt} {f : Addr} {fd : FuncData} {N ps : List Str} {k : Nat} {sp : Sp} (F : Fun K x qual st f fd) (S : FnScope N ps (defScope st)) (len : ∀ vs H Q E, sp vs H Q E -> vs.length = ps.length)
  (hbody : ∀ (cdv : Value) (A : Around) (outer : List Env) (s : Shared) (H : Hp) (vs : List V) (Q : VK) (E : XK), Room k (A.deeper (envOfC qual (defScope st) s.heap.objs.size f cdv)) -> sp vs H Q E ->
   ∃ t, PSs (cxOf CX0 P w K mg base N qual (defScope st) f cdv A outer s H E).nox (defBody st) t /\ t { nx := fun _ H' => Q .non H', rt := Q } (start N vs) H) : FnOk P w K mg base CX0 (k + 1) f fd ps sp := by
 obtain ⟨oc, od, kV, doc, pm, an, cdv, ct, osl, rfl, lk, hcd⟩ := F.ex
 refine fn_of lk hcd S len fun A outer s H vs Q E hr hsp => ?_
 obtain ⟨t, h, q⟩ := hbody cdv A outer s H vs Q E hr hsp
 exact ⟨t, h.nox, q⟩
theorem Fun.binds {x qual : Str} {st : Stmt} {f : Addr} {fd : FuncData} {ps : List Str} (F : Fun K x qual st f fd)
  (h : ∀ (kV doc pm : Value) (an : Option Addr) (cdv ct : Value) (us : List Value), us.length = ps.length -> bindArgs (PySem.W.fnOf x qual (defArgs st) (defBody st) (defScope st) .none kV doc pm an cdv ct) ⟨us, []⟩ = pure (ps.zip us)) : Binds K fd ps [] := by
 obtain ⟨oc, od, kV, doc, pm, an, cdv, ct, osl, rfl, lk, hcd⟩ := F.ex
 exact .all (h kV doc pm an cdv ct)
theorem a1b {x qual : Str} {st : Stmt} {f : Addr} {oc : Value} {od an : Option Addr} {osl : Array (Option Value)} {kV doc pm cdv ct : Value} (l : K.lookup f = some ⟨oc, od, .func (PySem.W.fnOf x qual (defArgs st) (defBody st) (defScope st) .none kV doc pm an cdv ct), osl⟩)
  (c : PySem.W.codeIn K cdv qual = true) (k : PySem.W.keepIn K (.ref f) = true) : Fun K x qual st f (PySem.W.fnOf x qual (defArgs st) (defBody st) (defScope st) .none kV doc pm an cdv ct) := ⟨⟨oc, od, kV, doc, pm, an, cdv, ct, osl, rfl, l, c⟩, k⟩
end
section
variable {X : Cx}
theorem pv (i : Nat) {x : Str} {pos : Pos} (hN : X.N[i]? = some x := by rfl) (hv : Vis X.env.scope x := by first | exact Or.inl rfl | exact Or.inr (Or.inl rfl) | exact Or.inr (Or.inr rfl)) (hd : (x == ("__debug__" : Str)) = false := by decide)
  (hcd : (x == ("__classdict__" : Str)) = false := by decide) : PE X (.Name x pos) (tVar i) := pe_var hN hv hd hcd
end

def Same (H H' : Hp) : Prop := ∀ b o, H b = some o -> H' b = some o
theorem Same.refl (H : Hp) : Same H H := fun _ _ h => h
theorem Same.trans {H H1 H2 : Hp} (a : Same H H1) (b : Same H1 H2) : Same H H2 := fun c o h => b c o (a c o h)
end L2
namespace DL
open PySem PySem.Spec PyProof.Rows L2

abbrev D := PyData
abbrev St := L2.St
structure XD where
 cls : Str
 flds : List (Str × D)
abbrev M (α : Type) := Option (Except XD α)
def M.ret {α : Type} (a : α) : M α := some (.ok a)
def M.thn {α β : Type} (r : M α) (f : α -> M β) : M β := match r with
 | none => none
 | some (.ok a) => f a
 | some (.error x) => some (.error x)
def M.lift {α : Type} (r : Option α) : M α := match r with
 | none => none
 | some a => some (.ok a)
def ok {α : Type} (G : XD -> Prop) (r : M α) (k : α -> Prop) : Prop := match r with
 | none => False
 | some (.ok a) => k a
 | some (.error x) => G x
def GS (G : XD -> Hp -> Prop) (Hr : Hp) (x : XD) : Prop := ∀ H', Same Hr H' -> G x H'
theorem a0j {α : Type} {G : XD -> Prop} {r : M α} {k k' : α -> Prop} (h : ok G r k) (f : ∀ a, k a -> k' a) : ok G r k' := by
 match r, h with
 | some (.ok a), h => exact f a h
 | some (.error x), h => exact h
theorem a0o {α β : Type} {G : XD -> Prop} {r : M α} {f : α -> M β} {k : β -> Prop} (h : ok G (r.thn f) k) : ok G r (fun a => ok G (f a) k) := by
 match r, h with
 | some (.ok a), h => exact h
 | some (.error x), h => exact h
theorem ok_lift {α : Type} {G : XD -> Prop} {r : Option α} {k : α -> Prop} (h : ok G (M.lift r) k) : ∃ a, r = some a /\ k a := by
 match r, h with
 | some a, h => exact ⟨a, rfl, h⟩
theorem a0t {α β : Type} (a : α) (f : α -> M β) : (M.ret a).thn f = f a := rfl
theorem thn_some {α β : Type} (a : α) (f : α -> M β) : M.thn (some (.ok a)) f = f a := rfl
theorem lift_some {α : Type} (a : α) : M.lift (some a) = M.ret a := rfl

def KL (K : PySem.W.Frag) (a : Addr) (xs : List V) : Prop :=
 ∃ (o : Obj) (its : Array Value) (n : Nat), K.lookup a = some o /\ o.cls = .type "list" /\ o.dict = none /\ o.data = .seq its n /\ its.size <= sizeLine /\ Vals xs its.toList
def keyD : Key -> D
 | .inl i => .int i
 | .inr x => .str x
abbrev insD (nm : Str) (es : List (Str × D)) : D := .dict [(.none, .tuple (.str nm :: es.map fun e => .tuple [.str e.1, e.2]))]
def Mu (H : Hp) (l : Addr) : Prop := (∃ xs, H l = some (.lst xs)) \/ ∃ kvs, H l = some (.dK kvs)
mutual
inductive Rep (K : PySem.W.Frag) (O : List Addr) (H : Hp) : V -> D -> Prop
 | non : Rep K O H .non .none
 | bl (b : Bool) : Rep K O H (.bl b) (.bool b)
 | int (i : Int) : Rep K O H (.int i) (.int i)
 | str (x : Str) : Rep K O H (.str x) (.str x)
 | tup {a : Addr} {xs : List V} {ds : List D} (h : SqT K H a xs) (r : Reps K O H xs ds) : Rep K O H (.ref a) (.tuple ds)
 | lst {a : Addr} {xs : List V} {ds : List D} (h : Rd H a (.lst xs)) (n : a ∉ O) (r : Reps K O H xs ds) : Rep K O H (.ref a) (.list ds)
 | lstK {a : Addr} {xs : List V} {ds : List D} (h : KL K a xs) (r : Reps K O H xs ds) : Rep K O H (.ref a) (.list ds)
 | dct {a : Addr} {kvs : List (Key × V)} {es : List (Key × D)} (h : Rd H a (.dK kvs)) (n : a ∉ O) (hk : kvs.map (·.1) = es.map (·.1)) (r : Reps K O H (kvs.map (·.2)) (es.map (·.2))) : Rep K O H (.ref a) (.dict (es.map fun e => (keyD e.1, e.2)))
 /-- an instance of a class of the text -/
 | ins {a C dx : Addr} {nm : Str} {fs : List (Str × V)} {es : List (Str × D)} (hN : PySem.W.nsIn K mainGlobals nm = some (some (.ref C))) (h : H a = some (.ins C dx fs)) (n : a ∉ O) (hk : fs.map (·.1) = es.map (·.1)) (r : Reps K O H (fs.map (·.2)) (es.map (·.2))) : Rep K O H (.ref a) (insD nm es)
inductive Reps (K : PySem.W.Frag) (O : List Addr) (H : Hp) : List V -> List D -> Prop
 | nil : Reps K O H [] []
 | cons {v : V} {d : D} {vs : List V} {ds : List D} (r : Rep K O H v d) (rs : Reps K O H vs ds) : Reps K O H (v :: vs) (d :: ds)
end

structure To (O O' : List Addr) (H H' : Hp) : Prop where
 t : ∀ b xs, Rd H b (.tup xs) -> Rd H' b (.tup xs)
 l : ∀ b xs, b ∉ O -> Rd H b (.lst xs) -> b ∉ O' /\ Rd H' b (.lst xs)
 d : ∀ b xs, b ∉ O -> Rd H b (.dK xs) -> b ∉ O' /\ Rd H' b (.dK xs)
 i : ∀ b C dx fs, b ∉ O -> H b = some (.ins C dx fs) -> b ∉ O' /\ H' b = some (.ins C dx fs)
section
variable {K : PySem.W.Frag} {O O' : List Addr} {H H' : Hp}
theorem To.sqT (k : To O O' H H') {a : Addr} {xs : List V} (h : SqT K H a xs) : SqT K H' a xs := by
 rcases h with h | h
 ·exact .inl (k.t a xs h)
 ·exact .inr h
mutual
theorem Rep.to (k : To O O' H H') : ∀ {v : V} {d : D}, Rep K O H v d -> Rep K O' H' v d
 | _, _, .non => .non
 | _, _, .bl b => .bl b
 | _, _, .int i => .int i
 | _, _, .str x => .str x
 | _, _, .tup h r => .tup (k.sqT h) (Reps.to k r)
 | _, _, .lst h n r => .lst (k.l _ _ n h).2 (k.l _ _ n h).1 (Reps.to k r)
 | _, _, .lstK h r => .lstK h (Reps.to k r)
 | _, _, .dct h n hk r => .dct (k.d _ _ n h).2 (k.d _ _ n h).1 hk (Reps.to k r)
 | _, _, .ins hN h n hk r => .ins hN (k.i _ _ _ _ n h).2 (k.i _ _ _ _ n h).1 hk (Reps.to k r)
theorem Reps.to (k : To O O' H H') : ∀ {vs : List V} {ds : List D}, Reps K O H vs ds -> Reps K O' H' vs ds
 | _, _, .nil => .nil
 | _, _, .cons r rs => .cons (Rep.to k r) (Reps.to k rs)
end
theorem Same.rd (s : Same H H') {b : Addr} {o : HO} (h : Rd H b o) : Rd H' b o := by
 rcases h with h | ⟨u, h⟩
 ·exact .inl (s _ _ h)
 ·exact .inr ⟨u, s _ _ h⟩
theorem To.same (s : Same H H') : To O O H H' := ⟨fun b xs h => Same.rd s h, fun b xs n h => ⟨n, Same.rd s h⟩, fun b xs n h => ⟨n, Same.rd s h⟩, fun b C dx fs n h => ⟨n, s _ _ h⟩⟩
theorem To.less (s : ∀ b, b ∈ O' -> b ∈ O) : To O O' H H := ⟨fun b xs h => h, fun b xs n h => ⟨fun z => n (s b z), h⟩, fun b xs n h => ⟨fun z => n (s b z), h⟩, fun b C dx fs n h => ⟨fun z => n (s b z), h⟩⟩
theorem Rep.same (s : Same H H') {v : V} {d : D} (r : Rep K O H v d) : Rep K O H' v d := r.to (.same s)
theorem Reps.same (s : Same H H') {v : List V} {d : List D} (r : Reps K O H v d) : Reps K O H' v d := r.to (.same s)
theorem Rd.ne_new {b l : Addr} {o : HO} (h : Rd H b o) (hl : H l = none) : b ≠ l := by
 rcases h with h | ⟨u, h⟩
 ·exact a0q h hl
 ·exact a0q h hl
theorem a1h {l : Addr} {o : HO} (hl : H l = none) : Same H (upd H l o) := fun b u e => by
 rw [upd_ne (a0q e hl)]
 exact e
theorem To.own {l : Addr} {o : HO} (hl : H l = none) : To O (l :: O) H (upd H l o) :=
 ⟨fun b xs h => Same.rd (a1h hl) h, fun b xs n h => ⟨fun z => by
  rcases List.mem_cons.mp z with z | z
  ·exact Rd.ne_new h hl z
  ·exact n z, Same.rd (a1h hl) h⟩, fun b xs n h => ⟨fun z => by
  rcases List.mem_cons.mp z with z | z
  ·exact Rd.ne_new h hl z
  ·exact n z, Same.rd (a1h hl) h⟩, fun b C dx fs n h => ⟨fun z => by
  rcases List.mem_cons.mp z with z | z
  ·exact a0q h hl z
  ·exact n z, a1h hl _ _ h⟩⟩
theorem To.set {l : Addr} {xs ys : List V} (hl : H l = some (.lst xs)) (ho : l ∈ O) : To O O H (upd H l (.lst ys)) := by
 have keep : ∀ {b : Addr} {o : HO}, b ≠ l -> Rd H b o -> Rd (upd H l (.lst ys)) b o := fun {b o} hb h => by
  rcases h with h | ⟨u, h⟩
  ·exact .inl (by rw [upd_ne hb]; exact h)
  ·exact .inr ⟨u, by rw [upd_ne hb]; exact h⟩
 refine ⟨fun b zs h => keep ?_ h, fun b zs n h => ⟨n, keep (fun z => n (z ▸ ho)) h⟩, fun b zs n h => ⟨n, keep (fun z => n (z ▸ ho)) h⟩, fun b C dx fs n h => ⟨n, by rw [upd_ne (show b ≠ l from fun z => n (z ▸ ho))]; exact h⟩⟩
 rintro rfl
 rcases h with h | ⟨u, h⟩
 ·rw [hl] at h; cases h
 ·rw [hl] at h; cases h
theorem Rep.int_inv {v : V} {i : Int} (r : Rep K O H v (.int i)) : v = .int i := by cases r; rfl
theorem Rep.bool_inv {v : V} {i : Bool} (r : Rep K O H v (.bool i)) : v = .bl i := by cases r; rfl
theorem Rep.str_inv {v : V} {i : Str} (r : Rep K O H v (.str i)) : v = .str i := by cases r; rfl
theorem Rep.tup_inv {v : V} {ds : List D} (r : Rep K O H v (.tuple ds)) : ∃ a xs, v = .ref a /\ SqT K H a xs /\ Reps K O H xs ds := by
 cases r with
 | tup h r => exact ⟨_, _, rfl, h, r⟩
theorem Rep.lst_inv {v : V} {ds : List D} (r : Rep K O H v (.list ds)) : ∃ a xs, v = .ref a /\ SqL K H a xs /\ Reps K O H xs ds := by
 cases r with
 | lst h n r => exact ⟨_, _, rfl, .inl h, r⟩
 | lstK h r => exact ⟨_, _, rfl, .inr h, r⟩
def noIns : D -> Bool
 | .dict [(.none, _)] => false
 | _ => true
theorem Reps.length : ∀ {vs : List V} {ds : List D}, Reps K O H vs ds -> vs.length = ds.length
 | _, _, .nil => rfl
 | _, _, .cons _ rs => congrArg (· + 1) (Reps.length rs)
theorem Reps.get : ∀ {vs : List V} {ds : List D} {i : Nat} {d : D}, Reps K O H vs ds -> ds[i]? = some d -> ∃ v, vs[i]? = some v /\ Rep K O H v d
 | _, _, _, _, .nil, e => by simp at e
 | _, _, 0, _, .cons r _, e => by simp at e; subst e; exact ⟨_, rfl, r⟩
 | _, _, i + 1, d, .cons _ rs, e => by
  obtain ⟨u, h1, h2⟩ := Reps.get (i := i) (d := d) rs (by simpa using e)
  exact ⟨u, by simpa using h1, h2⟩
theorem Reps.append : ∀ {xs ys : List V} {ds es : List D}, Reps K O H xs ds -> Reps K O H ys es -> Reps K O H (xs ++ ys) (ds ++ es)
 | _, _, _, _, .nil, s => s
 | _, _, _, _, .cons r t, s => .cons r (Reps.append t s)
theorem Reps.take : ∀ {xs : List V} {ds : List D} (n : Nat), Reps K O H xs ds -> Reps K O H (xs.take n) (ds.take n)
 | _, _, 0, _ => .nil
 | _, _, _ + 1, .nil => .nil
 | _, _, n + 1, .cons r t => .cons r (Reps.take n t)
theorem Reps.drop : ∀ {xs : List V} {ds : List D} (n : Nat), Reps K O H xs ds -> Reps K O H (xs.drop n) (ds.drop n)
 | _, _, 0, r => r
 | _, _, _ + 1, .nil => .nil
 | _, _, n + 1, .cons _ t => Reps.drop n t
theorem Reps.ints (ns : List Int) : Reps K O H (ns.map V.int) (ns.map PyData.int) := by
 induction ns with
 | nil => exact .nil
 | cons n ns ih => exact .cons (.int n) ih
theorem Reps.atI {vs : List V} {ds : List D} {i : Int} {d : D} (r : Reps K O H vs ds) (h : L2.atI ds i = some d) : ∃ v, L2.atI vs i = some v /\ Rep K O H v d := by
 unfold L2.atI at h ⊢
 rw [r.length]
 cases e : ixN ds.length i with
 | none => rw [e] at h; cases h
 | some j =>
  rw [e] at h
  exact r.get h
end

inductive Sl where
 | un
 | vl (d : D)
 | ow (ds : List D)
 /-- a dict of one's own -/
 | od (es : List (Key × D))
 /-- an exception that is held -/
 | ex (a : Addr)
abbrev DS := List Sl
def SlOk (K : PySem.W.Frag) (O : List Addr) (H : Hp) (o : Option (Option V)) : Sl -> Prop
 | .un => True
 | .vl d => ∃ v, o = some (some v) /\ Rep K O H v d
 | .ow ds => ∃ l xs, o = some (some (.ref l)) /\ l ∈ O /\ H l = some (.lst xs) /\ Reps K O H xs ds
 | .od es => ∃ l kvs, o = some (some (.ref l)) /\ l ∈ O /\ H l = some (.dK kvs) /\ kvs.map (·.1) = es.map (·.1) /\ Reps K O H (kvs.map (·.2)) (es.map (·.2))
 | .ex a => o = some (some (.ref a))
def Sl.own : Sl -> Prop
 | .ow _ => True
 | .od _ => True
 | _ => False
theorem Mu.same {H H' : Hp} {l : Addr} (s : Same H H') (h : Mu H l) : Mu H' l := by
 rcases h with ⟨xs, h⟩ | ⟨xs, h⟩
 ·exact .inl ⟨xs, s _ _ h⟩
 ·exact .inr ⟨xs, s _ _ h⟩
theorem Mu.upd_ne {H : Hp} {a l : Addr} {o : HO} (n : a ≠ l) (h : Mu H a) : Mu (upd H l o) a := by
 rcases h with ⟨xs, h⟩ | ⟨xs, h⟩
 ·exact .inl ⟨xs, by rw [L2.upd_ne n]; exact h⟩
 ·exact .inr ⟨xs, by rw [L2.upd_ne n]; exact h⟩
theorem Mu.new {H : Hp} {a l : Addr} {o : HO} (hl : H l = none) (h : Mu H a) : Mu (upd H l o) a := h.same (a1h hl)
theorem Mu.lst {H : Hp} {l : Addr} {xs : List V} (h : H l = some (.lst xs)) : Mu H l := .inl ⟨xs, h⟩
theorem Mu.some {H : Hp} {l : Addr} (h : Mu H l) : ∃ o, H l = some o := by
 rcases h with ⟨xs, h⟩ | ⟨xs, h⟩
 ·exact ⟨_, h⟩
 ·exact ⟨_, h⟩
structure Ev (K : PySem.W.Frag) (Hr : Hp) (O : List Addr) (H : Hp) (σ : St) (δ : DS) : Prop where
 root : Same Hr H
 oo : ∀ l ∈ O, Mu H l
 len : σ.length = δ.length
 at_ : ∀ (i : Nat) (s : Sl), δ[i]? = some s -> SlOk K O H σ[i]? s
 dis : ∀ (i j : Nat) (l : Addr) (ds es : List D), i ≠ j -> δ[i]? = some (.ow ds) -> δ[j]? = some (.ow es) -> σ[i]? = some (some (.ref l)) -> σ[j]? ≠ some (some (.ref l))
section
variable {K : PySem.W.Frag} {Hr : Hp} {O : List Addr} {H H' : Hp} {σ : St} {δ : DS}
theorem Ev.same (s : Same H H') (e : Ev K Hr O H σ δ) : Ev K Hr O H' σ δ := by
 refine ⟨e.root.trans s, fun l hl => (e.oo l hl).same s, e.len, fun i sl h => ?_, e.dis⟩
 have q := e.at_ i sl h
 cases sl with
 | un => trivial
 | ex a => exact q
 | vl d =>
  obtain ⟨v, h1, r⟩ := q
  exact ⟨v, h1, r.same s⟩
 | ow ds =>
  obtain ⟨l, xs, h1, h2, h3, r⟩ := q
  exact ⟨l, xs, h1, h2, s _ _ h3, r.same s⟩
 | od es =>
  obtain ⟨l, kvs, h1, h2, h3, hk, r⟩ := q
  exact ⟨l, kvs, h1, h2, s _ _ h3, hk, r.same s⟩
theorem Ev.val {i : Nat} {d : D} (e : Ev K Hr O H σ δ) (h : δ[i]? = some (.vl d)) : ∃ v, σ[i]? = some (some v) /\ Rep K O H v d := e.at_ i _ h
theorem a1u {α : Type} {l : List α} {i j : Nat} {a : α} : (l.set i a)[j]? = if i = j then (if i < l.length then some a else none) else l[j]? := by
 rw [List.getElem?_set]
theorem Ev.set {i : Nat} {v : V} {d : D} (e : Ev K Hr O H σ δ) (r : Rep K O H v d) : Ev K Hr O H (σ.set i (some v)) (δ.set i (.vl d)) := by
 refine ⟨e.root, e.oo, by rw [List.length_set, List.length_set]; exact e.len, fun j sl h => ?_, fun j k l ds es hjk h1 h2 h3 h4 => ?_⟩
 ·rw [a1u] at h ⊢
  by_cases hij : i = j
  ·rw [if_pos hij] at h ⊢
   by_cases hl : i < δ.length
   ·rw [if_pos hl] at h
    rw [if_pos (by rw [e.len]; exact hl)]
    cases h
    exact ⟨v, rfl, r⟩
   ·rw [if_neg hl] at h; cases h
  ·rw [if_neg hij] at h ⊢
   exact e.at_ j sl h
 ·rw [a1u] at h1 h2 h3 h4
  by_cases hij : i = j
  ·rw [if_pos hij] at h1
   split at h1 <;> cases h1
  ·by_cases hik : i = k
   ·rw [if_pos hik] at h2
    split at h2 <;> cases h2
   ·rw [if_neg hij] at h1 h3
    rw [if_neg hik] at h2 h4
    exact e.dis j k l ds es hjk h1 h2 h3 h4
end
end DL
namespace DL
open PySem PySem.Spec PyProof.Rows L2

def PD (X : Cx) (G : XD -> Hp -> Prop) (e : Expr) (f : DS -> M D) : Prop :=
 ∃ t, PE X e t /\ ∀ {Hr : Hp} (δ : DS) (O : List Addr) (σ : St) (H : Hp) (Q : VK), Ev X.K Hr O H σ δ -> ok (GS G Hr) (f δ) (fun d => ∀ v H', Same H H' -> Rep X.K O H' v d -> Q v H') -> t σ H Q
def PDT (X : Cx) (G : XD -> Hp -> Prop) (e : Expr) (f : DS -> M Bool) : Prop :=
 ∃ t, PT X e t /\ ∀ {Hr : Hp} (δ : DS) (O : List Addr) (σ : St) (H : Hp) (Q : Bool -> Hp -> Prop), Ev X.K Hr O H σ δ -> ok (GS G Hr) (f δ) (fun b => ∀ H', Same H H' -> Q b H') -> t σ H Q
def PDW (X : Cx) (G : XD -> Hp -> Prop) (e : Expr) (f : DS -> M Bool) : Prop :=
 ∃ t, PW X e t /\ ∀ {Hr : Hp} (δ : DS) (O : List Addr) (σ : St) (H : Hp) (Q : Bool -> Hp -> Prop), Ev X.K Hr O H σ δ -> ok (GS G Hr) (f δ) (fun b => ∀ H', Same H H' -> Q b H') -> t σ H Q
def PDA (X : Cx) (G : XD -> Hp -> Prop) (es : List Expr) (f : DS -> M (List D)) : Prop :=
 (∀ δ ds, f δ = some (.ok ds) -> ds.length = es.length) /\ ∃ t, PA X es t /\ ∀ {Hr : Hp} (δ : DS) (O : List Addr) (σ : St) (H : Hp) (Q : List V -> Hp -> Prop), Ev X.K Hr O H σ δ -> ok (GS G Hr) (f δ) (fun ds => ∀ vs H', Same H H' -> Reps X.K O H' vs ds -> Q vs H') -> t σ H Q

section
variable {X : Cx} {G : XD -> Hp -> Prop} {a b c e : Expr} {es rest : List Expr} {f g h : DS -> M D} {fb gb : DS -> M Bool} {fa : DS -> M (List D)} {pos : Pos}

def dVar (i : Nat) : DS -> M D := fun δ => match δ[i]? with
 | some (.vl d) => M.ret d
 | _ => none
theorem a0c {i : Nat} (h : PE X e (tVar i)) : PD X G e (dVar i) := by
 refine ⟨_, h, fun δ O σ H Q E k => ?_⟩
 unfold dVar at k
 split at k
 ·rename_i d hd
  obtain ⟨v, e1, r⟩ := E.val hd
  exact ⟨v, e1, k v H (Same.refl H) r⟩
 ·exact k.elim
def dC (d : D) : DS -> M D := fun _ => M.ret d
theorem a0f {i j pos} : PD X G (.Constant (.int i) j pos) (dC (.int i)) := ⟨_, pe_int, fun _ _ _ H Q _ k => k _ H (Same.refl H) (.int i)⟩
theorem pd_bl {i j pos} : PD X G (.Constant (.bool i) j pos) (dC (.bool i)) := ⟨_, pe_bl, fun _ _ _ H Q _ k => k _ H (Same.refl H) (.bl i)⟩
theorem pd_non {j pos} : PD X G (.Constant .none j pos) (dC .none) := ⟨_, pe_non, fun _ _ _ H Q _ k => k _ H (Same.refl H) .non⟩
theorem a0r {x j pos} : PD X G (.Constant (.str x) j pos) (dC (.str x)) := ⟨_, pe_str, fun _ _ _ H Q _ k => k _ H (Same.refl H) (.str x)⟩

def DOp (X : Cx) (sem : Value -> Value -> Sem Value) (h : D -> D -> Option D) : Prop :=
 ∃ r : R2, OpR X sem r /\ ∀ (O : List Addr) (H : Hp) (x y d : D) (v u : V) (Q : VK), (∀ l ∈ O, Mu H l) -> Rep X.K O H v x -> Rep X.K O H u y -> h x y = some d -> (∀ v' H', Same H H' -> Rep X.K O H' v' d -> Q v' H') -> r v u H Q
def d2 (h : D -> D -> Option D) (f g : DS -> M D) : DS -> M D := fun δ => (f δ).thn fun x => (g δ).thn fun y => M.lift (h x y)
theorem pd_two {r : R2} {h : D -> D -> Option D} {ta tb : TE}
  (ho : ∀ (O : List Addr) (H : Hp) (x y d : D) (v u : V) (Q : VK), (∀ l ∈ O, Mu H l) -> Rep X.K O H v x -> Rep X.K O H u y -> h x y = some d -> (∀ v' H', Same H H' -> Rep X.K O H' v' d -> Q v' H') -> r v u H Q)
  (ha : ∀ {Hr : Hp} (δ : DS) (O : List Addr) (σ : St) (H : Hp) (Q : VK), Ev X.K Hr O H σ δ -> ok (GS G Hr) (f δ) (fun d => ∀ v H', Same H H' -> Rep X.K O H' v d -> Q v H') -> ta σ H Q)
  (hb : ∀ {Hr : Hp} (δ : DS) (O : List Addr) (σ : St) (H : Hp) (Q : VK), Ev X.K Hr O H σ δ -> ok (GS G Hr) (g δ) (fun d => ∀ v H', Same H H' -> Rep X.K O H' v d -> Q v H') -> tb σ H Q)
  {Hr : Hp} (δ : DS) (O : List Addr) (σ : St) (H : Hp) (Q : VK) (E : Ev X.K Hr O H σ δ) (k : ok (GS G Hr) (d2 h f g δ) (fun d => ∀ v H', Same H H' -> Rep X.K O H' v d -> Q v H')) : tOp r ta tb σ H Q := by
 refine ha δ O σ H _ E (a0j (a0o k) fun x kx v H1 s1 rx => ?_)
 refine hb δ O σ H1 _ (E.same s1) (a0j (a0o kx) fun y ky u H2 s2 ry => ?_)
 obtain ⟨d, hd, kd⟩ := ok_lift ky
 exact ho O H2 x y d v u Q (E.same (s1.trans s2)).oo (rx.same s2) ry hd fun v' H3 s3 r3 => kd v' H3 ((s1.trans s2).trans s3) r3
theorem a0l {op : Operator} {h : D -> D -> Option D} (ho : DOp X (binaryOp op) h) (ha : PD X G a f) (hb : PD X G b g) : PD X G (.BinOp a op b pos) (d2 h f g) := by
 obtain ⟨r, hr, ho⟩ := ho
 obtain ⟨ta, pa, ha⟩ := ha
 obtain ⟨tb, pb, hb⟩ := hb
 exact ⟨_, pe_op hr pa pb, pd_two ho ha hb⟩
theorem pd_cmp {op : CmpOp} {h : D -> D -> Option D} (ho : DOp X (compareOp op) h) (ha : PD X G a f) (hb : PD X G b g) (hm : behindInMarks op b = false) : PD X G (.Compare a [op] [b] pos) (d2 h f g) := by
 obtain ⟨r, hr, ho⟩ := ho
 obtain ⟨ta, pa, ha⟩ := ha
 obtain ⟨tb, pb, hb⟩ := hb
 exact ⟨_, pe_cmpR hr pa pb hm, pd_two ho ha hb⟩
def dB (f : DS -> M D) : DS -> M Bool := fun δ => (f δ).thn fun d => match d with
 | .bool b => M.ret b
 | _ => none
theorem ok_dB {Hr : Hp} {δ : DS} {k : Bool -> Prop} (q : ok (GS G Hr) (dB f δ) k) : ok (GS G Hr) (f δ) (fun d => ∃ b, d = .bool b /\ k b) := by
 refine a0j (a0o q) fun d z => ?_
 cases d with
 | bool b => exact ⟨b, rfl, z⟩
 | _ => exact z.elim
theorem a1n {op : CmpOp} {h : D -> D -> Option D} (ho : DOp X (compareOp op) h) (ha : PD X G a f) (hb : PD X G b g) (hm : behindInMarks op b = false) : PDT X G (.Compare a [op] [b] pos) (dB (d2 h f g)) := by
 obtain ⟨r, hr, ho⟩ := ho
 obtain ⟨ta, pa, ha⟩ := ha
 obtain ⟨tb, pb, hb⟩ := hb
 refine ⟨_, pt_cmpR hr pa pb hm, fun δ O σ H Q E k => ?_⟩
 refine pd_two ho ha hb δ O σ H _ E (a0j (ok_dB k) fun d z v H' s r => ?_)
 obtain ⟨b, rfl, z⟩ := z
 exact ⟨b, r.bool_inv, z H' s⟩
theorem a1r (he : PD X G e f) (h1 : ∀ whole, isTrue e X.env whole = (do let v <- whole; standAt e.pos; holding [v] (truthy v)) := by intro _; rfl) : PDT X G e (dB f) := by
 obtain ⟨t, p, he⟩ := he
 refine ⟨_, pt_val p h1, fun δ O σ H Q E k => ?_⟩
 refine he δ O σ H _ E (a0j (ok_dB k) fun d z v H' s r => ?_)
 obtain ⟨b, rfl, z⟩ := z
 exact ⟨b, r.bool_inv, z H' s⟩

def dAnd (fb gb : DS -> M Bool) : DS -> M Bool := fun δ => (fb δ).thn fun c => if c = true then gb δ else M.ret false
def dOr (fb gb : DS -> M Bool) : DS -> M Bool := fun δ => (fb δ).thn fun c => if c = true then M.ret true else gb δ
def dNot (fb : DS -> M Bool) : DS -> M Bool := fun δ => (fb δ).thn fun c => M.ret (!c)
theorem pdw_and1 (ha : PDT X G a fb) : PDW X G (.BoolOp .And [a] pos) fb := by
 obtain ⟨t, p, ha⟩ := ha
 exact ⟨_, pw_and1 p, ha⟩
theorem pdw_or1 (ha : PDT X G a fb) : PDW X G (.BoolOp .Or [a] pos) fb := by
 obtain ⟨t, p, ha⟩ := ha
 exact ⟨_, pw_or1 p, ha⟩
theorem pdw_and (ha : PDT X G a fb) (hb : PDW X G (.BoolOp .And (b :: rest) pos) gb) : PDW X G (.BoolOp .And (a :: b :: rest) pos) (dAnd fb gb) := by
 obtain ⟨t, p, ha⟩ := ha
 obtain ⟨u, q, hb⟩ := hb
 refine ⟨_, pw_and p q, fun δ O σ H Q E k => ?_⟩
 refine ha δ O σ H _ E (a0j (a0o k) fun c z H1 s1 => ?_)
 cases c with
 | true =>
  rw [if_pos rfl] at z ⊢
  exact hb δ O σ H1 Q (E.same s1) (a0j z fun b y H2 s2 => y H2 (s1.trans s2))
 | false =>
  rw [if_neg Bool.false_ne_true] at z ⊢
  exact z H1 s1
theorem pdw_or (ha : PDT X G a fb) (hb : PDW X G (.BoolOp .Or (b :: rest) pos) gb) : PDW X G (.BoolOp .Or (a :: b :: rest) pos) (dOr fb gb) := by
 obtain ⟨t, p, ha⟩ := ha
 obtain ⟨u, q, hb⟩ := hb
 refine ⟨_, pw_or p q, fun δ O σ H Q E k => ?_⟩
 refine ha δ O σ H _ E (a0j (a0o k) fun c z H1 s1 => ?_)
 cases c with
 | true =>
  rw [if_pos rfl] at z ⊢
  exact z H1 s1
 | false =>
  rw [if_neg Bool.false_ne_true] at z ⊢
  exact hb δ O σ H1 Q (E.same s1) (a0j z fun b y H2 s2 => y H2 (s1.trans s2))
theorem PDW.t (h : PDW X G e fb) : PDT X G e fb := by
 obtain ⟨t, p, h⟩ := h
 exact ⟨_, p.pt, h⟩
theorem pdt_not (ha : PDT X G a fb) : PDT X G (.UnaryOp .Not a pos) (dNot fb) := by
 obtain ⟨t, p, ha⟩ := ha
 refine ⟨_, pt_not p, fun δ O σ H Q E k => ?_⟩
 exact ha δ O σ H _ E (a0j (a0o k) fun c z H1 s1 => z H1 s1)
def dAndV (f g : DS -> M D) : DS -> M D := fun δ => (dB f δ).thn fun c => if c = true then g δ else M.ret (.bool false)
def dOrV (f g : DS -> M D) : DS -> M D := fun δ => (dB f δ).thn fun c => if c = true then M.ret (.bool true) else g δ
def dNotV (f : DS -> M D) : DS -> M D := fun δ => (dB f δ).thn fun c => M.ret (.bool (!c))
theorem pd_one {op} (ha : PD X G a f) : PD X G (.BoolOp op [a] pos) f := by
 obtain ⟨t, p, ha⟩ := ha
 exact ⟨_, pe_one p, ha⟩
theorem pd_and (ha : PD X G a f) (hb : PD X G (.BoolOp .And (b :: rest) pos) g) : PD X G (.BoolOp .And (a :: b :: rest) pos) (dAndV f g) := by
 obtain ⟨t, p, ha⟩ := ha
 obtain ⟨u, q, hb⟩ := hb
 refine ⟨_, pe_and p q, fun δ O σ H Q E k => ?_⟩
 refine ha δ O σ H _ E (a0j (ok_dB (a0o k)) fun d z v H1 s1 r => ?_)
 obtain ⟨c, rfl, z⟩ := z
 refine ⟨c, r.bool_inv, ?_⟩
 cases c with
 | true =>
  rw [if_pos rfl] at z ⊢
  exact hb δ O σ H1 Q (E.same s1) (a0j z fun b y v H2 s2 => y v H2 (s1.trans s2))
 | false =>
  rw [if_neg Bool.false_ne_true] at z ⊢
  exact z _ H1 s1 (.bl false)
theorem pd_or (ha : PD X G a f) (hb : PD X G (.BoolOp .Or (b :: rest) pos) g) : PD X G (.BoolOp .Or (a :: b :: rest) pos) (dOrV f g) := by
 obtain ⟨t, p, ha⟩ := ha
 obtain ⟨u, q, hb⟩ := hb
 refine ⟨_, pe_or p q, fun δ O σ H Q E k => ?_⟩
 refine ha δ O σ H _ E (a0j (ok_dB (a0o k)) fun d z v H1 s1 r => ?_)
 obtain ⟨c, rfl, z⟩ := z
 refine ⟨c, r.bool_inv, ?_⟩
 cases c with
 | true =>
  rw [if_pos rfl] at z ⊢
  exact z _ H1 s1 (.bl true)
 | false =>
  rw [if_neg Bool.false_ne_true] at z ⊢
  exact hb δ O σ H1 Q (E.same s1) (a0j z fun b y v H2 s2 => y v H2 (s1.trans s2))
theorem pd_not (ha : PD X G a f) : PD X G (.UnaryOp .Not a pos) (dNotV f) := by
 obtain ⟨t, p, ha⟩ := ha
 refine ⟨_, pe_not p, fun δ O σ H Q E k => ?_⟩
 refine ha δ O σ H _ E (a0j (ok_dB (a0o k)) fun d z v H1 s1 r => ?_)
 obtain ⟨c, rfl, z⟩ := z
 exact ⟨c, r.bool_inv, z _ H1 s1 (.bl _)⟩
def dIf (c : DS -> M Bool) (f g : DS -> M D) : DS -> M D := fun δ => (c δ).thn fun b => if b = true then f δ else g δ
theorem pd_if (hc : PDT X G c fb) (ha : PD X G a f) (hb : PD X G b g) : PD X G (.IfExp c a b pos) (dIf fb f g) := by
 obtain ⟨t, p, hc⟩ := hc
 obtain ⟨ta, pa, ha⟩ := ha
 obtain ⟨tb, pb, hb⟩ := hb
 refine ⟨_, pe_ifExp p pa pb, fun δ O σ H Q E k => ?_⟩
 refine hc δ O σ H _ E (a0j (a0o k) fun d z H1 s1 => ?_)
 cases d with
 | true =>
  rw [if_pos rfl] at z ⊢
  exact ha δ O σ H1 Q (E.same s1) (a0j z fun b y v H2 s2 => y v H2 (s1.trans s2))
 | false =>
  rw [if_neg Bool.false_ne_true] at z ⊢
  exact hb δ O σ H1 Q (E.same s1) (a0j z fun b y v H2 s2 => y v H2 (s1.trans s2))

def dNil : DS -> M (List D) := fun _ => M.ret []
def dCons (f : DS -> M D) (g : DS -> M (List D)) : DS -> M (List D) := fun δ => (f δ).thn fun x => (g δ).thn fun xs => M.ret (x :: xs)
theorem a0e : PDA X G [] dNil := ⟨fun δ ds h => by cases h; rfl, _, pa_nil, fun _ _ _ H Q _ k => k [] H (Same.refl H) .nil⟩
theorem a0a (ha : PD X G e f) (hr : PDA X G es fa) (hs : starEach (e :: es) X.env = (false, eval e X.env) :: starEach es X.env := by rfl) : PDA X G (e :: es) (dCons f fa) := by
 obtain ⟨t, p, ha⟩ := ha
 obtain ⟨hl, u, q, hr⟩ := hr
 refine ⟨fun δ ds h => ?_, _, pa_cons p q hs, fun δ O σ H Q E k => ?_⟩
 ·unfold dCons at h
  cases e1 : f δ with
  | none => rw [e1] at h; cases h
  | some r =>
   rw [e1] at h
   cases r with
   | error x => cases h
   | ok x =>
    cases e2 : fa δ with
    | none => rw [thn_some, e2] at h; cases h
    | some r2 =>
     rw [thn_some, e2] at h
     cases r2 with
     | error x => cases h
     | ok xs =>
      cases h
      rw [List.length_cons, List.length_cons, hl δ xs e2]
 ·refine ha δ O σ H _ E (a0j (a0o k) fun d z v H1 s1 r => ?_)
  refine hr δ O σ H1 _ (E.same s1) (a0j (a0o z) fun ds y vs H2 s2 rs => ?_)
  exact y (v :: vs) H2 (s1.trans s2) (.cons (r.same s2) rs)
def small (n : Nat) : Bool := decide (n <= 16000000)
theorem a1e {n : Nat} (h : small n = true) : n <= sizeLine := by
 have := of_decide_eq_true h
 rw [sizeLine_eq]
 omega
def dTup (fa : DS -> M (List D)) : DS -> M D := fun δ => (fa δ).thn fun ds => if small ds.length then M.ret (.tuple ds) else none
def dLst (fa : DS -> M (List D)) : DS -> M D := fun δ => (fa δ).thn fun ds => if small ds.length then M.ret (.list ds) else none
theorem rep_newT {K : PySem.W.Frag} {O : List Addr} {H : Hp} {p : Addr} {vs : List V} {ds : List D} (hp : H p = none) (r : Reps K O H vs ds) : Rep K O (upd H p (.tup vs)) (.ref p) (.tuple ds) :=
 .tup (SqT.of a0w) (r.same (a1h hp))
theorem pd_tup {x1} (h : PDA X G es fa) : PD X G (.Tuple es x1 pos) (dTup fa) := by
 obtain ⟨_, t, p, h⟩ := h
 refine ⟨_, pe_tup p, fun δ O σ H Q E k => ?_⟩
 refine h δ O σ H _ E (a0j (a0o k) fun ds z vs H1 s1 rs => ?_)
 by_cases hz : small ds.length = true
 ·rw [if_pos hz] at z
  exact ⟨by rw [rs.length]; exact a1e hz, fun p hp => z _ _ (s1.trans (a1h hp)) (rep_newT hp rs)⟩
 ·rw [if_neg hz] at z
  exact z.elim
end
end DL
namespace DL
open PySem PySem.Spec PyProof.Rows L2

section
variable {X : Cx} {G : XD -> Hp -> Prop} {a b c e : Expr} {es rest : List Expr} {f g h : DS -> M D} {fb gb : DS -> M Bool} {fa : DS -> M (List D)} {pos : Pos}
def ii (h : Int -> Int -> Option D) : D -> D -> Option D
 | .int i, .int j => h i j
 | _, _ => none
theorem ii_some {h : Int -> Int -> Option D} {x y d : D} (e : ii h x y = some d) : ∃ i j, x = .int i /\ y = .int j /\ h i j = some d := by
 unfold ii at e
 split at e
 ·exact ⟨_, _, rfl, rfl, e⟩
 ·cases e
theorem dop_I0 {sem : Value -> Value -> Sem Value} {g : Int -> Int -> V} {gd : Int -> Int -> D} (h : OpR X sem (rI0 g)) (hg : ∀ O H i j, Rep X.K O H (g i j) (gd i j)) : DOp X sem (ii fun i j => some (gd i j)) := by
 refine ⟨_, h, fun O H x y d v u Q oo rx ry e k => ?_⟩
 obtain ⟨i, j, rfl, rfl, e⟩ := ii_some e
 cases e
 exact ⟨i, j, rx.int_inv, ry.int_inv, k _ H (Same.refl H) (hg O H i j)⟩
theorem dop_IC {sem : Value -> Value -> Sem Value} {C : Int -> Int -> Prop} {B : Int -> Int -> Bool} {g : Int -> Int -> V} {gd : Int -> Int -> D} (h : OpR X sem (rI C g)) (hC : ∀ i j, B i j = true -> C i j) (hg : ∀ O H i j, Rep X.K O H (g i j) (gd i j)) :
  DOp X sem (ii fun i j => if B i j = true then some (gd i j) else none) := by
 refine ⟨_, h, fun O H x y d v u Q oo rx ry e k => ?_⟩
 obtain ⟨i, j, rfl, rfl, e1⟩ := ii_some e
 by_cases hb : B i j = true
 ·rw [if_pos hb] at e1
  cases e1
  exact ⟨i, j, rx.int_inv, ry.int_inv, hC i j hb, k _ H (Same.refl H) (hg O H i j)⟩
 ·rw [if_neg hb] at e1; cases e1
abbrev oSub : D -> D -> Option D := ii fun i j => some (.int (i - j))
def bMul (i j : Int) : Bool := decide ((-18446744073709551616 < i /\ i < 18446744073709551616) \/ (-18446744073709551616 < j /\ j < 18446744073709551616))
abbrev oMul : D -> D -> Option D := ii fun i j => if bMul i j = true then some (.int (i * j)) else none
def bDiv (j : Int) : Bool := decide (0 < j /\ j < 1267650600228229401496703205376)
abbrev oDiv : D -> D -> Option D := ii fun i j => if bDiv j = true then some (.int (i / j)) else none
abbrev oMod : D -> D -> Option D := ii fun i j => if decide (0 < j) = true then some (.int (i % j)) else none
theorem dop_sub : DOp X (binaryOp .Sub) oSub := dop_I0 op_sub fun _ _ _ _ => .int _
theorem dop_mul : DOp X (binaryOp .Mult) oMul := dop_IC op_mul (fun i j h => by
 have h := of_decide_eq_true h
 unfold CMul
 have e : (2 : Int) ^ 64 = 18446744073709551616 := by decide
 rw [e]
 exact h) fun _ _ _ _ => .int _
theorem natAbs_log2 {j : Int} (h : 0 < j /\ j < 1267650600228229401496703205376) : j.natAbs.log2 < 9000 := by
 have h2 : j.natAbs < 2 ^ 100 := by
  have e : (2 : Nat) ^ 100 = 1267650600228229401496703205376 := by decide
  omega
 exact Nat.lt_trans ((Nat.log2_lt (by omega)).mpr h2) (by decide)
theorem op_fdivW : OpR X (binaryOp .FloorDiv) (rI (fun _ j => 0 < j /\ j < 1267650600228229401496703205376) fun i j => .int (i / j)) := opI fun i j _ _ _ _ _ hc q => by
 rw [<- Int.fdiv_eq_ediv_of_nonneg _ (Int.le_of_lt hc.1)] at q
 exact floordiv_int (by omega) q (.inl (PyProof.noPylong_of_log2 (natAbs_log2 hc)))
theorem a2d : DOp X (binaryOp .FloorDiv) oDiv := dop_IC op_fdivW (fun i j h => of_decide_eq_true h) fun _ _ _ _ => .int _
theorem a1f : DOp X (binaryOp .Mod) oMod := dop_IC op_mod (fun i j h => of_decide_eq_true h) fun _ _ _ _ => .int _
abbrev oLt : D -> D -> Option D := ii fun i j => some (.bool (decide (i < j)))
abbrev oGt : D -> D -> Option D := ii fun i j => some (.bool (decide (j < i)))
abbrev oGe : D -> D -> Option D := ii fun i j => some (.bool (decide (j <= i)))
theorem dop_lt : DOp X (compareOp .Lt) oLt := dop_I0 op_lt fun _ _ _ _ => .bl _
theorem dop_gt : DOp X (compareOp .Gt) oGt := dop_I0 op_gt fun _ _ _ _ => .bl _
theorem dop_ge : DOp X (compareOp .GtE) oGe := dop_I0 op_ge fun _ _ _ _ => .bl _

theorem nin {O : List Addr} {H : Hp} (oo : ∀ l ∈ O, Mu H l) {p : Addr} (hp : H p = none) : p ∉ O := fun z => by
 obtain ⟨o, ho⟩ := (oo p z).some
 rw [hp] at ho; cases ho
theorem rep_newL {K : PySem.W.Frag} {O : List Addr} {H : Hp} {p : Addr} {vs : List V} {ds : List D} (oo : ∀ l ∈ O, Mu H l) (hp : H p = none) (r : Reps K O H vs ds) : Rep K O (upd H p (.lst vs)) (.ref p) (.list ds) :=
 .lst (.inl a0w) (nin oo hp) (r.same (a1h hp))
theorem op_cat0 : OpR X (binaryOp .Add) (fun x y H Q => ∃ a b ys, x = .ref a /\ y = .ref b /\ SqT X.K H a [] /\ SqT X.K H b ys /\ Q (.ref b) H) := by
 intro pins s σ H x y v u Q I rx ry h
 obtain ⟨a, b, ys, rfl, rfl, ha, hb, q⟩ := h
 cases rx
 cases ry
 obtain ⟨its, r1, p1, _⟩ := I.tuple ha
 obtain ⟨its2, r2, p2, _⟩ := I.tuple hb
 cases r1
 obtain ⟨⟨cls, dd, data, sl⟩, ho, hc, n, hd⟩ := id p1
 obtain ⟨⟨cls2, dd2, data2, sl2⟩, ho2, hc2, n2, hd2⟩ := id p2
 simp only at hc hd hc2 hd2
 subst hc hd hc2 hd2
 exact concat_meets ⟨_, ho, rfl⟩ ⟨_, ho2, rfl⟩ noFill_tuple_add seq_tuple_add PySem.F.slot_tuple_add PySem.F.entry_tuple_add (PySem.F.args_tuple_add_2 _ _)
  (tuple_addW0 a b _ its2.toArray n n2 dd dd2 sl sl2 rfl) ⟨ho, ho2, ⟨.ref b, H, I, rfl, q⟩⟩
theorem op_catS : OpR X (binaryOp .Add) (fun x y H Q => ∃ l b xs zs, x = .ref l /\ y = .ref b /\ SqL X.K H l xs /\ SqL X.K H b zs /\ xs.length + zs.length <= sizeLine /\ ∀ p, H p = none -> Q (.ref p) (upd H p (.lst (xs ++ zs)))) := by
 intro pins s σ H x y v u Q I rx ry h
 obtain ⟨l, b, xs, zs, rfl, rfl, hH, hB, hz, q⟩ := h
 cases rx
 cases ry
 obtain ⟨its, r, ⟨⟨cls, dd, data, sl⟩, n, e, hc, hdd, hd⟩, z⟩ := I.list hH
 obtain ⟨its2, r2, ⟨⟨cls2, dd2, data2, sl2⟩, n2, e2, hc2, hdd2, hd2⟩, z2⟩ := I.list hB
 have hl := r.length
 have hl2 := r2.length
 simp only at hc hd hc2 hd2 hdd hdd2
 subst hc hd hc2 hd2 hdd hdd2
 have ea : its.toArray ++ its2.toArray = (its ++ its2).toArray := by simp
 refine concat_meets ⟨_, e, rfl⟩ ⟨_, e2, rfl⟩ noFill_list_add seq_list_add PySem.F.slot_list_add PySem.F.entry_list_add (PySem.F.args_list_add_2 _ _) (list_addW l b its.toArray its2.toArray n n2 none none sl sl2 (by rw [List.size_toArray, List.size_toArray]; omega)) ⟨e, e2, ?_⟩
 rw [ea]
 exact ⟨.ref _, _, I.lnew (t' := s.toks) (r.append r2) (by rw [List.length_append]; omega), rfl, q _ I.fresh⟩
def oAdd : D -> D -> Option D
 | .int i, .int j => some (.int (i + j))
 | .str i, .str j => if small (i.length + j.length) then some (.str (i ++ j)) else none
 | .tuple xs, .tuple ys => if small (xs.length + ys.length) then some (.tuple (xs ++ ys)) else none
 | .list xs, .list ys => if small (xs.length + ys.length) then some (.list (xs ++ ys)) else none
 | _, _ => none
theorem a0n : DOp X (binaryOp .Add) oAdd := by
 refine ⟨_, op_add.or (op_add_str.or (op_catT.or (op_cat0.or op_catS))), fun O H x y d v u Q oo rx ry e k => ?_⟩
 unfold oAdd at e
 split at e
 ·rename_i i j
  cases e
  exact .inl ⟨i, j, rx.int_inv, ry.int_inv, k _ H (Same.refl H) (.int _)⟩
 ·rename_i i j
  by_cases hz : small (i.length + j.length) = true
  ·rw [if_pos hz] at e
   cases e
   exact .inr (.inl ⟨i, j, rx.str_inv, ry.str_inv, a1e hz, k _ H (Same.refl H) (.str _)⟩)
  ·rw [if_neg hz] at e; cases e
 ·rename_i xs ys
  by_cases hz : small (xs.length + ys.length) = true
  ·rw [if_pos hz] at e
   cases e
   obtain ⟨p, vs, rfl, h1, r1⟩ := rx.tup_inv
   obtain ⟨q, ws, rfl, h2, r2⟩ := ry.tup_inv
   by_cases hx : xs = []
   ·subst hx
    cases r1
    exact .inr (.inr (.inr (.inl ⟨p, q, ws, rfl, rfl, h1, h2, k _ H (Same.refl H) (.tup h2 r2)⟩)))
   ·refine .inr (.inr (.inl ⟨p, q, vs, ws, rfl, rfl, h1, h2, fun z => ?_, by rw [r1.length, r2.length]; exact a1e hz, fun z => ?_, fun z l hl => ?_⟩))
    ·subst z
     cases r1
     exact hx rfl
    ·subst z
     have z2 := r2
     cases z2
     refine k _ H (Same.refl H) ?_
     rw [List.append_nil]
     exact .tup h1 r1
    ·exact k _ _ (a1h hl) (rep_newT hl (r1.append r2))
  ·rw [if_neg hz] at e; cases e
 ·rename_i xs ys
  by_cases hz : small (xs.length + ys.length) = true
  ·rw [if_pos hz] at e
   cases e
   obtain ⟨p, vs, rfl, h1, r1⟩ := rx.lst_inv
   obtain ⟨q, ws, rfl, h2, r2⟩ := ry.lst_inv
   exact .inr (.inr (.inr (.inr ⟨p, q, vs, ws, rfl, rfl, h1, h2, by rw [r1.length, r2.length]; exact a1e hz, fun l hl => k _ _ (a1h hl) (rep_newL oo hl (r1.append r2))⟩)))
  ·rw [if_neg hz] at e; cases e
 ·cases e

mutual
theorem Rep.reads {pins : List (Addr × Obj)} {σ : St} {H : Hp} {s : Shared} {O : List Addr} (I : Inv X pins σ H s) : ∀ {v : V} {d : D} {u : Value}, d.canLay0 = true -> Rep X.K O H v d -> RelV v u -> ∃ as, Reads s.heap u d as
 | _, _, u, _, .non, q => by cases (show u = Value.none from q); exact ⟨_, .none⟩
 | _, _, u, _, .bl b, q => by cases (show u = Value.bool b from q); exact ⟨_, .bool b⟩
 | _, _, u, _, .int i, q => by obtain ⟨t, rfl⟩ := (show ∃ t, u = Value.int i t from q); exact ⟨_, .int i t⟩
 | _, _, u, _, .str x, q => by obtain ⟨t, rfl⟩ := (show ∃ t, u = Value.str x t from q); exact ⟨_, .str x t⟩
 | .ref a, _, u, hc, .tup h r, q => by
  cases (show u = Value.ref a from q)
  obtain ⟨its, rv, ⟨o, h1, h2, n, h3⟩, _⟩ := I.tuple h
  obtain ⟨as, ra⟩ := Reps.reads I (by simpa [PyData.canLay0] using hc) r rv
  exact ⟨_, .tuple h1 h2 h3 ra⟩
 | .ref a, _, u, hc, .lst h n r, q => by
  cases (show u = Value.ref a from q)
  obtain ⟨its, rv, ⟨o, n, h1, h2, _, h3⟩, _⟩ := I.list (.inl h)
  obtain ⟨as, ra⟩ := Reps.reads I (by simpa [PyData.canLay0] using hc) r rv
  exact ⟨_, .list h1 h2 h3 ra⟩
 | .ref a, _, u, hc, .lstK h r, q => by
  cases (show u = Value.ref a from q)
  obtain ⟨its, rv, ⟨o, n, h1, h2, _, h3⟩, _⟩ := I.list (.inr h)
  obtain ⟨as, ra⟩ := Reps.reads I (by simpa [PyData.canLay0] using hc) r rv
  exact ⟨_, .list h1 h2 h3 ra⟩
 | .ref a, _, u, hc, .dct _ _ _ _, q => by simp [PyData.canLay0] at hc
 | .ref a, _, u, hc, .ins _ _ _ _ _, q => by simp [PyData.canLay0, insD] at hc
theorem Reps.reads {pins : List (Addr × Obj)} {σ : St} {H : Hp} {s : Shared} {O : List Addr} (I : Inv X pins σ H s) : ∀ {vs : List V} {ds : List D} {us : List Value}, PyData.canLayAll0 ds = true -> Reps X.K O H vs ds -> Vals vs us -> ∃ as, ReadsAll s.heap us ds as
 | _, _, _, _, .nil, q => by cases q; exact ⟨_, .nil⟩
 | _, _, _, hc, .cons r rs, q => by
  rw [PyData.canLayAll0, Bool.and_eq_true] at hc
  cases q with
  | cons p ps =>
   obtain ⟨as, h1⟩ := Rep.reads I hc.1 r p
   obtain ⟨bs, h2⟩ := Reps.reads I hc.2 rs ps
   exact ⟨_, .cons h1 h2⟩
end
def flat (x y : D) : Bool := x.canLay0 && y.canLay0 && decide (min x.depth y.depth <= 60)
def oEq (x y : D) : Option D := if flat x y = true then some (.bool (PyData.eqv x y)) else none
def oNe (x y : D) : Option D := if flat x y = true then some (.bool (!PyData.eqv x y)) else none
def rDat (X : Cx) (p : D -> D -> Bool) : R2 := fun v u H Q => ∃ O x y, Rep X.K O H v x /\ Rep X.K O H u y /\ flat x y = true /\ Q (.bl (p x y)) H
theorem flat_of {x y : D} (h : flat x y = true) : x.canLay0 = true /\ y.canLay0 = true /\ min x.depth y.depth <= 60 := by
 unfold flat at h
 rw [Bool.and_eq_true, Bool.and_eq_true] at h
 exact ⟨h.1.1, h.1.2, of_decide_eq_true h.2⟩
theorem op_eqD (hu : X.A.units + 64 < cLine) : OpR X (compareOp .Eq) (rDat X PyData.eqv) := by
 intro pins s σ H v u v' u' Q I rv ru h
 obtain ⟨O, x, y, rx, ry, hf, q⟩ := h
 obtain ⟨h1, h2, h3⟩ := flat_of hf
 obtain ⟨as, r1⟩ := rx.reads I h1 rv
 obtain ⟨bs, r2⟩ := ry.reads I h2 ru
 exact SeqAt.compareEq_reads r1 r2 h1 h2 (by omega) ⟨.bl _, H, I, rfl, q⟩
theorem op_neD (hu : X.A.units + 64 < cLine) : OpR X (compareOp .NotEq) (rDat X fun x y => !PyData.eqv x y) := by
 intro pins s σ H v u v' u' Q I rv ru h
 obtain ⟨O, x, y, rx, ry, hf, q⟩ := h
 obtain ⟨h1, h2, h3⟩ := flat_of hf
 obtain ⟨as, r1⟩ := rx.reads I h1 rv
 obtain ⟨bs, r2⟩ := ry.reads I h2 ru
 exact SeqAt.compareNe_reads r1 r2 h1 h2 (by omega) ⟨.bl _, H, I, rfl, q⟩
theorem dop_eq (hu : X.A.units + 64 < cLine) : DOp X (compareOp .Eq) oEq := by
 refine ⟨_, op_eqD hu, fun O H x y d v u Q oo rx ry e k => ?_⟩
 unfold oEq at e
 by_cases hf : flat x y = true
 ·rw [if_pos hf] at e
  cases e
  exact ⟨O, x, y, rx, ry, hf, k _ H (Same.refl H) (.bl _)⟩
 ·rw [if_neg hf] at e; cases e
theorem dop_ne (hu : X.A.units + 64 < cLine) : DOp X (compareOp .NotEq) oNe := by
 refine ⟨_, op_neD hu, fun O H x y d v u Q oo rx ry e k => ?_⟩
 unfold oNe at e
 by_cases hf : flat x y = true
 ·rw [if_pos hf] at e
  cases e
  exact ⟨O, x, y, rx, ry, hf, k _ H (Same.refl H) (.bl _)⟩
 ·rw [if_neg hf] at e; cases e

def oIx : D -> D -> Option D
 | .tuple ds, .int i => L2.atI ds i
 | .list ds, .int i => L2.atI ds i
 | .str z, .int i => if small z.length then (L2.atI z.cps.toList i).map (fun c => .str ⟨#[c]⟩) else none
 | _, _ => none
theorem a0u (ha : PD X G a f) (hb : PD X G b g) (hs : PlainIx b) : PD X G (.Subscript a b pos) (d2 oIx f g) := by
 obtain ⟨ta, pa, ha⟩ := ha
 obtain ⟨tb, pb, hb⟩ := hb
 refine ⟨_, pe_ix ix_seq pa pb hs, pd_two (fun O H x y d v u Q oo rx ry e k => ?_) ha hb⟩
 unfold oIx at e
 split at e
 ·rename_i ds i
  obtain ⟨p, vs, rfl, h1, r1⟩ := rx.tup_inv
  obtain ⟨w, hw, rw'⟩ := r1.atI e
  exact .inr (.inl ⟨p, vs, i, w, rfl, ry.int_inv, h1, hw, k w H (Same.refl H) rw'⟩)
 ·rename_i ds i
  obtain ⟨p, vs, rfl, h1, r1⟩ := rx.lst_inv
  obtain ⟨w, hw, rw'⟩ := r1.atI e
  exact .inl ⟨p, vs, i, w, rfl, ry.int_inv, h1, hw, k w H (Same.refl H) rw'⟩
 ·rename_i z i
  by_cases hz : small z.length = true
  ·rw [if_pos hz] at e
   cases e2 : L2.atI z.cps.toList i with
   | none => rw [e2] at e; cases e
   | some c =>
    rw [e2] at e
    cases e
    exact .inr (.inr ⟨z, i, c, rx.str_inv, ry.int_inv, a1e hz, e2, k _ H (Same.refl H) (.str _)⟩)
  ·rw [if_neg hz] at e; cases e
 ·cases e
end
end DL
namespace DL
open PySem PySem.Spec PyProof.Rows L2

section
variable {X : Cx} {G : XD -> Hp -> Prop} {a b c e : Expr} {es rest : List Expr} {f g h : DS -> M D} {fb gb : DS -> M Bool} {fa : DS -> M (List D)} {pos : Pos}
def PDO (X : Cx) (G : XD -> Hp -> Prop) (e : Option Expr) (f : DS -> M (Option Int)) : Prop :=
 ∃ t, PO X e t /\ ∀ {Hr : Hp} (δ : DS) (O : List Addr) (σ : St) (H : Hp) (Q : Option Int -> Hp -> Prop), Ev X.K Hr O H σ δ -> ok (GS G Hr) (f δ) (fun d => ∀ H', Same H H' -> Q d H') -> t σ H Q
def dNoPart : DS -> M (Option Int) := fun _ => M.ret none
def dPart (f : DS -> M D) : DS -> M (Option Int) := fun δ => (f δ).thn fun d => match d with
 | .int i => M.ret (some i)
 | _ => none
theorem pdo_none : PDO X G none dNoPart := ⟨_, po_none, fun _ _ _ H Q _ k => k H (Same.refl H)⟩
theorem pdo_some (he : PD X G e f) : PDO X G (some e) (dPart f) := by
 obtain ⟨t, p, he⟩ := he
 refine ⟨_, po_some p, fun δ O σ H Q E k => ?_⟩
 refine he δ O σ H _ E (a0j (a0o k) fun d z v H1 s1 r => ?_)
 cases d with
 | int i => exact ⟨i, r.int_inv, z H1 s1⟩
 | _ => exact z.elim
def cutD {α : Type} (xs : List α) (lo hi : Option Int) : List α := (xs.drop (HT.sIx xs.length 0 lo)).take (HT.sIx xs.length xs.length hi - HT.sIx xs.length 0 lo)
theorem Reps.cut {K : PySem.W.Frag} {O : List Addr} {H : Hp} {xs : List V} {ds : List D} (r : Reps K O H xs ds) (lo hi : Option Int) : Reps K O H (cutV xs lo hi) (cutD ds lo hi) := by
 unfold cutV cutD
 rw [r.length]
 exact (r.drop _).take _
def oCut (lo hi : Option Int) : D -> Option D
 | .list ds => some (.list (cutD ds lo hi))
 | .tuple ds => if HT.sIx ds.length 0 lo = 0 /\ HT.sIx ds.length ds.length hi = ds.length then none else some (.tuple (cutD ds lo hi))
 | _ => none
variable {lo hi : Option Expr} {fl fh : DS -> M (Option Int)} {p2 : Pos}
theorem pd_lst (h : PDA X G es fa) : PD X G (.List es pos) (dLst fa) := by
 obtain ⟨_, t, p, h⟩ := h
 refine ⟨_, pe_lst p, fun δ O σ H Q E k => ?_⟩
 refine h δ O σ H _ E (a0j (a0o k) fun ds z vs H1 s1 rs => ?_)
 by_cases hz : small ds.length = true
 ·rw [if_pos hz] at z
  exact ⟨by rw [rs.length]; exact a1e hz, fun p hp => z _ _ (s1.trans (a1h hp)) (rep_newL (E.same s1).oo hp rs)⟩
 ·rw [if_neg hz] at z
  exact z.elim

def DCall (X : Cx) (fn : Value) (h : List D -> Option D) : Prop :=
 ∃ r, CallR X fn r /\ ∀ (O : List Addr) (H : Hp) (ds : List D) (d : D) (vs : List V) (Q : VK), (∀ l ∈ O, Mu H l) -> Reps X.K O H vs ds -> h ds = some d -> (∀ v' H', Same H H' -> Rep X.K O H' v' d -> Q v' H') -> r vs H Q
def dCB (h : List D -> Option D) (fa : DS -> M (List D)) : DS -> M D := fun δ => (fa δ).thn fun ds => M.lift (h ds)
theorem a1d {x : Str} {p : Pos} {id : String} {h : List D -> Option D} (hc : DCall X (.builtin id) h) (hg : Gl X x) (hm : X.mg x = none) (hv : bootBuiltins x = some (.builtin id)) (ha : PDA X G (e :: es) fa) (hn : x ≠ "__name__" := by decide) (hdb : (x == ("__debug__" : Str)) = false := by decide)
  (he : starEach (e :: es) X.env = (false, eval e X.env) :: starEach es X.env := by rfl) (hpl : (backTo pos (starEach es X.env)).any (·.1) = false := by rfl) : PD X G (.Call (.Name x p) (e :: es) [] pos) (dCB h fa) := by
 obtain ⟨r, hr, hc⟩ := hc
 obtain ⟨_, t, pa, ha⟩ := ha
 refine ⟨_, pe_callB hr hg hm hv pa hn hdb he hpl, fun δ O σ H Q E k => ?_⟩
 refine ha δ O σ H _ E (a0j (a0o k) fun ds z vs H1 s1 rs => ?_)
 obtain ⟨d, hd, z⟩ := ok_lift z
 exact hc O H1 ds d vs Q (E.same s1).oo rs hd fun v' H2 s2 r2 => z v' H2 (s1.trans s2) r2
theorem pd_callTy {x : Str} {p : Pos} {id : String} {h : List D -> Option D} (hc : DCall X (.type id) h) (hg : Gl X x) (hm : X.mg x = none) (hv : bootBuiltins x = some (.type id)) (ha : PDA X G (e :: es) fa) (hn : x ≠ "__name__" := by decide) (hdb : (x == ("__debug__" : Str)) = false := by decide)
  (he : starEach (e :: es) X.env = (false, eval e X.env) :: starEach es X.env := by rfl) (hpl : (backTo pos (starEach es X.env)).any (·.1) = false := by rfl) : PD X G (.Call (.Name x p) (e :: es) [] pos) (dCB h fa) := by
 obtain ⟨r, hr, hc⟩ := hc
 obtain ⟨_, t, pa, ha⟩ := ha
 refine ⟨_, pe_callTy hr hg hm hv pa hn hdb he hpl, fun δ O σ H Q E k => ?_⟩
 refine ha δ O σ H _ E (a0j (a0o k) fun ds z vs H1 s1 rs => ?_)
 obtain ⟨d, hd, z⟩ := ok_lift z
 exact hc O H1 ds d vs Q (E.same s1).oo rs hd fun v' H2 s2 r2 => z v' H2 (s1.trans s2) r2
theorem reps1 {K : PySem.W.Frag} {O : List Addr} {H : Hp} {vs : List V} {d : D} (r : Reps K O H vs [d]) : ∃ v, vs = [v] /\ Rep K O H v d := by
 cases r with
 | cons r rs => cases rs; exact ⟨_, rfl, r⟩
theorem reps2 {K : PySem.W.Frag} {O : List Addr} {H : Hp} {vs : List V} {d d' : D} (r : Reps K O H vs [d, d']) : ∃ v v', vs = [v, v'] /\ Rep K O H v d /\ Rep K O H v' d' := by
 cases r with
 | cons r rs =>
  obtain ⟨v', rfl, r'⟩ := reps1 rs
  exact ⟨_, _, rfl, r, r'⟩
def oLen : List D -> Option D
 | [.list ds] => some (.int ds.length)
 | [.tuple ds] => some (.int ds.length)
 | [.str z] => if small z.length then some (.int z.length) else none
 | _ => none
theorem a1o : DCall X (.builtin "len") oLen := by
 refine ⟨_, call_len_seq.or call_len_str, fun O H ds d vs Q oo rs e k => ?_⟩
 unfold oLen at e
 split at e
 ·rename_i es
  cases e
  obtain ⟨v, rfl, r⟩ := reps1 rs
  obtain ⟨p, xs, rfl, h1, rx⟩ := r.lst_inv
  refine .inl ⟨p, xs, rfl, .inl h1, k _ H (Same.refl H) ?_⟩
  rw [rx.length]
  exact .int _
 ·rename_i es
  cases e
  obtain ⟨v, rfl, r⟩ := reps1 rs
  obtain ⟨p, xs, rfl, h1, rx⟩ := r.tup_inv
  refine .inl ⟨p, xs, rfl, .inr h1, k _ H (Same.refl H) ?_⟩
  rw [rx.length]
  exact .int _
 ·rename_i z
  by_cases hz : small z.length = true
  ·rw [if_pos hz] at e
   cases e
   obtain ⟨v, rfl, r⟩ := reps1 rs
   refine .inr ⟨z, by rw [r.str_inv], a1e hz, k _ H (Same.refl H) (.int _)⟩
  ·rw [if_neg hz] at e; cases e
 ·cases e
def oMax : List D -> Option D
 | [.int i, .int j] => some (.int (max i j))
 | _ => none
theorem dcall_max (hc : X.calm = true) : DCall X (.builtin "max") oMax := by
 refine ⟨_, call_max2 hc, fun O H ds d vs Q oo rs e k => ?_⟩
 unfold oMax at e
 split at e
 ·rename_i i j
  cases e
  obtain ⟨v, v', rfl, r, r'⟩ := reps2 rs
  refine ⟨i, j, by rw [r.int_inv, r'.int_inv], k _ H (Same.refl H) ?_⟩
  have : (if j > i then j else i) = max i j := by
   rcases Int.lt_or_le i j with h | h
   ·rw [if_pos h]; omega
   ·rw [if_neg (by omega)]; omega
  rw [this]
  exact .int _
 ·cases e
def tyD : D -> String
 | .none => "NoneType"
 | .bool _ => "bool"
 | .int _ => "int"
 | .str _ => "str"
 | .list _ => "list"
 | .tuple _ => "tuple"
 | .dict _ => "dict"
def isD (T : String) (d : D) : Bool := tyD d == T || (T == "int" && tyD d == "bool")
def KitAll (K : PySem.W.Frag) (T : String) : Prop := ∀ d : D, PySem.W.kitOne K (.type (tyD d)) (.type T) = some (isD T d)
theorem kit_int (K : PySem.W.Frag) : KitAll K "int" := fun d => by cases d <;> kernel_rfl
theorem kit_bool (K : PySem.W.Frag) : KitAll K "bool" := fun d => by cases d <;> kernel_rfl
theorem kit_str (K : PySem.W.Frag) : KitAll K "str" := fun d => by cases d <;> kernel_rfl
theorem kit_list (K : PySem.W.Frag) : KitAll K "list" := fun d => by cases d <;> kernel_rfl
theorem kit_tuple (K : PySem.W.Frag) : KitAll K "tuple" := fun d => by cases d <;> kernel_rfl
theorem call_isinst {T : String} (hk : KitAll X.K T) : CallR X (.builtin "isinstance") (fun xs H Q => ∃ v O d, xs = [v, .ty T] /\ Rep X.K O H v d /\ noIns d = true /\ Q (.bl (isD T d)) H) := by
 intro pins s σ H xs us Q I r h
 obtain ⟨v, O, d, rfl, rd, hi, q⟩ := h
 obtain ⟨u, w', rfl, r1, r2⟩ := vals2 r
 cases (show w' = Value.type T from r2)
 have fin : ∀ tk, EP X pins σ Q (.bool (isD T d)) { s with toks := tk } := fun tk => ⟨.bl _, H, I.tok _, rfl, q⟩
 have e := hk d
 cases rd with
 | non => cases (show u = Value.none from r1); exact PySem.W.kia_one PySem.W.kitx_none I.kIn True.intro e (fun z => nomatch z) fin
 | bl y => cases (show u = Value.bool y from r1); exact PySem.W.kia_one PySem.W.kitx_bool I.kIn True.intro e (fun z => nomatch z) fin
 | int i => obtain ⟨t, q⟩ := (show ∃ t, u = Value.int i t from r1); cases q; exact PySem.W.kia_one PySem.W.kitx_int I.kIn True.intro e (fun z => nomatch z) fin
 | str y => obtain ⟨t, q⟩ := (show ∃ t, u = Value.str y t from r1); cases q; exact PySem.W.kia_one PySem.W.kitx_str I.kIn True.intro e (fun z => nomatch z) fin
 | @tup a ys ds h rr =>
  cases (show u = Value.ref a from r1)
  obtain ⟨its, rv, ⟨o, h1, h2, _⟩, _⟩ := I.tuple h
  exact PySem.W.kia_one PySem.W.kitx_tuple I.kIn ⟨o, h1, h2⟩ e (fun z => nomatch z) fin
 | @lst a ys ds h n rr =>
  cases (show u = Value.ref a from r1)
  obtain ⟨its, rv, ⟨o, n, h1, h2, _⟩, _⟩ := I.list (.inl h)
  exact PySem.W.kia_one PySem.W.kitx_list I.kIn ⟨o, h1, h2⟩ e (fun z => nomatch z) fin
 | @lstK a ys ds h rr =>
  cases (show u = Value.ref a from r1)
  obtain ⟨its, rv, ⟨o, n, h1, h2, _⟩, _⟩ := I.list (.inr h)
  exact PySem.W.kia_one PySem.W.kitx_list I.kIn ⟨o, h1, h2⟩ e (fun z => nomatch z) fin
 | @dct a kvs es h n hk rr =>
  cases (show u = Value.ref a from r1)
  obtain ⟨_, _, _, _, o, _, _, h1, h2, _⟩ := h.ok I.hok
  exact PySem.W.kia_one PySem.W.kitx_dict I.kIn ⟨o, h1, h2.1⟩ e (fun z => nomatch z) fin
 | ins hN h n hk rr => cases hi
def dIs (T : String) (f : DS -> M D) : DS -> M D := fun δ => (f δ).thn fun d => if noIns d = true then M.ret (.bool (isD T d)) else none
theorem a2o {T : String} {x y : Str} {p p2 : Pos} (hx : x = "isinstance") (hk : KitAll X.K T) (hg : Gl X x) (hm : X.mg x = none) (hg2 : Gl X y) (hm2 : X.mg y = none) (hb2 : bootBuiltins y = some (.type T)) (he : PD X G e f)
  (hn2 : y ≠ "__name__" := by decide) (hd2 : (y == ("__debug__" : Str)) = false := by decide)
  (hs1 : starEach [e, .Name y p2] X.env = (false, eval e X.env) :: starEach [.Name y p2] X.env := by rfl) (hs2 : starEach [.Name y p2] X.env = (false, eval (.Name y p2) X.env) :: starEach [] X.env := by rfl)
  (hpl : (backTo pos (starEach [.Name y p2] X.env)).any (·.1) = false := by rfl) : PD X G (.Call (.Name x p) [e, .Name y p2] [] pos) (dIs T f) := by
 subst hx
 obtain ⟨t, pe, he⟩ := he
 refine ⟨_, pe_callB (call_isinst hk) hg hm boot_isinstance (pa_cons pe (pa_cons (pe_bltn (v := .ty T) hg2 hm2 hb2 rfl hn2 hd2) pa_nil hs2) hs1) (by decide) (by decide) hs1 hpl, fun δ O σ H Q E k => ?_⟩
 refine he δ O σ H _ E (a0j (a0o k) fun d z v H1 s1 r => ?_)
 by_cases hi : noIns d = true
 ·rw [if_pos hi] at z
  exact ⟨v, O, d, rfl, r, hi, z _ H1 s1 (.bl _)⟩
 ·rw [if_neg hi] at z
  exact z.elim
end
end DL
namespace DL
open PySem PySem.Spec PyProof.Rows L2

def d1 (h : D -> Option D) (f : DS -> M D) : DS -> M D := fun δ => (f δ).thn fun x => M.lift (h x)
def oNeg : D -> Option D
 | .int i => some (.int (-i))
 | _ => none
theorem pd_neg {X : Cx} {G : XD -> Hp -> Prop} {a : Expr} {f : DS -> M D} {pos : Pos} (ha : PD X G a f) : PD X G (.UnaryOp .USub a pos) (d1 oNeg f) := by
 obtain ⟨t, p, ha⟩ := ha
 refine ⟨_, pe_un un_neg p, fun δ O σ H Q E k => ?_⟩
 refine ha δ O σ H _ E (a0j (a0o k) fun d z v H1 s1 r => ?_)
 obtain ⟨y, hy, z⟩ := ok_lift z
 cases d with
 | int i => cases hy; exact ⟨i, r.int_inv, z _ H1 s1 (.int _)⟩
 | _ => cases hy

inductive Out where
 | nx (δ : DS)
 | rt (d : D)
 | bk (δ : DS)
 | ct (δ : DS)
structure EI (K : PySem.W.Frag) (Hr : Hp) (R0 : List Addr) (P0 : Addr -> Prop) (H0 : Hp) (O : List Addr) (H : Hp) (σ : St) (δ : DS) : Prop where
 ev : Ev K Hr O H σ δ
 omr : ∀ l ∈ O, l ∈ R0 \/ Hr l = none
 keep : ∀ b o, ¬ P0 b -> H0 b = some o -> H b = some o
 om : ∀ l ∈ O, l ∈ R0 \/ P0 l \/ H0 l = none
 nr1 : ∀ (i : Nat) (s : Sl) (l : Addr), δ[i]? = some s -> s.own -> σ[i]? = some (some (.ref l)) -> l ∉ R0
 sub : ∀ l ∈ R0, l ∈ O
theorem EI.nr {K : PySem.W.Frag} {Hr : Hp} {R0 : List Addr} {P0 : Addr -> Prop} {H0 : Hp} {O : List Addr} {H : Hp} {σ : St} {δ : DS} (E : EI K Hr R0 P0 H0 O H σ δ) : ∀ (i : Nat) (ds : List D) (l : Addr), δ[i]? = some (.ow ds) -> σ[i]? = some (some (.ref l)) -> l ∉ R0 := fun i ds l h1 h2 => E.nr1 i _ l h1 trivial h2
def Fin (K : PySem.W.Frag) (Hr : Hp) (R0 : List Addr) (P0 : Addr -> Prop) (H0 : Hp) (Dn : Ends) : Out -> Prop
 | .nx δ => ∀ O σ H, EI K Hr R0 P0 H0 O H σ δ -> Dn.nx σ H
 | .rt d => ∀ v H, (∀ b o, ¬ P0 b -> H0 b = some o -> H b = some o) -> Rep K R0 H v d -> Dn.rt v H
 | .bk δ => ∀ O σ H, EI K Hr R0 P0 H0 O H σ δ -> Dn.bk σ H
 | .ct δ => ∀ O σ H, EI K Hr R0 P0 H0 O H σ δ -> Dn.ct σ H
def PDS (X : Cx) (G : XD -> Hp -> Prop) (st : Stmt) (g : DS -> M Out) : Prop :=
 ∃ t, PS X st t /\ ∀ {Hr : Hp} (R0 : List Addr) (P0 : Addr -> Prop) (H0 : Hp) (δ : DS) (O : List Addr) (σ : St) (H : Hp) (Dn : Ends), EI X.K Hr R0 P0 H0 O H σ δ -> ok (GS G Hr) (g δ) (Fin X.K Hr R0 P0 H0 Dn) -> t Dn σ H
def PDSs (X : Cx) (G : XD -> Hp -> Prop) (st : List Stmt) (g : DS -> M Out) : Prop :=
 ∃ t, PSs X st t /\ ∀ {Hr : Hp} (R0 : List Addr) (P0 : Addr -> Prop) (H0 : Hp) (δ : DS) (O : List Addr) (σ : St) (H : Hp) (Dn : Ends), EI X.K Hr R0 P0 H0 O H σ δ -> ok (GS G Hr) (g δ) (Fin X.K Hr R0 P0 H0 Dn) -> t Dn σ H

section
variable {X : Cx} {G : XD -> Hp -> Prop} {a b c e : Expr} {es rest : List Expr} {f g h : DS -> M D} {fb gb : DS -> M Bool} {fa : DS -> M (List D)} {pos : Pos} {st : Stmt} {sts st1 st2 : List Stmt} {gs gt gu : DS -> M Out}
variable {K : PySem.W.Frag} {Hr : Hp} {R0 : List Addr} {P0 : Addr -> Prop} {H0 H H' : Hp} {O : List Addr} {σ : St} {δ : DS}
theorem EI.same (E : EI K Hr R0 P0 H0 O H σ δ) (s : Same H H') : EI K Hr R0 P0 H0 O H' σ δ := ⟨E.ev.same s, E.omr, fun b o n h => s _ _ (E.keep b o n h), E.om, E.nr1, E.sub⟩
theorem EI.set {i : Nat} {v : V} {d : D} (E : EI K Hr R0 P0 H0 O H σ δ) (r : Rep K O H v d) : EI K Hr R0 P0 H0 O H (σ.set i (some v)) (δ.set i (.vl d)) := by
 refine ⟨E.ev.set r, E.omr, E.keep, E.om, fun j ds l h1 ho h2 => ?_, E.sub⟩
 rw [a1u] at h1 h2
 by_cases hij : i = j
 ·rw [if_pos hij] at h1
  split at h1
  ·cases h1; exact ho.elim
  ·cases h1
 ·rw [if_neg hij] at h1 h2
  exact E.nr1 j ds l h1 ho h2
theorem EI.less (E : EI K Hr R0 P0 H0 O H σ δ) {v : V} {d : D} (r : Rep K O H v d) : Rep K R0 H v d := r.to (.less E.sub)

def gNext : DS -> M Out := fun δ => M.ret (.nx δ)
def gSeq (g h : DS -> M Out) : DS -> M Out := fun δ => (g δ).thn fun o => match o with
 | .nx δ' => h δ'
 | o => M.ret o
theorem a1c : PDSs X G [] gNext := ⟨_, pss_nil, fun R0 P0 H0 δ O σ H Dn E k => k O σ H E⟩
theorem a0i (h1 : PDS X G st gs) : PDSs X G [st] gs := by
 obtain ⟨t, p, h1⟩ := h1
 exact ⟨_, pss_one p, h1⟩
theorem a0h (h1 : PDS X G st gs) (h2 : PDSs X G sts gt) : PDSs X G (st :: sts) (gSeq gs gt) := by
 obtain ⟨t, p, h1⟩ := h1
 obtain ⟨u, q, h2⟩ := h2
 refine ⟨_, pss_cons p q, fun R0 P0 H0 δ O σ H Dn E k => ?_⟩
 refine h1 R0 P0 H0 δ O σ H _ E (a0j (a0o k) fun o z => ?_)
 cases o with
 | nx δ' => exact fun O' σ' H' E' => h2 R0 P0 H0 δ' O' σ' H' Dn E' z
 | rt d => exact z
 | bk δ' => exact z
 | ct δ' => exact z
def gBreak : DS -> M Out := fun δ => M.ret (.bk δ)
theorem pd_break : PDS X G (.Break pos) gBreak := ⟨_, ps_break, fun R0 P0 H0 δ O σ H Dn E k => k O σ H E⟩
def gRet (f : DS -> M D) : DS -> M Out := fun δ => (f δ).thn fun d => M.ret (.rt d)
theorem a0s (he : PD X G e f) : PDS X G (.Return (some e) pos) (gRet f) := by
 obtain ⟨t, p, he⟩ := he
 refine ⟨_, ps_ret p, fun R0 P0 H0 δ O σ H Dn E k => ?_⟩
 exact he δ O σ H _ E.ev (a0j (a0o k) fun d z v H1 s1 r => z v H1 (fun b o n q => s1 _ _ (E.keep b o n q)) ((E.same s1).less r))
def gIf (c : DS -> M Bool) (g h : DS -> M Out) : DS -> M Out := fun δ => (c δ).thn fun b => if b = true then g δ else h δ
theorem a1k (hc : PDT X G c fb) (h1 : PDSs X G st1 gs) (h2 : PDSs X G st2 gt) : PDS X G (.If c st1 st2 pos) (gIf fb gs gt) := by
 obtain ⟨t, p, hc⟩ := hc
 obtain ⟨u, q, h1⟩ := h1
 obtain ⟨w, r, h2⟩ := h2
 refine ⟨_, ps_if p q r, fun R0 P0 H0 δ O σ H Dn E k => ?_⟩
 refine hc δ O σ H _ E.ev (a0j (a0o k) fun d z H1 s1 => ?_)
 cases d with
 | true =>
  rw [if_pos rfl] at z ⊢
  exact h1 R0 P0 H0 δ O σ H1 Dn (E.same s1) z
 | false =>
  rw [if_neg Bool.false_ne_true] at z ⊢
  exact h2 R0 P0 H0 δ O σ H1 Dn (E.same s1) z
def gNever : DS -> M Out := fun _ => none
theorem pd_never : PDS X G st gNever := ⟨_, ps_never, fun R0 P0 H0 δ O σ H Dn E k => k.elim⟩

def PDG (X : Cx) (target : Expr) (g : D -> DS -> Option DS) : Prop :=
 ∃ t, PG X target t /\ ∀ {Hr : Hp} (R0 : List Addr) (P0 : Addr -> Prop) (H0 : Hp) (δ δ' : DS) (d : D) (v : V) (O : List Addr) (σ : St) (H : Hp) (Q : St -> Hp -> Prop), EI X.K Hr R0 P0 H0 O H σ δ -> Rep X.K O H v d -> g d δ = some δ' ->
  (∀ σ' H', EI X.K Hr R0 P0 H0 O H' σ' δ' -> Same H H' -> Q σ' H') -> t v σ H Q
def PDGs (X : Cx) (ts : List Expr) (g : List D -> DS -> Option DS) : Prop :=
 ∃ t, PGs X ts t /\ ∀ {Hr : Hp} (R0 : List Addr) (P0 : Addr -> Prop) (H0 : Hp) (δ δ' : DS) (ds : List D) (vs : List V) (O : List Addr) (σ : St) (H : Hp) (Q : St -> Hp -> Prop), EI X.K Hr R0 P0 H0 O H σ δ -> Reps X.K O H vs ds -> g ds δ = some δ' ->
  (∀ σ' H', EI X.K Hr R0 P0 H0 O H' σ' δ' -> Same H H' -> Q σ' H') -> t vs σ H Q
def tgN (i : Nat) : D -> DS -> Option DS := fun d δ => some (δ.set i (.vl d))
theorem a1v {i : Nat} (h : PG X e (gName i)) : PDG X e (tgN i) := by
 refine ⟨_, h, fun R0 P0 H0 δ δ' d v O σ H Q E r e k => ?_⟩
 cases e
 exact k _ H (E.set r) (Same.refl H)
def tgNil : List D -> DS -> Option DS := fun ds δ => match ds with
 | [] => some δ
 | _ => none
def tgCons (t : D -> DS -> Option DS) (u : List D -> DS -> Option DS) : List D -> DS -> Option DS := fun ds δ => match ds with
 | d :: r => (t d δ).bind (u r)
 | [] => none
theorem pdgs_nil : PDGs X [] tgNil := by
 refine ⟨_, pgs_nil, fun R0 P0 H0 δ δ' ds vs O σ H Q E r e k => ?_⟩
 cases ds with
 | nil => cases r; cases e; exact ⟨rfl, k σ H E (Same.refl H)⟩
 | cons d ds => cases e
theorem pdgs_cons {t : D -> DS -> Option DS} {u : List D -> DS -> Option DS} (h1 : PDG X e t) (h2 : PDGs X es u)
  (hs : (assignEach (e :: es) X.env).map (·.2) = assign e X.env :: (assignEach es X.env).map (·.2) := by rfl) : PDGs X (e :: es) (tgCons t u) := by
 obtain ⟨t1, p1, h1⟩ := h1
 obtain ⟨t2, p2, h2⟩ := h2
 refine ⟨_, pgs_cons p1 p2 hs, fun R0 P0 H0 δ δ' ds vs O σ H Q E r e k => ?_⟩
 cases ds with
 | nil => cases e
 | cons d ds =>
  cases r with
  | @cons v _ vs _ r rs =>
   have e : (t d δ).bind (u ds) = some δ' := e
   cases e1 : t d δ with
   | none => rw [e1] at e; cases e
   | some δ1 =>
    rw [e1] at e
    refine ⟨v, vs, rfl, h1 R0 P0 H0 δ δ1 d v O σ H _ E r e1 fun σ1 H1 E1 s1 => ?_⟩
    exact h2 R0 P0 H0 δ1 δ' ds vs O σ1 H1 Q E1 (rs.same s1) e fun σ2 H2 E2 s2 => k σ2 H2 E2 (s1.trans s2)
def tgTup (n : Nat) (u : List D -> DS -> Option DS) : D -> DS -> Option DS := fun d δ => match d with
 | .tuple ds => if ds.length = n then u ds δ else none
 | _ => none
theorem pdg_tup {k : Nat} {u : List D -> DS -> Option DS} {n : Nat} (hc : X.calm = true) (h : PDGs X es u)
  (hn : (assignEach es X.env).length = n := by rfl) (hst : (assignEach es X.env).findIdx? (·.1) = none := by rfl) : PDG X (.Tuple es k pos) (tgTup n u) := by
 obtain ⟨t, p, h⟩ := h
 refine ⟨_, pg_tup hc p hn hst, fun R0 P0 H0 δ δ' d v O σ H Q E r e k => ?_⟩
 cases d with
 | tuple ds =>
  have e : (if ds.length = n then u ds δ else none) = some δ' := e
  by_cases hl : ds.length = n
  ·rw [if_pos hl] at e
   obtain ⟨a, xs, rfl, h1, rs⟩ := r.tup_inv
   exact ⟨a, xs, rfl, h1, by rw [rs.length]; exact hl, h R0 P0 H0 δ δ' ds xs O σ H Q E rs e k⟩
  ·rw [if_neg hl] at e; cases e
 | _ => cases e
def gAsg (f : DS -> M D) (g : D -> DS -> Option DS) : DS -> M Out := fun δ => (f δ).thn fun d => (M.lift (g d δ)).thn fun δ' => M.ret (.nx δ')
theorem a0v {i : Nat} {x : Str} {pos' : Pos} (hN : X.N.Nodup) (hi : X.N[i]? = some x) (hx : Loc X.env.scope x) (he : PD X G e f) (hs : swapsWith e (some (.Name x pos')) pos.line X.env = pure false := by rfl) (hf : X.fn x = true \/ X.env.scope.names.lookup x = some .local := by first | exact .inl rfl | exact .inr rfl | assumption) :
  PDS X G (.Assign [.Name x pos'] e pos) (gAsg f (tgN i)) := by
 obtain ⟨t, p, he⟩ := he
 refine ⟨_, ps_set hN hi hx p hs hf, fun R0 P0 H0 δ O σ H Dn E k => ?_⟩
 refine he δ O σ H _ E.ev (a0j (a0o k) fun d z v H1 s1 r => ?_)
 obtain ⟨δ', hd, z⟩ := ok_lift (a0o z)
 cases hd
 exact z O _ H1 ((E.same s1).set r)

def forD (body : D -> DS -> M Out) : List D -> DS -> M Out
 | [], δ => M.ret (.nx δ)
 | x :: xs, δ => (body x δ).thn fun o => match o with
  | .nx δ' => forD body xs δ'
  | .ct δ' => forD body xs δ'
  | .bk δ' => M.ret (.nx δ')
  | .rt d => M.ret (.rt d)
def bodyD (t : D -> DS -> Option DS) (g : DS -> M Out) : D -> DS -> M Out := fun d δ => (M.lift (t d δ)).thn g
def seqD : D -> Option (List D)
 | .list ds => some ds
 | .tuple ds => some ds
 | _ => none
def iSeq (K : PySem.W.Frag) (tl : TE) : TI := fun σ H R => tl σ H fun x H1 => ∃ a, x = .ref a /\ (((∃ xs, SqL K H1 a xs) /\ R (Itl K a) H1) \/ ((∃ xs, SqT K H1 a xs) /\ R (Itt K a) H1))
theorem pi_seq {tg l : Expr} {tl : TE} (hl : PE X l tl) : PI X tg l (iSeq X.K tl) := by
 intro pins s σ H R I h
 refine thn (hl pins s σ H _ I h) fun v s1 ⟨x, H1, I1, r1, q1⟩ => ?_
 obtain ⟨a, e, q⟩ := q1
 subst e
 cases r1
 rcases q with ⟨⟨xs, hq⟩, q⟩ | ⟨⟨xs, hq⟩, q⟩
 ·obtain ⟨its, rv, p, hz⟩ := I1.list hq
  refine wpAny_pyIter_list p.isList ?_
  refine ⟨s1.heap.objs.size, [s1.heap.objs.size], _, _, H1, rfl, I1.kept (t' := s1.toks) fun b o e => Heap.get?_push_of_some _ e, turn_list a _, ⟨_, Heap.get?_push_size _ rfl, rfl, rfl⟩, fun b hb => ?_, q⟩
  have e : b = s1.heap.objs.size := by simpa using hb
  subst e
  exact I1.fpOk (Nat.le_refl _) (I1.hok.fresh (Nat.le_refl _))
 ·obtain ⟨its, rv, p, hz⟩ := I1.tuple hq
  refine wpAny_pyIter_tuple (show s1.heap.IsTuple a its.toArray from p) ?_
  refine ⟨s1.heap.objs.size, [s1.heap.objs.size], _, _, H1, rfl, I1.kept (t' := s1.toks) fun b o e => Heap.get?_push_of_some _ e, turn_tuple a _, ⟨_, Heap.get?_push_size _ rfl, rfl, rfl⟩, fun b hb => ?_, q⟩
  have e : b = s1.heap.objs.size := by simpa using hb
  subst e
  exact I1.fpOk (Nat.le_refl _) (I1.hok.fresh (Nat.le_refl _))

def Ch (O R0 : List Addr) (l : Addr) : Prop := l ∈ O /\ l ∉ R0
theorem EI.noCh (E : EI K Hr R0 P0 H0 O H σ δ) {b : Addr} {o : HO} (n : ¬ P0 b) (h : H0 b = some o) : ¬ Ch O R0 b := fun ⟨z1, z2⟩ => by
 rcases E.om b z1 with q | q | q
 ·exact z2 q
 ·exact n q
 ·rw [h] at q; cases q
theorem EI.inner (E : EI K Hr R0 P0 H0 O H σ δ) : EI K Hr R0 (Ch O R0) H O H σ δ :=
 ⟨E.ev, E.omr, fun b o _ h => h, fun l hl => (Classical.em (l ∈ R0)).elim .inl fun n => .inr (.inl ⟨hl, n⟩), E.nr1, E.sub⟩
theorem EI.outer {O1 : List Addr} {H1 : Hp} {σ1 : St} {δ1 : DS} (E : EI K Hr R0 P0 H0 O H σ δ) (E1 : EI K Hr R0 (Ch O R0) H O1 H1 σ1 δ1) : EI K Hr R0 P0 H0 O1 H1 σ1 δ1 := by
 refine ⟨E1.ev, E1.omr, fun b o n h => E1.keep b o (E.noCh n h) (E.keep b o n h), fun l hl => ?_, E1.nr1, E1.sub⟩
 rcases E1.om l hl with q | q | q
 ·exact .inl q
 ·exact E.om l q.1
 ·refine .inr ?_
  by_cases hp : P0 l
  ·exact .inl hp
  ·cases e : H0 l with
   | none => exact .inr rfl
   | some o =>
    rw [E.keep l o hp e] at q
    cases q
theorem Fin.outer {Dn : Ends} (E : EI K Hr R0 P0 H0 O H σ δ) {o : Out} (h : Fin K Hr R0 P0 H0 Dn o) : Fin K Hr R0 (Ch O R0) H Dn o := by
 cases o with
 | nx δ1 => exact fun O1 σ1 H1 E1 => h O1 σ1 H1 (E.outer E1)
 | bk δ1 => exact fun O1 σ1 H1 E1 => h O1 σ1 H1 (E.outer E1)
 | ct δ1 => exact fun O1 σ1 H1 E1 => h O1 σ1 H1 (E.outer E1)
 | rt d => exact fun v H1 kp r => h v H1 (fun b o n q => kp b o (E.noCh n q) (E.keep b o n q)) r
theorem EI.to {O1 : List Addr} {H1 : Hp} {σ1 : St} {δ1 : DS} (E : EI K Hr R0 P0 H0 O H σ δ) (E1 : EI K Hr R0 (Ch O R0) H O1 H1 σ1 δ1) : To O O1 H H1 := by
 have nt : ∀ {b : Addr} {o : HO}, (∀ xs, o ≠ .lst xs) -> (∀ xs, o ≠ .dK xs) -> H b = some o -> ¬ Ch O R0 b := fun {b o} ho ho2 h z => by
  rcases E.ev.oo b z.1 with ⟨ys, hl⟩ | ⟨ys, hl⟩
  ·rw [h] at hl
   exact ho _ (Option.some.inj hl)
  ·rw [h] at hl
   exact ho2 _ (Option.some.inj hl)
 have kp : ∀ {b : Addr} {o : HO}, b ∉ O -> Rd H b o -> b ∉ O1 /\ Rd H1 b o := fun {b o} n h => by
  refine ⟨fun z => ?_, ?_⟩
  ·rcases E1.om b z with q | q | q
   ·exact n (E.sub b q)
   ·exact n q.1
   ·rcases h with h | ⟨u, h⟩
    ·rw [h] at q; cases q
    ·rw [h] at q; cases q
  ·rcases h with h | ⟨u, h⟩
   ·exact .inl (E1.keep _ _ (fun z => n z.1) h)
   ·exact .inr ⟨u, E1.keep _ _ (fun z => n z.1) h⟩
 refine ⟨fun b xs h => ?_, fun b xs n h => kp n h, fun b xs n h => kp n h, fun b C dx fs n h => ⟨(kp n (.inl h)).1, E1.keep _ _ (fun z => n z.1) h⟩⟩
 ·rcases h with h | ⟨u, h⟩
  ·exact .inl (E1.keep _ _ (nt (fun _ z => by cases z) (fun _ z => by cases z) h) h)
  ·exact .inr ⟨u, E1.keep _ _ (nt (fun _ z => by cases z) (fun _ z => by cases z) h) h⟩
theorem drop_get {ds : List D} {i : Nat} {d : D} (h : ds[i]? = some d) : ds.drop i = d :: ds.drop (i + 1) := by
 obtain ⟨hl, e⟩ := List.getElem?_eq_some_iff.mp h
 rw [List.drop_eq_getElem_cons hl, e]
def rngD (lo : Int) (n : Nat) : List D := (List.range n).map fun (i : Nat) => PyData.int (lo + (i : Int))
def b62 (j : Int) : Bool := decide (-4611686018427387904 <= j /\ j < 4611686018427387904)
def rng1 : List D -> Option (List D)
 | [.int j] => if b62 j = true then some (rngD 0 j.toNat) else none
 | _ => none
theorem b62_of {j : Int} (h : b62 j = true) : -(2 ^ 62) <= j /\ j < 2 ^ 62 := by
 have e62 : (2 : Int) ^ 62 = 4611686018427387904 := by decide
 rw [e62]
 exact of_decide_eq_true h
end

def spD (K : PySem.W.Frag) (n : Nat) (F : List D -> M D) : Sp := fun vs H Q _ => ∃ O ds, vs.length = n /\ (∀ l ∈ O, Mu H l) /\ Reps K O H vs ds /\ ok (fun _ => False) (F ds) (fun d => ∀ v H', Same H H' -> Rep K O H' v d -> Q v H')
structure Def (P : Program) (w : World) (K : PySem.W.Frag) (mg : Str -> Option Value) (base : Heap) (k : Nat) (x : Str) (n : Nat) (F : List D -> M D) : Prop where
 ex : ∃ (f : Addr) (fd : FuncData) (ps : List Str), FnOk P w K mg base CX0 k f fd ps (spD K n F) /\ mg x = some (.ref f) /\ PySem.W.keepIn K (.ref f) = true /\ Binds K fd ps []
def dCall (F : List D -> M D) (fa : DS -> M (List D)) : DS -> M D := fun δ => (fa δ).thn F
section
variable {X : Cx} {G : XD -> Hp -> Prop} {a b c e : Expr} {es rest : List Expr} {f g h : DS -> M D} {fb gb : DS -> M Bool} {fa : DS -> M (List D)} {pos : Pos}
theorem ok_false {α : Type} {G : XD -> Prop} {r : M α} {k : α -> Prop} (h : ok (fun _ => False) r k) : ok G r k := by
 match r, h with
 | some (.ok a), h => exact h
def noX {α : Type} (r : M α) : M α := match r with
 | some (.error _) => none
 | r => r
theorem ok_noX {α : Type} {G : XD -> Prop} {r : M α} {k : α -> Prop} (h : ok G (noX r) k) : ok (fun _ => False) r k := by
 match r, h with
 | some (.ok a), h => exact h
theorem a0m {k n : Nat} {x : Str} {p : Pos} {F : List D -> M D} (h : Def X.prog X.w X.K X.mg X.base k x n F) (hr : Room k X.A) (hg : Gl X x) (hn : (e :: es).length = n) (ha : PDA X G (e :: es) fa)
  (hdb : (x == ("__debug__" : Str)) = false := by decide) (he : starEach (e :: es) X.env = (false, eval e X.env) :: starEach es X.env := by rfl) (hpl : (backTo pos (starEach es X.env)).any (·.1) = false := by rfl) :
  PD X G (.Call (.Name x p) (e :: es) [] pos) (dCall (fun ds => noX (F ds)) fa) := by
 obtain ⟨f, fd, ps, F1, hm, hk, hb⟩ := h.ex
 obtain ⟨hl, t, pa, ha⟩ := ha
 refine ⟨_, pe_call F1 hr hg hm hk hb .nil pass0 pa hdb he hpl, fun δ O σ H Q E k => ?_⟩
 have k1 := a0o k
 refine ha δ O σ H _ E ?_
 cases e1 : fa δ with
 | none => rw [e1] at k1; exact k1.elim
 | some r =>
  rw [e1] at k1
  cases r with
  | error x => exact k1
  | ok ds =>
   refine fun vs H1 s1 rs => ?_
   refine ⟨O, ds, ?_, (E.same s1).oo, ?_, a0j (ok_noX k1) fun d z v H2 s2 r => z v H2 (s1.trans s2) r⟩
   ·rw [List.append_nil, rs.length, hl δ ds e1]
    exact hn
   ·rw [List.append_nil]
    exact rs
end
def startD (n : Nat) (ds : List D) : DS := ds.map Sl.vl ++ List.replicate (n - ds.length) Sl.un
def endD (o : Out) : M D := match o with
 | .rt d => M.ret d
 | .nx _ => M.ret .none
 | _ => none
def run (n : Nat) (g : DS -> M Out) (ds : List D) : M D := (g (startD n ds)).thn endD
section
variable {P : Program} {w : World} {K : PySem.W.Frag} {mg : Str -> Option Value} {base : Heap}
theorem start_no {n i : Nat} {ds : List D} {s : Sl} (h1 : (startD n ds)[i]? = some s) (ho : s.own) : False := by
 unfold startD at h1
 by_cases hi : i < ds.length
 ·rw [List.getElem?_append_left (by simpa using hi), List.getElem?_map] at h1
  cases e : ds[i]? with
  | none => rw [e] at h1; cases h1
  | some d => rw [e] at h1; cases h1; exact ho
 ·rw [List.getElem?_append_right (by simpa using hi), List.getElem?_replicate] at h1
  split at h1
  ·cases h1; exact ho
  ·cases h1
theorem ev_start {O : List Addr} {H : Hp} {vs : List V} {ds : List D} (N : List Str) (oo : ∀ l ∈ O, Mu H l) (r : Reps K O H vs ds) : Ev K H O H (L2.start N vs) (startD N.length ds) := by
 have get : ∀ (i : Nat) (s : Sl), (startD N.length ds)[i]? = some s -> (∃ d, ds[i]? = some d /\ s = .vl d) \/ s = .un := fun i s h => by
  unfold startD at h
  by_cases hi : i < ds.length
  ·rw [List.getElem?_append_left (by simpa using hi), List.getElem?_map] at h
   cases e : ds[i]? with
   | none => rw [e] at h; cases h
   | some d => rw [e] at h; cases h; exact .inl ⟨d, rfl, rfl⟩
  ·rw [List.getElem?_append_right (by simpa using hi), List.getElem?_replicate] at h
   split at h
   ·cases h; exact .inr rfl
   ·cases h
 refine ⟨Same.refl H, oo, ?_, fun i s h => ?_, fun i j l es fs hij h1 h2 h3 => ?_⟩
 ·unfold L2.start startD
  simp [r.length]
 ·rcases get i s h with ⟨d, hd, rfl⟩ | rfl
  ·obtain ⟨v, hv, rd⟩ := r.get hd
   refine ⟨v, ?_, rd⟩
   unfold L2.start
   have hi : i < vs.length := (List.getElem?_eq_some_iff.mp hv).1
   rw [List.getElem?_append_left (by simpa using hi), List.getElem?_map, hv]
   rfl
  ·trivial
 ·rcases get i _ h1 with ⟨d, _, z⟩ | z <;> cases z
theorem fn_ofD {x qual : Str} {st : Stmt} {f : Addr} {fd : FuncData} {N ps : List Str} {k : Nat} {g : DS -> M Out} (F0 : Fun K x qual st f fd) (S : FnScope N ps (defScope st))
  (hbody : ∀ (cdv : Value) (A : Around) (outer : List Env) (s : Shared) (H : Hp) (E : XK), Room k (A.deeper (envOfC qual (defScope st) s.heap.objs.size f cdv)) ->
   PDSs (cxOf CX0 P w K mg base N qual (defScope st) f cdv A outer s H E).nox (fun _ _ => False) (defBody st) g) : FnOk P w K mg base CX0 (k + 1) f fd ps (spD K ps.length (run N.length g)) := by
 refine F0.ok S (fun vs H Q E h => ?_) (fun cdv A outer s H vs Q E hr h => ?_)
 ·obtain ⟨O, ds, hl, _⟩ := h
  exact hl
 ·obtain ⟨O, ds, hl, oo, r, q⟩ := h
  obtain ⟨t, p, hB⟩ := hbody cdv A outer s H E hr
  refine ⟨t, p, hB O (fun _ => False) H (startD N.length ds) O (L2.start N vs) H _ ⟨ev_start N oo r, fun l hl => .inl hl, fun b o _ h => h, fun l hl => .inl hl, fun i es l h1 ho h2 => ?_, fun l hl => hl⟩ (a0j (ok_false (a0o q)) fun o z => ?_)⟩
  ·exact (start_no h1 ho).elim
  ·cases o with
   | rt d => exact fun v H' kp r => z v H' (fun b o h => kp b o (fun w => w) h) r
   | nx δ => exact fun O' σ' H' E' => z .non H' (fun b o h => E'.keep b o (fun w => w) h) .non
   | bk δ => exact z.elim
   | ct δ => exact z.elim
theorem a1j {x qual : Str} {st : Stmt} {f : Addr} {fd : FuncData} {N ps : List Str} {k : Nat} {g : DS -> M Out} (F0 : Fun K x qual st f fd) (S : FnScope N ps (defScope st)) (hm : mg x = some (.ref f)) (hb : Binds K fd ps [])
  (hbody : ∀ (cdv : Value) (A : Around) (outer : List Env) (s : Shared) (H : Hp) (E : XK), Room k (A.deeper (envOfC qual (defScope st) s.heap.objs.size f cdv)) ->
   PDSs (cxOf CX0 P w K mg base N qual (defScope st) f cdv A outer s H E).nox (fun _ _ => False) (defBody st) g) : Def P w K mg base (k + 1) x ps.length (run N.length g) :=
 ⟨f, fd, ps, fn_ofD F0 S hbody, hm, F0.kp, hb⟩
def spLaw (K : PySem.W.Frag) : Sp := fun vs H Q _ => ∃ (a : Addr) (ns : List Int), vs = [.ref a] /\ SqL K H a (ns.map V.int) /\ ns.length <= 63 /\ ∀ H', Q (.bl true) H'
theorem law_sp {F : List D -> M D} (hF : ∀ ns : List Int, ns.length <= 63 -> F [.list (ns.map PyData.int)] = M.ret (.bool true)) (vs : List V) (H : Hp) (Q : VK) (E : XK) (h : spLaw K vs H Q E) : spD K 1 F vs H Q E := by
 obtain ⟨a, ns, rfl, hS, hl, k⟩ := h
 refine ⟨[], [.list (ns.map PyData.int)], rfl, (fun l z => nomatch z), .cons ?_ .nil, ?_⟩
 ·rcases hS with hS | hS
  ·exact .lst hS (fun z => nomatch z) (Reps.ints ns)
  ·exact .lstK hS (Reps.ints ns)
 ·rw [hF ns hl]
  intro v H' s r
  rw [r.bool_inv]
  exact k H'
theorem walk {l : PySem.W.OpenLaw} {q : Program} {loose : List Str} {XP : (Str -> Option Value) -> Heap -> Prop} {YP : World -> Heap -> Prop} {d : DefRec} {K : Params -> PySem.W.Frag} {k : Nat} {F : List D -> M D} {x : Str} (hn : l.most = some 63) (hdf : d.params.defaults = [])
  (hF : ∀ ns : List Int, ns.length <= 63 -> F [.list (ns.map PyData.int)] = M.ret (.bool true)) (hr : Room k callerA)
  (hY : ∀ (w : World) (h : Heap), YP w h -> (K w.params).In h)
  (T : ∀ (w : World) (mg : Str -> Option Value) (fa : Addr) (h : Heap), (K w.params).In h -> h.Ns mainGlobals mg -> mg d.name = some (.ref fa) ->
   ∃ fd : FuncData, (∀ (s : Shared) (u : Value), BindsTo s fd ⟨[u], []⟩ [(x, u)]) /\ ∀ base : Heap, (K w.params).In base -> base.Ns mainGlobals mg -> FnOk l.prog w (K w.params) mg base CX0 k fa fd [x] (spD (K w.params) 1 F)) :
  PySem.W.WalkO q loose XP YP l.row.toRowW d [] (fun f vs => PySem.call f vs) :=
 L2.walk_of (n := 63) (k := k) (x := x) (CX := fun _ => CX0) (sp := fun w => spD (K w.params) 1 F) hn (by decide) hdf hr hY T (fun w H a ns hl _ hS => law_sp hF _ _ _ _ ⟨a, ns, rfl, hS, hl, fun _ => rfl⟩) fun _ _ _ _ _ z => z
end
end DL
namespace DL
open PySem PySem.Spec L2
section
variable {δ δ' : DS} {f g : DS -> M D} {fb gb : DS -> M Bool} {fa : DS -> M (List D)} {gs gt g1 g2 : DS -> M Out} {d x y : D} {b b1 b2 : Bool} {ds xs : List D} {i j : Int} {r : M Out} {o : Out}
theorem a0d {n : Nat} (h : δ[n]? = some (.vl d)) : dVar n δ = M.ret d := by unfold dVar; rw [h]
theorem ev_c : dC d δ = M.ret d := rfl
theorem ev_2 {h : D -> D -> Option D} (h1 : f δ = M.ret x) (h2 : g δ = M.ret y) (h3 : h x y = some d) : d2 h f g δ = M.ret d := by
 unfold d2; rw [h1, a0t, h2, a0t, h3]; rfl
theorem ev_1 {h : D -> Option D} (h1 : f δ = M.ret x) (h3 : h x = some d) : d1 h f δ = M.ret d := by
 unfold d1; rw [h1, a0t, h3]; rfl
theorem o_add : oAdd (.int i) (.int j) = some (.int (i + j)) := rfl
theorem o_sub : oSub (.int i) (.int j) = some (.int (i - j)) := rfl
theorem o_mul (h : bMul i j = true) : oMul (.int i) (.int j) = some (.int (i * j)) := if_pos h
theorem o_div (h : bDiv j = true) : oDiv (.int i) (.int j) = some (.int (i / j)) := if_pos h
theorem o_mod (h : 0 < j) : oMod (.int i) (.int j) = some (.int (i % j)) := if_pos (decide_eq_true h)
theorem o_lt : oLt (.int i) (.int j) = some (.bool (decide (i < j))) := rfl
theorem o_gt : oGt (.int i) (.int j) = some (.bool (decide (j < i))) := rfl
theorem o_ge : oGe (.int i) (.int j) = some (.bool (decide (j <= i))) := rfl
theorem o_max : oMax [.int i, .int j] = some (.int (max i j)) := rfl
theorem o_lenL : oLen [.list ds] = some (.int ds.length) := rfl
theorem o_lenT : oLen [.tuple ds] = some (.int ds.length) := rfl
theorem o_eq : oEq (.int i) (.int j) = some (.bool (decide (i = j))) := by
 show some (PyData.bool (i == j)) = _
 rw [Bool.beq_eq_decide_eq]
theorem o_ne : oNe (.int i) (.int j) = some (.bool (!decide (i = j))) := by
 show some (PyData.bool (!(i == j))) = _
 rw [Bool.beq_eq_decide_eq]
theorem bMul_l (h1 : -18446744073709551616 < i) (h2 : i < 18446744073709551616) : bMul i j = true := decide_eq_true (.inl ⟨h1, h2⟩)
theorem bMul_r (h1 : -18446744073709551616 < j) (h2 : j < 18446744073709551616) : bMul i j = true := decide_eq_true (.inr ⟨h1, h2⟩)
theorem bDiv_of (h1 : 0 < j) (h2 : j < 1267650600228229401496703205376) : bDiv j = true := decide_eq_true ⟨h1, h2⟩
theorem ev_b (h : f δ = M.ret (.bool b)) : dB f δ = M.ret b := by unfold dB; rw [h]; rfl
theorem a1x (h : fb δ = M.ret b) : dNot fb δ = M.ret (!b) := by unfold dNot; rw [h]; rfl
theorem ev_and (h1 : fb δ = M.ret b1) (h2 : gb δ = M.ret b2) : dAnd fb gb δ = M.ret (b1 && b2) := by
 unfold dAnd; rw [h1, a0t, h2]; cases b1 <;> rfl
theorem ev_or (h1 : fb δ = M.ret b1) (h2 : gb δ = M.ret b2) : dOr fb gb δ = M.ret (b1 || b2) := by
 unfold dOr; rw [h1, a0t, h2]; cases b1 <;> rfl
theorem ev_or_f (h1 : fb δ = M.ret false) (h2 : gb δ = M.ret b) : dOr fb gb δ = M.ret b := by unfold dOr; rw [h1, a0t, if_neg Bool.false_ne_true]; exact h2
theorem ev_and_f (h1 : fb δ = M.ret false) : dAnd fb gb δ = M.ret false := by unfold dAnd; rw [h1]; rfl
theorem ev_and_t (h1 : fb δ = M.ret true) (h2 : gb δ = M.ret b) : dAnd fb gb δ = M.ret b := by unfold dAnd; rw [h1, a0t, if_pos rfl]; exact h2
theorem ev_notV (h : f δ = M.ret (.bool b)) : dNotV f δ = M.ret (.bool (!b)) := by unfold dNotV; rw [ev_b h]; rfl
theorem ev_andV (h1 : f δ = M.ret (.bool b1)) (h2 : g δ = M.ret (.bool b2)) : dAndV f g δ = M.ret (.bool (b1 && b2)) := by
 unfold dAndV; rw [ev_b h1, a0t, h2]; cases b1 <;> rfl
theorem ev_orV (h1 : f δ = M.ret (.bool b1)) (h2 : g δ = M.ret (.bool b2)) : dOrV f g δ = M.ret (.bool (b1 || b2)) := by
 unfold dOrV; rw [ev_b h1, a0t, h2]; cases b1 <;> rfl
theorem ev_andV_f (h1 : f δ = M.ret (.bool false)) : dAndV f g δ = M.ret (.bool false) := by unfold dAndV; rw [ev_b h1]; rfl
theorem ev_andV_t (h1 : f δ = M.ret (.bool true)) (h2 : g δ = M.ret d) : dAndV f g δ = M.ret d := by unfold dAndV; rw [ev_b h1, a0t, if_pos rfl]; exact h2
theorem ev_is {T : String} (h : f δ = M.ret d) (hi : noIns d = true := by rfl) : dIs T f δ = M.ret (.bool (isD T d)) := by unfold dIs; rw [h, a0t, if_pos hi]
theorem a0g : dNil δ = M.ret [] := rfl
theorem a0b (h1 : f δ = M.ret x) (h2 : fa δ = M.ret xs) : dCons f fa δ = M.ret (x :: xs) := by unfold dCons; rw [h1, a0t, h2]; rfl
theorem ev_tup (h : fa δ = M.ret ds) (hz : small ds.length = true) : dTup fa δ = M.ret (.tuple ds) := by unfold dTup; rw [h, a0t, if_pos hz]
theorem ev_lst (h : fa δ = M.ret ds) (hz : small ds.length = true) : dLst fa δ = M.ret (.list ds) := by unfold dLst; rw [h, a0t, if_pos hz]
theorem a2l {h : List D -> Option D} (h1 : fa δ = M.ret ds) (h2 : h ds = some d) : dCB h fa δ = M.ret d := by unfold dCB; rw [h1, a0t, h2]; rfl
theorem a0k {F : List D -> M D} (h1 : fa δ = M.ret ds) (h2 : F ds = M.ret d) : dCall (fun ds => noX (F ds)) fa δ = M.ret d := by
 unfold dCall; rw [h1, a0t, h2]; rfl
theorem ev_part (h : f δ = M.ret (.int i)) : dPart f δ = M.ret (some i) := by unfold dPart; rw [h]; rfl
theorem ev_nopart : dNoPart δ = M.ret none := rfl
theorem ev_if (h1 : fb δ = M.ret b) {r : M D} (h2 : (if b = true then f δ else g δ) = r) : dIf fb f g δ = r := by unfold dIf; rw [h1]; exact h2
theorem a0p (h1 : gs δ = M.ret (.nx δ')) (h2 : gt δ' = r) : gSeq gs gt δ = r := by unfold gSeq; rw [h1]; exact h2
theorem ev_seqR (h1 : gs δ = M.ret (.rt d)) : gSeq gs gt δ = M.ret (.rt d) := by unfold gSeq; rw [h1]; rfl
theorem ev_seqIf (h1 : fb δ = M.ret b) (h2 : (if b = true then gSeq g1 gt δ else gSeq g2 gt δ) = r) : gSeq (gIf fb g1 g2) gt δ = r := by
 unfold gSeq gIf; rw [h1, a0t]; unfold gSeq at h2; cases b <;> exact h2
theorem ev_ifS (h1 : fb δ = M.ret b) (h2 : (if b = true then g1 δ else g2 δ) = r) : gIf fb g1 g2 δ = r := by unfold gIf; rw [h1]; exact h2
theorem ev_seqN (h : gt δ = r) : gSeq gNext gt δ = r := h
theorem a0y {n : Nat} (h : f δ = M.ret d) : gAsg f (tgN n) δ = M.ret (.nx (δ.set n (.vl d))) := by unfold gAsg; rw [h]; rfl
theorem a0z (h : f δ = M.ret d) : gRet f δ = M.ret (.rt d) := by unfold gRet; rw [h]; rfl
theorem a0x {n : Nat} (h : gs (startD n ds) = M.ret (.rt d)) : run n gs ds = M.ret d := by unfold run; rw [h]; rfl
theorem ite_t {α : Type} {p : Prop} [Decidable p] {A B r : α} (h : p) (k : A = r) : (if decide p = true then A else B) = r := by rw [if_pos (decide_eq_true h)]; exact k
theorem ite_f {α : Type} {p : Prop} [Decidable p] {A B r : α} (h : ¬ p) (k : B = r) : (if decide p = true then A else B) = r := by rw [if_neg (by rw [decide_eq_false h]; exact Bool.false_ne_true)]; exact k
theorem ite_T {α : Type} {A B r : α} {b : Bool} (h : b = true) (k : A = r) : (if b = true then A else B) = r := by rw [if_pos h]; exact k
theorem ite_F {α : Type} {A B r : α} {b : Bool} (h : b = false) (k : B = r) : (if b = true then A else B) = r := by rw [h, if_neg Bool.false_ne_true]; exact k
theorem ev_body {t : D -> DS -> Option DS} (h1 : t d δ = some δ') (h2 : gs δ' = r) : bodyD t gs d δ = r := by unfold bodyD; rw [h1]; exact h2
theorem ix_in {ds : List D} {i : Int} (h0 : 0 <= i) (h1 : i < ds.length) : ∃ d, d ∈ ds /\ oIx (.list ds) (.int i) = some d := by
 have hl : i.toNat < ds.length := by omega
 refine ⟨ds[i.toNat], List.getElem_mem hl, ?_⟩
 show L2.atI ds i = _
 unfold L2.atI L2.ixN
 rw [if_pos h0, if_pos h1]
 show ds[i.toNat]? = _
 rw [List.getElem?_eq_getElem hl]
end
end DL
namespace L2
open PySem PySem.Spec PyProof.Rows
section
variable {X : Cx}
end
end L2

namespace DL
open PySem PySem.Spec PyProof.Rows L2
def tD (K : PySem.W.Frag) (G : XD -> Hp -> Prop) (f : DS -> M D) : TE := fun σ H Q => ∃ Hr δ O, Ev K Hr O H σ δ /\ ok (GS G Hr) (f δ) (fun d => ∀ v H', Same H H' -> Rep K O H' v d -> Q v H')
theorem PD.can {X : Cx} {G : XD -> Hp -> Prop} {e : Expr} {f : DS -> M D} (h : PD X G e f) : PE X e (tD X.K G f) := by
 obtain ⟨t, p, h⟩ := h
 intro pins s σ H Q I hw
 obtain ⟨Hr, δ, O, E, k⟩ := hw
 exact p pins s σ H Q I (h δ O σ H Q E k)
section
variable {K : PySem.W.Frag} {G : XD -> Prop} {f : DS -> M D}
def Kp (l : Addr) (H H' : Hp) : Prop := ∀ b o, b ≠ l -> H b = some o -> H' b = some o
theorem Kp.to {O : List Addr} {H H' : Hp} {l : Addr} (k : Kp l H H') (hl : H l = none) : To O (l :: O) H H' := by
 have rd : ∀ {b : Addr} {o : HO}, Rd H b o -> Rd H' b o := fun {b o} h => by
  have hb := Rd.ne_new h hl
  rcases h with h | ⟨u, h⟩
  ·exact .inl (k _ _ hb h)
  ·exact .inr ⟨u, k _ _ hb h⟩
 have no : ∀ {b : Addr} {o : HO}, b ∉ O -> Rd H b o -> b ∉ l :: O := fun {b o} n h z => by
  rcases List.mem_cons.mp z with z | z
  ·exact Rd.ne_new h hl z
  ·exact n z
 exact ⟨fun b xs h => rd h, fun b xs n h => ⟨no n h, rd h⟩, fun b xs n h => ⟨no n h, rd h⟩, fun b C dx fs n h => ⟨no n (.inl h), k _ _ (a0q h hl) h⟩⟩
theorem Kp.same {H H' : Hp} {l : Addr} (k : Kp l H H') (hl : H l = none) : Same H H' := fun b o e => k b o (a0q e hl) e
end
section
variable {X : Cx} {G : XD -> Hp -> Prop} {fi f : DS -> M D}
def bools : List D -> Option (List Bool)
 | [] => some []
 | .bool b :: r => (bools r).map (b :: ·)
 | _ => none
theorem bools_get : ∀ {ds : List D} {bs : List Bool}, bools ds = some bs -> ds = bs.map PyData.bool
 | [], bs, h => by cases h; rfl
 | .bool b :: r, bs, h => by
  have h : (bools r).map (b :: ·) = some bs := h
  cases e : bools r with
  | none => rw [e] at h; cases h
  | some cs => rw [e] at h; cases h; rw [bools_get e]; rfl
theorem reps_bools {K : PySem.W.Frag} {O : List Addr} {H : Hp} : ∀ {bs : List Bool} {vs : List V}, Reps K O H vs (bs.map PyData.bool) -> vs = bs.map V.bl
 | [], _, .nil => rfl
 | b :: bs, _, .cons r rs => by rw [r.bool_inv, reps_bools rs]; rfl
theorem call_allL (hc : X.calm = true) : CallR X (.builtin "all") (fun xs H Q => ∃ (p : Addr) (bs : List Bool), xs = [.ref p] /\ SqL X.K H p (bs.map V.bl) /\ Q (.bl (bs.all id)) H) := by
 intro pins s σ H xs us Q I r h
 obtain ⟨l, bs, rfl, hq, q⟩ := h
 obtain ⟨u, rfl, rx⟩ := vals1 r
 cases rx
 obtain ⟨its, rv, pl, hz⟩ := I.list hq
 have hl := pl.isList
 have hlt : l < s.heap.objs.size := by obtain ⟨_, e, _⟩ := hl; exact Heap.lt_size e
 have hlen : its.length = bs.length := by rw [<- rv.length, List.length_map]
 refine call_all_walk (wpAny_pyIter_list hl ?_)
 refine ⟨s.heap.objs.size, [s.heap.objs.size, l], [s.heap.objs.size], its.toArray.size, _, _, fun i => (bs[i]?).getD true, rfl, Walks.list (A := X.A.in1) (I.ok.hd hc) _ l (Nat.ne_of_lt hlt) its.toArray,
  ⟨⟨_, Heap.get?_push_size _ rfl, rfl, rfl⟩, hl.push _⟩, fun i v s' Q' E' hP hQ => ?_, fun h' tk hk => ?_⟩
 ·have hv : its[i]? = some v := by simpa using hP
  have hi : i < bs.length := by rw [<- hlen]; exact (List.getElem?_eq_some_iff.mp hv).1
  obtain ⟨w', e1, e2⟩ := rv.get (i := i) (x := V.bl bs[i]) (by rw [List.getElem?_map, List.getElem?_eq_getElem hi]; rfl)
  rw [hv] at e1
  cases e1
  cases (show v = Value.bool bs[i] from e2)
  dsimp only at hQ
  rw [List.getElem?_eq_getElem hi] at hQ
  exact wpAny_truthy_bool hQ
 ·have e : ((List.range its.toArray.size).all fun i => (bs[i]?).getD true) = bs.all id := by
   rw [List.size_toArray, hlen]; exact LSm.range_all bs
  rw [e]
  exact ⟨.bl _, H, I.kept fun b o e => LSm.kept_iter hk b o e, rfl, q⟩
def oAll : List D -> Option D
 | [.list ds] => (bools ds).map fun bs => .bool (bs.all id)
 | _ => none
theorem dcall_all (hc : X.calm = true) : DCall X (.builtin "all") oAll := by
 refine ⟨_, call_allL hc, fun O H ds d vs Q oo rs e k => ?_⟩
 unfold oAll at e
 split at e
 ·rename_i es
  cases e1 : bools es with
  | none => rw [e1] at e; cases e
  | some bs =>
   rw [e1] at e
   cases e
   obtain ⟨v, rfl, r⟩ := reps1 rs
   obtain ⟨p, xs, rfl, h1, rx⟩ := r.lst_inv
   rw [bools_get e1] at rx
   rw [reps_bools rx] at h1
   exact ⟨p, bs, rfl, h1, k _ H (Same.refl H) (.bl _)⟩
 ·cases e
end
section
variable {δ : DS} {fi f : DS -> M D} {x y : D} {ds ys : List D}
end
end DL
namespace L2
open PySem PySem.Spec PyProof.Rows
section
variable {X : Cx}
end
end L2

namespace DL
open PySem PySem.Spec PyProof.Rows L2
def slotAt (δ : DS) (j : Nat) : Sl := match δ[j]? with
 | some (.vl d) => .vl d
 | _ => .un
section
variable {K : PySem.W.Frag} {G : XD -> Prop} {f : DS -> M D}
end
section
variable {X : Cx} {G : XD -> Hp -> Prop} {fi f : DS -> M D}
end
section
variable {δ : DS} {fi f : DS -> M D} {x : D} {ds ys : List D} {js : List Nat}
end
end DL
namespace DL
open PySem PySem.Spec PyProof.Rows L2
section
variable {X : Cx} {G : XD -> Hp -> Prop} {a b c e : Expr} {f : DS -> M D} {pos pos' : Pos} {sts : List Stmt} {gs : DS -> M Out}
variable {K : PySem.W.Frag} {Hr : Hp} {R0 : List Addr} {P0 : Addr -> Prop} {H0 H H' : Hp} {O : List Addr} {σ : St} {δ : DS}
theorem SlOk.to {O' : List Addr} {o : Option (Option V)} {s : Sl} (t : To O O' H H') (hd : ∀ l kvs, l ∈ O -> H l = some (.dK kvs) -> l ∈ O' /\ H' l = some (.dK kvs)) (hs : ∀ l xs, l ∈ O -> H l = some (.lst xs) -> o = some (some (.ref l)) -> (∃ ds, s = .ow ds) -> l ∈ O' /\ H' l = some (.lst xs)) (h : SlOk K O H o s) : SlOk K O' H' o s := by
 cases s with
 | un => trivial
 | ex a => exact h
 | vl d =>
  obtain ⟨v, h1, r⟩ := h
  exact ⟨v, h1, r.to t⟩
 | ow ds =>
  obtain ⟨l, xs, h1, h2, h3, r⟩ := h
  obtain ⟨q1, q2⟩ := hs l xs h2 h3 h1 ⟨ds, rfl⟩
  exact ⟨l, xs, h1, q1, q2, r.to t⟩
 | od es =>
  obtain ⟨l, kvs, h1, h2, h3, hk, r⟩ := h
  obtain ⟨q1, q2⟩ := hd l kvs h2 h3
  exact ⟨l, kvs, h1, q1, q2, hk, r.to t⟩
theorem hd_new {l : Addr} {o : HO} (hl : H l = none) : ∀ a kvs, a ∈ O -> H a = some (.dK kvs) -> a ∈ l :: O /\ upd H l o a = some (.dK kvs) := fun a kvs h1 h2 => ⟨List.mem_cons_of_mem _ h1, by rw [upd_ne (a0q h2 hl)]; exact h2⟩
theorem hd_set {l : Addr} {xs : List V} {o : HO} (hl : H l = some (.lst xs)) : ∀ a kvs, a ∈ O -> H a = some (.dK kvs) -> a ∈ O /\ upd H l o a = some (.dK kvs) := fun a kvs h1 h2 => ⟨h1, by rw [upd_ne (ne_of h2 hl (by intro z; cases z))]; exact h2⟩
theorem EI.app {i : Nat} {l : Addr} {xs : List V} {ds : List D} {v : V} {d : D} (E : EI K Hr R0 P0 H0 O H σ δ) (hd : δ[i]? = some (.ow ds)) (hσ : σ[i]? = some (some (.ref l))) (hl : H l = some (.lst xs)) (rx : Reps K O H xs ds) (r : Rep K O H v d) :
  EI K Hr R0 P0 H0 O (upd H l (.lst (xs ++ [v]))) σ (δ.set i (.ow (ds ++ [d]))) := by
 obtain ⟨l', xs', q1, lO, q3, _⟩ := E.ev.at_ i _ hd
 rw [hσ] at q1
 cases q1
 have tO : To O O H (upd H l (.lst (xs ++ [v]))) := To.set hl lO
 refine ⟨⟨fun b o h => ?_, fun a ha => ?_, by rw [List.length_set]; exact E.ev.len, fun j s h => ?_, fun j k a es es' hjk h1 h2 h3 => ?_⟩, E.omr, fun b o n h => ?_, E.om, fun j es a h1 ho h2 => ?_, E.sub⟩
 ·have q := E.ev.root b o h
  have hne : b ≠ l := fun z => by
   subst z
   rcases E.omr b lO with w | w
   ·exact E.nr i ds b hd hσ w
   ·rw [h] at w; cases w
  rw [upd_ne hne]
  exact q
 ·by_cases hb : a = l
  ·rw [hb]; exact .lst a0w
  ·exact (E.ev.oo a ha).upd_ne hb
 ·rw [a1u] at h
  by_cases hij : i = j
  ·rw [if_pos hij] at h
   split at h
   ·cases h
    rw [<- hij, hσ]
    exact ⟨l, _, rfl, lO, a0w, (rx.to tO).append (.cons (r.to tO) .nil)⟩
   ·cases h
  ·rw [if_neg hij] at h
   refine (E.ev.at_ j s h).to tO (hd_set hl) fun a ys h1 h2 h3 h4 => ⟨h1, ?_⟩
   obtain ⟨es, rfl⟩ := h4
   have hne : a ≠ l := fun z => by
    subst z
    exact E.ev.dis i j a ds es hij hd h hσ h3
   rw [upd_ne hne]
   exact h2
 ·have old : ∀ (j : Nat) (es : List D), (δ.set i (.ow (ds ++ [d])))[j]? = some (.ow es) -> ∃ es', δ[j]? = some (.ow es') := fun j es h => by
   rw [a1u] at h
   by_cases hij : i = j
   ·rw [<- hij]; exact ⟨ds, hd⟩
   ·rw [if_neg hij] at h; exact ⟨es, h⟩
  obtain ⟨e1, h1⟩ := old j es h1
  obtain ⟨e2, h2⟩ := old k es' h2
  exact E.ev.dis j k a e1 e2 hjk h1 h2 h3
 ·have q := E.keep b o n h
  have hne : b ≠ l := fun z => by
   subst z
   rcases E.om b lO with w | w | w
   ·exact E.nr i ds b hd hσ w
   ·exact n w
   ·rw [h] at w; cases w
  rw [upd_ne hne]
  exact q
 ·rw [a1u] at h1
  by_cases hij : i = j
  ·exact E.nr i ds a hd (by rw [hij]; exact h2)
  ·rw [if_neg hij] at h1
   exact E.nr1 j es a h1 ho h2
def gApp (i : Nat) (f : DS -> M D) : DS -> M Out := fun δ => match δ[i]? with
 | some (.ow ds) => (f δ).thn fun d => if small (ds.length + 1) then M.ret (.nx (δ.set i (.ow (ds ++ [d])))) else none
 | _ => none
theorem small_lt {n : Nat} (h : small (n + 1) = true) : n < sizeLine := by
 have := a1e h
 omega
theorem pd_app {i : Nat} {x : Str} {xp apos cpos : Pos} (hv : PE X (.Name x xp) (tVar i)) (he : PD X G e f)
  (hst : starEach [e] X.env = (false, eval e X.env) :: starEach [] X.env := by rfl)
  (hbase : attributeBase (.Name x xp) "append" X.env (eval (.Name x xp) X.env) = eval (.Name x xp) X.env := by rfl)
  (hfew : ((backTo cpos (starEach [e] X.env)).all (fun x => !x.1) && (backToKw cpos (keywordEach [] X.env)).all (fun x => x.1.isSome)
   && decide ([e].length + ([] : List Keyword).length + (if ([] : List Keyword).isEmpty then 0 else 1) < 30)) = true := by rfl)
  (hline : (apos.endLine == cpos.line) = true := by rfl) (hplain : (backTo cpos (starEach [] X.env)).any (·.1) = false := by rfl)
  (hs : swapsWith (.Call (.Attribute (.Name x xp) "append" apos) [e] [] cpos) none pos.line X.env = pure false := by rfl) :
  PDS X G (.Expr (.Call (.Attribute (.Name x xp) "append" apos) [e] [] cpos) pos) (gApp i f) := by
 obtain ⟨t, p, he⟩ := he
 refine ⟨_, ps_expr (pe_bm PySem.F.plainAttrs_list PySem.F.slot_list_append PySem.F.type_list_append mt_append hv (pa_cons p pa_nil hst) hbase hfew hline hst hplain) hs, fun R0 P0 H0 δ O σ H Dn E k => ?_⟩
 unfold gApp at k
 split at k
 ·rename_i ds hd
  obtain ⟨l, xs, q1, q2, q3, q4⟩ := E.ev.at_ i _ hd
  refine ⟨.ref l, q1, .inl ⟨rfl, xs, .inl (.inl q3)⟩, ?_⟩
  refine he δ O σ H _ E.ev (a0j (a0o k) fun d z v H1 s1 r => ?_)
  by_cases hz : small (ds.length + 1) = true
  ·rw [if_pos hz] at z
   refine ⟨l, xs, v, rfl, rfl, s1 _ _ q3, by rw [q4.length]; exact small_lt hz, ?_⟩
   exact z O σ _ ((E.same s1).app hd q1 (s1 _ _ q3) (q4.same s1) r)
  ·rw [if_neg hz] at z
   exact z.elim
 ·exact k.elim
def gRetO (i : Nat) : DS -> M Out := fun δ => match δ[i]? with
 | some (.ow ds) => M.ret (.rt (.list ds))
 | _ => none
theorem pd_retO {i : Nat} (he : PE X e (tVar i)) : PDS X G (.Return (some e) pos) (gRetO i) := by
 refine ⟨_, ps_ret he, fun R0 P0 H0 δ O σ H Dn E k => ?_⟩
 unfold gRetO at k
 split at k
 ·rename_i ds hd
  obtain ⟨l, xs, q1, q2, q3, q4⟩ := E.ev.at_ i _ hd
  exact ⟨.ref l, q1, k _ H E.keep (.lst (.inl q3) (E.nr i ds l hd q1) (q4.to (.less E.sub)))⟩
 ·exact k.elim
def frz (i : Nat) (δ : DS) : DS := match δ[i]? with
 | some (.ow ds) => δ.set i (.vl (.list ds))
 | _ => δ
theorem EI.frz {i : Nat} (E : EI K Hr R0 P0 H0 O H σ δ) : ∃ O', EI K Hr R0 P0 H0 O' H σ (DL.frz i δ) := by
 unfold DL.frz
 split
 ·rename_i ds hd
  obtain ⟨l, xs, q1, q2, q3, q4⟩ := E.ev.at_ i _ hd
  have nr := E.nr i ds l hd q1
  refine ⟨O.filter (fun a => decide (a ≠ l)), ⟨E.ev.root, fun a ha => E.ev.oo a (List.mem_filter.mp ha).1, by rw [List.length_set]; exact E.ev.len, fun j s h => ?_, fun j k a es es' hjk h1 h2 h3 => ?_⟩, fun a ha => E.omr a (List.mem_filter.mp ha).1, E.keep, fun a ha => E.om a (List.mem_filter.mp ha).1, fun j es a h1 ho h2 => ?_, fun a ha => ?_⟩
  ·have tl : To O (O.filter (fun a => decide (a ≠ l))) H H := To.less fun b hb => (List.mem_filter.mp hb).1
   rw [a1u] at h
   by_cases hij : i = j
   ·rw [if_pos hij] at h
    split at h
    ·cases h
     rw [<- hij, q1]
     exact ⟨.ref l, rfl, .lst (.inl q3) (fun z => absurd rfl (of_decide_eq_true (List.mem_filter.mp z).2)) (q4.to tl)⟩
    ·cases h
   ·rw [if_neg hij] at h
    refine (E.ev.at_ j s h).to tl (fun a kvs h1 h2 => ⟨List.mem_filter.mpr ⟨h1, decide_eq_true (ne_of h2 q3 (by intro z; cases z))⟩, h2⟩) fun a ys h1 h2 h3 h4 => ⟨List.mem_filter.mpr ⟨h1, decide_eq_true fun z => ?_⟩, h2⟩
    obtain ⟨es, rfl⟩ := h4
    subst z
    exact E.ev.dis i j a ds es hij hd h q1 h3
  ·have old : ∀ (j : Nat) (es : List D), (δ.set i (.vl (.list ds)))[j]? = some (.ow es) -> δ[j]? = some (.ow es) := fun j es h => by
    rw [a1u] at h
    by_cases hij : i = j
    ·rw [if_pos hij] at h
     split at h <;> cases h
    ·rw [if_neg hij] at h; exact h
   exact E.ev.dis j k a es es' hjk (old j es h1) (old k es' h2) h3
  ·rw [a1u] at h1
   by_cases hij : i = j
   ·rw [if_pos hij] at h1
    split at h1
    ·cases h1; exact ho.elim
    ·cases h1
   ·rw [if_neg hij] at h1
    exact E.nr1 j es a h1 ho h2
  ·exact List.mem_filter.mpr ⟨E.sub a ha, decide_eq_true fun z => nr (z ▸ ha)⟩
 ·exact ⟨O, E⟩
def gFrz (i : Nat) (g : DS -> M Out) : DS -> M Out := fun δ => g (frz i δ)
theorem pds_frz (i : Nat) (h : PDSs X G sts gs) : PDSs X G sts (gFrz i gs) := by
 obtain ⟨t, p, h⟩ := h
 refine ⟨t, p, fun R0 P0 H0 δ O σ H Dn E k => ?_⟩
 obtain ⟨O', E'⟩ := E.frz (i := i)
 exact h R0 P0 H0 (frz i δ) O' σ H Dn E' k
end
def intsOf : List D -> Option (List Int)
 | [] => some []
 | .int i :: r => (intsOf r).map (i :: ·)
 | _ => none
def oLtD : D -> D -> Option D
 | .int i, .int j => some (.bool (decide (i < j)))
 | .tuple xs, .tuple ys => (intsOf xs).bind fun ns => (intsOf ys).map fun ms => .bool (HT.lexLt ns ms)
 | _, _ => none
theorem o_ltD {i j : Int} : oLtD (.int i) (.int j) = some (.bool (decide (i < j))) := rfl
theorem hhas_of {names : List (Str × NameKind)} {cl : List (Str × Addr)} (h : names.all (fun y => !(y.2 == .cell || y.2 == .free) || (cl.lookup y.1).isSome) = true) : ∀ y ∈ names, (y.2 = .cell \/ y.2 = .free) -> ∃ c, cl.lookup y.1 = some c := fun y hy hk => by
 have q := List.all_eq_true.mp h y hy
 have k : (y.2 == NameKind.cell || y.2 == NameKind.free) = true := by
  rcases hk with e | e <;> rw [e] <;> rfl
 rw [k] at q
 exact Option.isSome_iff_exists.mp (by simpa using q)
section
variable {X : Cx} {scope : Scope} {cl : List (Str × Addr)}
theorem fr_nil : ∀ p ∈ ([] : List (Nat × Str)), X.N[p.1]? = some p.2 /\ X.env.kindOf p.2 = some .cell /\ (compEnvC scope cl 0 X.env).kindOf p.2 = some .cell /\ ∃ c, cl.lookup p.2 = some c := fun p hp => nomatch hp
theorem fr_cons {j : Nat} {y : Str} {fr : List (Nat × Str)} (h1 : X.N[j]? = some y) (h2 : X.env.kindOf y = some .cell) (h3 : (compEnvC scope cl 0 X.env).kindOf y = some .cell) (h4 : ∃ c, cl.lookup y = some c)
  (hr : ∀ p ∈ fr, X.N[p.1]? = some p.2 /\ X.env.kindOf p.2 = some .cell /\ (compEnvC scope cl 0 X.env).kindOf p.2 = some .cell /\ ∃ c, cl.lookup p.2 = some c) :
  ∀ p ∈ (j, y) :: fr, X.N[p.1]? = some p.2 /\ X.env.kindOf p.2 = some .cell /\ (compEnvC scope cl 0 X.env).kindOf p.2 = some .cell /\ ∃ c, cl.lookup p.2 = some c := fun p hp => by
 rcases List.mem_cons.mp hp with rfl | hp
 ·exact ⟨h1, h2, h3, h4⟩
 ·exact hr p hp
end
section
variable {δ δ' : DS} {f : DS -> M D} {d : D} {ds : List D} {r : M Out} {g : DS -> M Out}
theorem ev_app {i : Nat} (h : δ[i]? = some (.ow ds)) (h1 : f δ = M.ret d) (hz : small (ds.length + 1) = true) : gApp i f δ = M.ret (.nx (δ.set i (.ow (ds ++ [d])))) := by
 unfold gApp; rw [h, h1]; show (if small (ds.length + 1) = true then _ else _) = _; rw [if_pos hz]
theorem ev_frz {i : Nat} (h : g (frz i δ) = r) : gFrz i g δ = r := h
theorem mem_rngD {lo : Int} {n : Nat} {d : D} (h : d ∈ rngD lo n) : ∃ k : Int, d = .int k /\ lo <= k /\ k < lo + n := by
 obtain ⟨i, hi, e⟩ := List.mem_map.mp h
 have := List.mem_range.mp hi
 exact ⟨lo + i, e.symm, by omega, by omega⟩
theorem ix_nat {ds : List D} {i : Int} {d : D} (h0 : 0 <= i) (h : ds[i.toNat]? = some d) : oIx (.list ds) (.int i) = some d := by
 have e := L2.atI_nat h
 rw [Int.toNat_of_nonneg h0] at e
 exact e
theorem a1a {n : Nat} (h : n <= 16000000) : small n = true := decide_eq_true h
end
end DL
namespace XF
open PySem PySem.Spec PyProof.Rows
def DictIs (h : Heap) (e : Addr) (d : Option Addr) : Prop := ∃ o vs, h.get? e = some o /\ o.dict = d /\ o.data = .fields vs /\ (d = none -> vs[2]? = some .none)
theorem mf_dict (o : Obj) (f : Array Value -> Array Value) : (Obj.mapFields f o).dict = o.dict := by
 unfold Obj.mapFields
 split <;> rfl
section
variable {M : Model} {A : Around} {E : Value -> Shared -> Prop} {s : Shared}
theorem entry {base : Heap} {env : Env} {outer : List Env} {L e : Addr} {oe : Obj} {vs : Array Value} {head a0 : Value} {hadNext : Bool} {Q : Unit -> Shared -> Prop}
  (hfr : A.frames = some (env :: outer)) (hl : s.heap.FunFrames base (env :: outer)) (hf : env.frame = some L)
  (he : s.heap.get? e = some oe) (hkb : base.StaysIn s.heap) (hen : base.get? e = none) (hd : oe.data = .fields vs) (hsz : 1 < vs.size) (h0 : vs[0]? = some a0) (h2 : oe.dict = none -> vs[2]? = some .none)
  (h : ∀ h', Heap.NotedW base (env :: outer) e oe.cls a0 (rawInt L) s.heap h' -> DictIs h' e oe.dict -> Q () { s with heap := h' }) :
  wpAny M A (do let a <- frameOf env; let pl <- entryPlaceOf L hadNext; let b <- EntryCells.newEntry head a .none (rawInt L) .none pl; setField (.ref e) 1 b) Q E s := by
 have off : e ∉ (env :: outer).filterMap (·.frame) := fun z => by
  obtain ⟨_, o, q, n⟩ := hl.mem z
  rw [he] at q; cases q; exact n vs hd
 refine wpAny_bind (wpAny_frameOf_fun hfr hl hf fun g sl => wpAny_bind (wpAny_entryPlaceOf fun pl hpl => ?_))
 unfold EntryCells.newEntry newFields
 refine wpAny_bind (wpAny_newObj_type ?_ (hpl.sizeOk5 _ _ _ _ _))
 generalize hT : ({ cls := .type "traceback", dict := none, data := .fields ([head, .ref L, .none, rawInt L, .none] ++ (if pl.isEmpty then List.replicate 6 Value.none else pl)).toArray } : Obj) = oT
 have eg : g.get? e = some oe := (sl.2.1 e off).trans he
 have ep := Heap.get?_push_of_some (h := g) oT eg
 have kb : base.StaysIn g := fun b o q => (sl.2.1 b fun z => by rw [(hl.mem z).1] at q; cases q).trans (hkb b o q)
 refine wpAny_setField ep hd hsz (h _ ?_ ?_)
 ·have ne : g.objs.size ≠ e := Nat.ne_of_gt (Heap.lt_size eg)
  have fd := Obj.data_mapFields hd (·.setIfInBounds 1 (Value.ref g.objs.size))
  have e3 := Heap.get?_update_self (Obj.mapFields (·.setIfInBounds 1 (Value.ref g.objs.size))) ep (Obj.isFreed_of_fields fd)
  have keep : ∀ {b : Addr} {o : Obj}, b ≠ e -> g.get? b = some o -> ((g.push oT).update e (Obj.mapFields (·.setIfInBounds 1 (Value.ref g.objs.size)))).get? b = some o := fun {b o} n q => by
   rw [Heap.get?_update_other _ _ (Ne.symm n)]
   exact Heap.get?_push_of_some _ q
  have nr : ∀ {b : Addr} {o : Obj}, s.heap.get? b = some o -> (∀ vs, o.data ≠ .fields vs) -> b ≠ e := fun {b o} q n z => by
   rw [z, he] at q; cases q; exact n vs hd
  have eT : ((g.push oT).update e (Obj.mapFields (·.setIfInBounds 1 (Value.ref g.objs.size)))).get? g.objs.size = some oT :=
   (Heap.get?_update_other _ _ (Ne.symm ne)).trans (Heap.get?_push_size g (by rw [<- hT]; rfl))
  refine ⟨fun b o q => keep (fun z => by rw [z, hen] at q; cases q) (kb b o q), hl.of_keeps fun b o q n => ?_, ?_, fun b o q n => ?_⟩
  ·obtain ⟨sl', z⟩ := sl.2.2 b o q
   exact ⟨_, keep (nr q n) z, rfl⟩
  ·refine ⟨_, _, g.objs.size, oT, ([head, .ref L, .none, rawInt L, .none] ++ (if pl.isEmpty then List.replicate 6 Value.none else pl)).toArray, e3, ⟨Obj.cls_mapFields _ _, by rw [Array.getElem?_setIfInBounds_ne (by decide)]; exact h0⟩, fd, by simp [hsz], kb.fresh, ne, eT, by rw [<- hT], ?_⟩
   first
    | (simp; done)
    | (rcases hpl with rfl | ⟨_, _, _, _, _, _, _, rfl⟩ <;> simp)
  ·obtain ⟨sl', z⟩ := sl.2.2 b o q
   exact ⟨sl', keep (nr q n) z⟩
 ·exact ⟨_, _, Heap.get?_update_self _ ep (Obj.isFreed_of_fields (Obj.data_mapFields hd _)), mf_dict _ _, Obj.data_mapFields hd _, fun z => by rw [Array.getElem?_setIfInBounds_ne (by decide)]; exact h2 z⟩
theorem note0 {base : Heap} {env : Env} {outer : List Env} {L e : Addr} {oe : Obj} {vs : Array Value} {a0 : Value} {Q : Unit -> Shared -> Prop}
  (hfr : A.frames = some (env :: outer)) (hl : s.heap.FunFrames base (env :: outer)) (hf : env.frame = some L)
  (he : s.heap.get? e = some oe) (hkb : base.StaysIn s.heap) (hen : base.get? e = none) (hd : oe.data = .fields vs) (h1 : vs[1]? = some .none) (h0 : vs[0]? = some a0) (h2 : oe.dict = none -> vs[2]? = some .none)
  (h : ∀ h', Heap.NotedW base (env :: outer) e oe.cls a0 (rawInt L) s.heap h' -> DictIs h' e oe.dict -> Q () { s with heap := h' }) : wpAny M A (noteFrame (.ref e) env) Q E s := by
 unfold noteFrame
 simp only [hf]
 refine wpAny_bind (wpAny_field he hd h1 ?_)
 rw [if_neg (by decide)]
 exact entry hfr hl hf he hkb hen hd (Array.getElem?_eq_some_iff.mp h1).1 h0 h2 h
def FlyF (base : Heap) (l : List Env) (e : Addr) (cls a0 fl : Value) (h : Heap) : Prop := base.StaysIn h /\ base.get? e = none /\ h.FunFrames base l /\ h.TracedAtW base e cls a0 fl
theorem FlyF.first {base h : Heap} {l : List Env} {e : Addr} {cls a0 fl : Value} (x : FlyF base l e cls a0 fl h) : ∃ oe vs, h.get? e = some oe /\ oe.cls = cls /\ oe.data = .fields vs /\ vs[0]? = some a0 :=
 let ⟨_, _, _, oe, vs, _, _, _, he, hc, hd, _⟩ := x; ⟨oe, vs, he, hc.1, hd, hc.2⟩
theorem note1 {base : Heap} {env : Env} {outer : List Env} {L e : Addr} {cls a0 fl : Value} {d : Option Addr} {Q : Unit -> Shared -> Prop}
  (hfr : A.frames = some (env :: outer)) (hl : s.heap.FunFrames base (env :: outer)) (hf : env.frame = some L) (ht : s.heap.TracedAtW base e cls a0 fl) (dd : DictIs s.heap e d) (hkb : base.StaysIn s.heap) (hen : base.get? e = none)
  (h : ∀ h', Heap.NotedW base (env :: outer) e cls a0 (rawInt L) s.heap h' -> DictIs h' e d -> Q () { s with heap := h' }) : wpAny M A (noteFrame (.ref e) env) Q E s := by
 obtain ⟨oe, vs, T, oT, ts, he, ⟨rfl, h0⟩, hd, h1, hnT, hTe, hT, hdT, h3⟩ := id ht
 obtain ⟨o2, vs2, he2, rfl, hd2, hc2⟩ := id dd
 rw [he] at he2; cases he2
 rw [hd] at hd2; cases hd2
 unfold noteFrame
 simp only [hf]
 refine wpAny_bind (wpAny_field he hd h1 ?_)
 rw [if_pos (show (Value.ref T != Value.none) = true from by simp)]
 refine wpAny_bind (wpAny_field hT hdT h3 ?_)
 by_cases hfl : (fl == rawInt L) = true
 ·rw [if_pos hfl]
  obtain rfl : fl = rawInt L := beq_iff_eq.mp hfl
  exact wpAny_pure (h s.heap ⟨hkb, hl, ht, fun b o q _ => ⟨o.slots, q⟩⟩ dd)
 rw [if_neg hfl]
 refine wpAny_bind (wpAny_setField hT hdT (Array.getElem?_eq_some_iff.mp h3).1 ?_)
 have ot : ∀ {b : Addr}, b ≠ T -> (s.heap.update T (Obj.mapFields (·.setIfInBounds 3 Value.none))).get? b = s.heap.get? b := fun {b} n => Heap.get?_update_other _ _ (Ne.symm n)
 have nr : ∀ {b : Addr} {o : Obj}, s.heap.get? b = some o -> (∀ vs, o.data ≠ .fields vs) -> b ≠ T := fun {b o} q n z => by
  rw [z, hT] at q; cases q; exact n ts hdT
 exact entry hfr (hl.of_keeps fun b o q n => ⟨o, (ot (nr q n)).trans q, rfl⟩) hf ((ot (Ne.symm hTe)).trans he)
  (fun b o q => (ot fun z => by rw [z, hnT] at q; cases q).trans (hkb b o q)) hen hd (Array.getElem?_eq_some_iff.mp h1).1 h0 hc2
  fun h' ⟨x1, x2, x3, x4⟩ y => h h' ⟨x1, x2, x3, fun b o q n => x4 b o ((ot (nr q n)).trans q) n⟩ y
theorem flight {base : Heap} {l : List Env} {e : Addr} {cls a0 fl : Value} {d fr : Option Addr} {Q : Unit -> Shared -> Prop} (F : FlyF base l e cls a0 fl s.heap) (dd : DictIs s.heap e d)
  (h : ∀ h', FlyF base l e cls a0 (fr.elim Value.none fun f => rawInt f) h' -> DictIs h' e d -> s.heap.UpToSlots h' -> Q () { s with heap := h' }) : wpAny M A (setFlight (.ref e) fr) Q E s := by
 obtain ⟨hkb, hen, hl, oe, vs, T, oT, ts, he, hc, hd, h1, hnT, hTe, hT, hdT, h3⟩ := F
 obtain ⟨o2, vs2, he2, rfl, hd2, hc2⟩ := dd
 rw [he] at he2; cases he2
 rw [hd] at hd2; cases hd2
 have z3 : 3 < ts.size := (Array.getElem?_eq_some_iff.mp h3).1
 have ot : ∀ {b : Addr}, b ≠ T -> (s.heap.update T (Obj.mapFields (·.setIfInBounds 3 (fr.elim Value.none fun f => rawInt f)))).get? b = s.heap.get? b := fun {b} n => Heap.get?_update_other _ _ (Ne.symm n)
 have nr : ∀ {b : Addr} {o : Obj}, s.heap.get? b = some o -> (∀ vs, o.data ≠ .fields vs) -> b ≠ T := fun {b o} q n z => by
  rw [z, hT] at q; cases q; exact n ts hdT
 unfold setFlight
 refine wpAny_bind (wpAny_field he hd h1 ?_)
 rw [if_pos (show (Value.ref T != Value.none) = true from by simp)]
 refine wpAny_setField hT hdT z3 (h _ ⟨fun b o q => (ot fun z => by rw [z, hnT] at q; cases q).trans (hkb b o q), hen, hl.of_keeps fun b o q n => ⟨o, (ot (nr q n)).trans q, rfl⟩, ?_⟩ ⟨oe, vs, (ot (Ne.symm hTe)).trans he, rfl, hd, hc2⟩ fun b o q n => ⟨o.slots, (ot (nr q n)).trans q⟩)
 exact ⟨oe, vs, T, _, _, (ot (Ne.symm hTe)).trans he, hc, hd, h1, hnT, hTe, Heap.get?_update_self _ hT (Obj.isFreed_of_fields (Obj.data_mapFields hdT _)), Obj.data_mapFields hdT _, by simp [z3]⟩
theorem leaves_made {base : Heap} {env : Env} {outer : List Env} {L e : Addr} {oe : Obj} {vs : Array Value} {a0 : Value} {Q : Unit -> Shared -> Prop}
  (hfr : A.frames = some (env :: outer)) (hf : env.frame = some L) (hkb : base.StaysIn s.heap) (hl : s.heap.FunFrames base (env :: outer))
  (he : s.heap.get? e = some oe) (hen : base.get? e = none) (hd : oe.data = .fields vs) (h1 : vs[1]? = some .none) (h0 : vs[0]? = some a0) (h2 : oe.dict = none -> vs[2]? = some .none)
  (hQ : ∀ h', FlyF base outer e oe.cls a0 .none h' -> DictIs h' e oe.dict -> s.heap.UpToSlots h' -> Q () { s with heap := h' }) : wpAny M A (leaving env (.ref e)) Q E s := by
 unfold leaving
 refine wpAny_bind (note0 hfr hl hf he hkb hen hd h1 h0 h2 fun h1 N dd => ?_)
 obtain ⟨n1, n2, n3, n4⟩ := N
 exact flight (fr := none) (s := { s with heap := h1 }) ⟨n1, hen, n2, n3⟩ dd fun h2 F d2 up => hQ h2 ⟨F.1, F.2.1, F.2.2.1.2.2, F.2.2.2⟩ d2 (Heap.UpToSlots.trans n4 up)
theorem leaves_on {base : Heap} {env : Env} {outer : List Env} {L e : Addr} {cls a0 fl : Value} {d : Option Addr} {Q : Unit -> Shared -> Prop}
  (hfr : A.frames = some (env :: outer)) (hf : env.frame = some L) (hfl : FlyF base (env :: outer) e cls a0 fl s.heap) (dd : DictIs s.heap e d)
  (hQ : ∀ h', FlyF base outer e cls a0 .none h' -> DictIs h' e d -> s.heap.UpToSlots h' -> Q () { s with heap := h' }) : wpAny M A (leaving env (.ref e)) Q E s := by
 obtain ⟨f1, f2, f3, f4⟩ := hfl
 unfold leaving
 refine wpAny_bind (note1 hfr f3 hf f4 dd f1 f2 fun h1 N dd => ?_)
 obtain ⟨n1, n2, n3, n4⟩ := N
 exact flight (fr := none) (s := { s with heap := h1 }) ⟨n1, f2, n2, n3⟩ dd fun h2 F d2 up => hQ h2 ⟨F.1, F.2.1, F.2.2.1.2.2, F.2.2.2⟩ d2 (Heap.UpToSlots.trans n4 up)
theorem looks_on {base : Heap} {env : Env} {outer : List Env} {L e : Addr} {cls a0 fl : Value} {d : Option Addr} {Q : Unit -> Shared -> Prop}
  (hfr : A.frames = some (env :: outer)) (hf : env.frame = some L) (hfl : FlyF base (env :: outer) e cls a0 fl s.heap) (dd : DictIs s.heap e d)
  (hQ : ∀ h', FlyF base (env :: outer) e cls a0 (rawInt L) h' -> DictIs h' e d -> s.heap.UpToSlots h' -> Q () { s with heap := h' }) : wpAny M A (noteFrame (.ref e) env) Q E s := by
 obtain ⟨f1, f2, f3, f4⟩ := hfl
 refine note1 hfr f3 hf f4 dd f1 f2 fun h1 N dd => ?_
 obtain ⟨n1, n2, n3, n4⟩ := N
 exact hQ h1 ⟨n1, f2, n2, n3⟩ dd n4
theorem lands {base : Heap} {l : List Env} {e : Addr} {cls a0 fl : Value} {d : Option Addr} {Q : Unit -> Shared -> Prop} (hh : FlyF base l e cls a0 fl s.heap) (dd : DictIs s.heap e d)
  (hQ : ∀ h', FlyF base l e cls a0 .none h' -> DictIs h' e d -> s.heap.UpToSlots h' -> Q () { s with heap := h' }) : wpAny M A (setFlight (.ref e) none) Q E s := flight (fr := none) hh dd hQ
end
end XF
namespace L2
open PySem PySem.Spec PyProof.Rows
theorem exc_obj {K : PySem.W.Frag} {h : Heap} {C : Addr} {bmB : List Value} {newId : String} (X : K.In h) (q : PySem.W.excIn K C bmB newId = true) :
  ∃ bm N nm qn bs hdct sn sub ab col dd k0 k1 k2 k3 k5 mN, h.get? C = some (excClassObj nm qn C N bs bm hdct sn sub ab col dd k0 k1 k2 k3 k5 newId) /\ h.Ns N mN /\ mN ("__init__" : Str) = none /\ OwnTail h bmB bm := by
 unfold PySem.W.excIn at q
 split at q
 ·rename_i dd cd sl ho
  split at q
  ·rename_i C' bm k0 k1 k2 k3 n k5 hm hs
   simp only [Bool.and_eq_true, beq_iff_eq, Bool.not_eq_true'] at q
   obtain ⟨⟨⟨⟨⟨rfl, rfl⟩, hdel⟩, ht⟩, hn⟩, hi⟩ := q
   obtain ⟨nm, bs, mro, ns, qn, hd, sn, sub, ab, col, del⟩ := cd
   dsimp only at hm hdel hn hi
   subst hm hdel
   have hsl : sl = #[k0, k1, k2, k3, some (.builtin n), k5] := by
    cases sl
    simp only at hs
    rw [hs]
   subst hsl
   exact ⟨bm, ns, nm, qn, bs, hd, sn, sub, ab, col, dd, k0, k1, k2, k3, k5, _, X _ _ ho, .of_isNs (PySem.W.isNs_of_in X hn), PySem.W.nsMap_none_of_in X hn hi, PySem.W.tail_of_in X ht⟩
  ·cases q
 ·cases q
theorem obj_get {P : Program} {w : World} {H : Hp} {h : Heap} {a : Addr} {o : HO} (x : ObjOk P w H h a o) : ∃ ob, h.get? a = some ob := by
 cases o with
 | lst xs => obtain ⟨_, _, _, _, e⟩ := x; exact ⟨_, e⟩
 | tup xs => obtain ⟨_, _, _, ob, e, _⟩ := x; exact ⟨_, e⟩
 | dK kvs => obtain ⟨_, _, _, _, o, _, _, e, _⟩ := x; exact ⟨_, e⟩
 | dT kvs => obtain ⟨_, _, _, _, o, _, _, e, _⟩ := x; exact ⟨_, e⟩
 | set S n => obtain ⟨o, _, _, _, e, _⟩ := x; exact ⟨_, e⟩
 | ins C dx fs => obtain ⟨_, _, _, e, _⟩ := x; exact ⟨_, e⟩
 | own y => obtain ⟨_, e⟩ := x; exact ⟨_, e⟩
 | xd fs => obtain ⟨_, ⟨_, _, _, e, _⟩, _⟩ := x; exact ⟨_, e⟩
 | rng lo hi => obtain ⟨_, _, _, e⟩ := x; exact ⟨_, e⟩
 | frz ob u => obtain ⟨e, _⟩ := x; exact ⟨_, e⟩
 | tbl ps => exact ⟨_, (show h.get? a = some _ from x)⟩
 | met f y => exact ⟨_, (show h.get? a = some _ from x)⟩
 | ext φ => obtain ⟨_, ⟨_, e⟩, _⟩ := x; exact ⟨_, e⟩
structure Fly (P : Program) (w : World) (outer : List Env) (H : Hp) (s : Shared) (E : XK) (ea C t : Addr) (d : Option Addr) (H' : Hp) (B : Heap) (s' : Shared) : Prop where
 fl : ∃ fl, XF.FlyF B outer ea (.ref C) (.ref t) fl s'.heap
 dict : XF.DictIs s'.heap ea d
 os : s'.os = s.os
 bare : AllBare s'.gens
 un : Un (frs outer) [] H H' s.heap s'.heap
 hok : HOk P w H' s'.heap
 old : ∀ b o, s.heap.get? b = some o -> b ∉ frs outer -> ∃ ob, B.get? b = some ob
 trk : ∀ b o, H' b = some o -> ∃ ob, B.get? b = some ob
 wish : E (.ref C) d H'
def CXE (P : Program) (w : World) : CXT := fun outer H s E e s' => ∃ (ea C t : Addr) (d : Option Addr) (H' : Hp) (B : Heap), e = .ref ea /\ Fly P w outer H s E ea C t d H' B s'
section
variable {P : Program} {w : World} {K : PySem.W.Frag} {mg : Str -> Option Value} {base : Heap} {N : List Str} {qual : Str} {scope : Scope} {f : Addr} {cdv : Value} {A : Around} {outer : List Env} {s0 : Shared} {H0 : Hp} {E : XK}
theorem fly_out {pins : List (Addr × Obj)} {σ : St} {H : Hp} {s : Shared} {B h' : Heap} {xe : Value -> Shared -> Prop} (I : Inv ((cxOf (CXE P w) P w K mg base N qual scope f cdv A outer s0 H0 E).wish xe) pins σ H s)
  (hB0 : ∀ b o, s0.heap.get? b = some o -> b ∉ frs (envOfC qual scope s0.heap.objs.size f cdv :: outer) -> ∃ ob, B.get? b = some ob) (hBH : ∀ b o, H b = some o -> ∃ ob, B.get? b = some ob)
  (k1 : B.StaysIn s.heap) (k2 : B.StaysIn h') (up : s.heap.UpToSlots h') : Un (frs outer) [] H0 H s0.heap h' /\ HOk P w H h' := by
 have ub : Un (frs outer) [] H0 H s0.heap s.heap := I.base
 have nl : ∀ {b : Addr} {o : Obj}, s0.heap.get? b = some o -> b ∉ frs outer -> b ∉ frs (envOfC qual scope s0.heap.objs.size f cdv :: outer) := fun {b o} e n z => by
  have z : b ∈ s0.heap.objs.size :: frs outer := z
  rcases List.mem_cons.mp z with z | z
  ·exact Nat.lt_irrefl _ (z ▸ Heap.lt_size e)
  ·exact n z
 have mv : ∀ {b : Addr} {u : Obj}, (∃ ob, B.get? b = some ob) -> s.heap.get? b = some u -> h'.get? b = some u := fun {b u} hb e => by
  obtain ⟨ob, q⟩ := hb
  have := k1 b ob q
  rw [e] at this
  cases this
  exact k2 b _ q
 have fr : ∀ {b : Addr}, b ∈ frs outer -> ∀ {o : Obj}, s.heap.get? b = some o -> ∃ sl, h'.get? b = some { o with slots := sl } := fun {b} hb {o} e => by
  obtain ⟨_, o', ho', hd⟩ := I.funs.mem hb
  rw [e] at ho'
  cases ho'
  exact up b _ e hd
 refine ⟨⟨fun b o e n h1 h2 => mv (hB0 b o e (nl e h1)) (ub.keep b o e n h1 h2), fun b o e n h1 h2 => ?_, ub.free, fun b o e h2 => ?_, ub.tups, ub.frzs, ub.tbls⟩, fun a o e => (I.hok a o e).stay (fun b u hb q => mv ?_ q) (fun _ q => q) fun _ _ q => q⟩
 ·obtain ⟨sl, e1⟩ := ub.slot b o e n h1 h2
  obtain ⟨sl', e2⟩ := fr h1 e1
  exact ⟨sl', e2⟩
 ·obtain ⟨o', e1⟩ := ub.there b o e h2
  by_cases h1 : b ∈ frs outer
  ·obtain ⟨sl', e2⟩ := fr h1 e1
   exact ⟨_, e2⟩
  ·exact ⟨o', mv (hB0 b o e (nl e h1)) e1⟩
 ·rcases hb with rfl | hb
  ·exact hBH _ _ e
  ·exact hBH _ _ hb
def Raises (X : Cx) (C : Addr) (Eh : Hp -> Prop) : Prop := ∀ (pins : List (Addr × Obj)) (σ : St) (H : Hp) (s : Shared) (h' : Heap) (e : Addr) (vs : List Value), Inv X pins σ H s -> Heap.MadeExcOf s.heap h' e (.ref C) vs -> Eh H -> X.xe (.ref e) { s with heap := h' }
theorem raises_core {C : Addr} {pins : List (Addr × Obj)} {σ : St} {H H1 : Hp} {s s1 : Shared} {e t : Addr} {oe : Obj} {vs : Array Value} (I : Inv (cxOf (CXE P w) P w K mg base N qual scope f cdv A outer s0 H0 E) pins σ H s) (new : s.heap.get? e = none)
  (I1 : Inv (cxOf (CXE P w) P w K mg base N qual scope f cdv A outer s0 H0 E) pins σ H1 s1) (he : s1.heap.get? e = some oe) (hcl : oe.cls = .ref C) (hd : oe.data = .fields vs) (h0 : vs[0]? = some (.ref t)) (h1 : vs[1]? = some .none) (hc2 : oe.dict = none -> vs[2]? = some .none) (hn : H1 e = none) (hE : E (.ref C) oe.dict H1) :
  (cxOf (CXE P w) P w K mg base N qual scope f cdv A outer s0 H0 E).xe (.ref e) s1 := by
 have hst : (cxOf (CXE P w) P w K mg base N qual scope f cdv A outer s0 H0 E).A.frames = some (envOfC qual scope s0.heap.objs.size f cdv :: outer) := I.ok.frames
 have hin : ∀ env ∈ (envOfC qual scope s0.heap.objs.size f cdv :: outer), ∀ a, env.frame = some a -> a ∈ e :: frs (envOfC qual scope s0.heap.objs.size f cdv :: outer) := fun env hq a ha => List.mem_cons_of_mem _ (List.mem_filterMap.mpr ⟨env, hq, ha⟩)
 have hB : (PySem.W.hideAll s1.heap (e :: frs (envOfC qual scope s0.heap.objs.size f cdv :: outer))).StaysIn s1.heap := fun b o q => PySem.W.of_hideAll _ q
 have inB : ∀ b o, s1.heap.get? b = some o -> b ≠ e -> b ∉ frs (envOfC qual scope s0.heap.objs.size f cdv :: outer) -> ∃ ob, (PySem.W.hideAll s1.heap (e :: frs (envOfC qual scope s0.heap.objs.size f cdv :: outer))).get? b = some ob := fun b o q n1 n2 => ⟨o, PySem.W.hideAll_get _ q fun z => (List.mem_cons.mp z).elim n1 n2⟩
 have hen : (PySem.W.hideAll s1.heap (e :: frs (envOfC qual scope s0.heap.objs.size f cdv :: outer))).get? e = none := PySem.W.hideAll_none _ List.mem_cons_self
 refine XF.leaves_made (base := PySem.W.hideAll s1.heap (e :: frs (envOfC qual scope s0.heap.objs.size f cdv :: outer))) hst rfl hB (PySem.W.funFrames_hide I1.stack hin) he hen hd h1 h0 hc2 fun h2 fl dd up => ?_
 have old : ∀ b o, s0.heap.get? b = some o -> b ∉ frs (envOfC qual scope s0.heap.objs.size f cdv :: outer) -> ∃ ob, (PySem.W.hideAll s1.heap (e :: frs (envOfC qual scope s0.heap.objs.size f cdv :: outer))).get? b = some ob := fun b o q n => by
  obtain ⟨o1, q1⟩ := I.base.there b o q (fun z => nomatch z)
  obtain ⟨o', q'⟩ := I1.base.there b o q (fun z => nomatch z)
  exact inB b o' q' (fun z => by rw [z] at q1; have q1 : s.heap.get? e = some o1 := q1; rw [new] at q1; cases q1) n
 have trk : ∀ b o, H1 b = some o -> ∃ ob, (PySem.W.hideAll s1.heap (e :: frs (envOfC qual scope s0.heap.objs.size f cdv :: outer))).get? b = some ob := fun b o q => by
  have n2 : b ∉ frs (envOfC qual scope s0.heap.objs.size f cdv :: outer) := fun z => by
   have := I1.stkFree b z
   rw [q] at this; cases this
  obtain ⟨ob, hob⟩ := obj_get (I1.hok b o q)
  exact inB b ob hob (a0q q hn) n2
 obtain ⟨un, hok⟩ := fly_out (E := E) (xe := (cxOf (CXE P w) P w K mg base N qual scope f cdv A outer s0 H0 E).xe) (h' := h2) I1 old trk hB fl.1 up
 refine ⟨e, C, t, oe.dict, H1, _, rfl, ⟨.none, hcl ▸ fl⟩, dd, I1.os, I1.bare, un, hok, fun b o q n => old b o q fun z => ?_, trk, hE⟩
 have z : b ∈ s0.heap.objs.size :: frs outer := z
 rcases List.mem_cons.mp z with z | z
 ·exact Nat.lt_irrefl _ (z ▸ Heap.lt_size q)
 ·exact n z
theorem raises_def {C : Addr} : Raises (cxOf (CXE P w) P w K mg base N qual scope f cdv A outer s0 H0 E) C (fun H => E (.ref C) none H) := by
 intro pins σ H s h' e vs I hx hE
 obtain ⟨t, he, _, _⟩ := hx.there
 have I1 : Inv (cxOf (CXE P w) P w K mg base N qual scope f cdv A outer s0 H0 E) pins σ H { s with heap := h' } := I.call' (ch := []) rfl (Un.kept hx.keeps) (I.hok.kept hx.keeps) I.bare (fun b z => nomatch z)
 refine raises_core I hx.new I1 he rfl rfl rfl rfl (fun _ => rfl) ?_ hE
 cases q : H e with
 | none => rfl
 | some o =>
  obtain ⟨ob, hob⟩ := obj_get (I.hok e o q)
  rw [hx.new] at hob; cases hob
theorem passes_def : Passes (CXE P w) (cxOf (CXE P w) P w K mg base N qual scope f cdv A outer s0 H0 E) E := by
 intro pins σ H s e s' I h
 obtain ⟨ea, C, t, d, H', B, rfl, F⟩ := h
 have hst : (cxOf (CXE P w) P w K mg base N qual scope f cdv A outer s0 H0 E).A.frames = some (envOfC qual scope s0.heap.objs.size f cdv :: outer) := I.ok.frames
 have I' : Inv (cxOf (CXE P w) P w K mg base N qual scope f cdv A outer s0 H0 E) pins σ H' s' := I.call' (ch := []) F.os F.un F.hok F.bare (fun b z => nomatch z)
 obtain ⟨flv, fl⟩ := (show ∃ fl, XF.FlyF B (envOfC qual scope s0.heap.objs.size f cdv :: outer) ea (.ref C) (.ref t) fl s'.heap from F.fl)
 have old : ∀ b o, s0.heap.get? b = some o -> b ∉ frs (envOfC qual scope s0.heap.objs.size f cdv :: outer) -> ∃ ob, B.get? b = some ob := fun b o e n => by
  obtain ⟨o', e'⟩ := I.base.there b o e (fun z => nomatch z)
  exact F.old b o' e' n
 refine XF.leaves_on hst rfl fl F.dict fun h2 fl2 dd up => ?_
 obtain ⟨un, hok⟩ := fly_out (E := E) (xe := (cxOf (CXE P w) P w K mg base N qual scope f cdv A outer s0 H0 E).xe) (h' := h2) I' old F.trk fl.1 fl2.1 up
 refine ⟨ea, C, t, d, H', B, rfl, ⟨_, fl2⟩, dd, I'.os, I'.bare, un, hok, fun b o e n => old b o e fun z => ?_, F.trk, F.wish⟩
 have z : b ∈ s0.heap.objs.size :: frs outer := z
 rcases List.mem_cons.mp z with z | z
 ·exact Nat.lt_irrefl _ (z ▸ Heap.lt_size e)
 ·exact n z
end
section
variable {X : Cx}
theorem ps_raise {x : Str} {C : Addr} {Eh : Hp -> Prop} {B newId initId : String} {bm : List Value} {np cpos pos : Pos} {e : Expr} {es : List Expr} {t : TA} (hR : Raises X C Eh) (hK : PySem.W.excIn X.K C bm newId = true) (FB : ExcBaseFacts B newId initId bm)
  (hc : X.calm = true) (hg : Gl X x) (hm : X.mg x = some (.ref C)) (ha : PA X (e :: es) t) (hd : (x == ("__debug__" : Str)) = false := by decide)
  (he : starEach (e :: es) X.env = (false, eval e X.env) :: starEach es X.env := by rfl) (hpl : (backTo cpos (starEach es X.env)).any (·.1) = false := by rfl) :
  PS X (.Raise (some (.Call (.Name x np) (e :: es) [] cpos)) none pos) (fun _ σ H => t σ H fun vs H1 => vs.length <= sizeLine /\ Eh H1) := by
 intro pins s σ H D I h
 obtain ⟨tl, N, nm, q, bs, hdct, sn, sub, ab, col, dd, k0, k1, k2, k3, k5, mN, hC, hN, hni, T⟩ := exc_obj I.ok.mod.kin hK
 refine wpAny_Raise_call_subT (C := C) (nm := nm) (q := q) (N := N) (bs := bs) (bm := tl) (hdct := hdct) (sn := sn) (sub := sub) (ab := ab) (col := col) (dd := dd) (k0 := k0) (k1 := k1) (k2 := k2) (k3 := k3) (k5 := k5)
  FB (mN := mN) (T.hasType FB.hasBase) (I.ok.hd hc) (by rw [he]; show (false || (backTo cpos (starEach es X.env)).any (·.1)) = false; rw [hpl]; rfl) hni (ld_glob I hg hm ⟨rfl, ?_⟩ hd)
 have hA := ha cpos pins s σ H _ I h
 rw [he] at hA ⊢
 refine Calls.evalArgs_plain (thn hA fun us s2 ⟨vs, H2, I2, r2, hz, hE⟩ => ⟨rfl, by rw [<- r2.length]; exact hz, I2.bk _ _ hC, hN.keeps I2.bk, T.keeps I2.bk, fun h' e hx => hR pins σ H2 s2 h' e us I2 hx hE⟩)
end
end L2
namespace DL
open PySem PySem.Spec PyProof.Rows L2
def GX (mg : Str -> Option Value) (E : XK) (x : XD) (H : Hp) : Prop := ∀ C, mg x.cls = some (.ref C) -> match x.flds with
 | [] => E (.ref C) none H
 | [(f, .int i)] => ∀ a, H a = none -> E (.ref C) (some a) (upd H a (.xd [(f, .int i)]))
 | _ => True
def spX (K : PySem.W.Frag) (mg : Str -> Option Value) (n : Nat) (F : List D -> M D) : Sp := fun vs H Q E => ∃ O ds, vs.length = n /\ (∀ l ∈ O, Mu H l) /\ Reps K O H vs ds /\ ok (GS (GX mg E) H) (F ds) (fun d => ∀ v H', Same H H' -> Rep K O H' v d -> Q v H')
structure DefX (P : Program) (w : World) (K : PySem.W.Frag) (mg : Str -> Option Value) (base : Heap) (k : Nat) (x : Str) (n : Nat) (F : List D -> M D) : Prop where
 ex : ∃ (f : Addr) (fd : FuncData) (ps : List Str), FnOk P w K mg base (CXE P w) k f fd ps (spX K mg n F) /\ mg x = some (.ref f) /\ PySem.W.keepIn K (.ref f) = true /\ Binds K fd ps []
section
variable {X : Cx} {G : XD -> Hp -> Prop} {e : Expr} {es : List Expr} {fa : DS -> M (List D)} {pos : Pos}
theorem ok_weak {α : Type} {G G' : XD -> Prop} {r : M α} {k : α -> Prop} (h : ok G r k) (f : ∀ x, G x -> G' x) : ok G' r k := by
 match r, h with
 | some (.ok a), h => exact h
 | some (.error x), h => exact f x h
theorem pd_callX {k n : Nat} {x : Str} {p : Pos} {F : List D -> M D} {E : XK} (h : DefX X.prog X.w X.K X.mg X.base k x n F) (hr : Room k X.A) (hx : Passes (CXE X.prog X.w) X E) (hG : ∀ x H, G x H -> GX X.mg E x H) (hg : Gl X x) (hn : (e :: es).length = n) (ha : PDA X G (e :: es) fa)
  (hdb : (x == ("__debug__" : Str)) = false := by decide) (he : starEach (e :: es) X.env = (false, eval e X.env) :: starEach es X.env := by rfl) (hpl : (backTo pos (starEach es X.env)).any (·.1) = false := by rfl) :
  PD X G (.Call (.Name x p) (e :: es) [] pos) (dCall F fa) := by
 obtain ⟨f, fd, ps, F1, hm, hk, hb⟩ := h.ex
 obtain ⟨hl, t, pa, ha⟩ := ha
 refine ⟨_, pe_call F1 hr hg hm hk hb .nil hx pa hdb he hpl, @fun Hr δ O σ H Q E0 k => ?_⟩
 have k1 := a0o k
 refine ha δ O σ H _ E0 ?_
 cases e1 : fa δ with
 | none => rw [e1] at k1; exact k1.elim
 | some r =>
  rw [e1] at k1
  cases r with
  | error x => exact k1
  | ok ds =>
   refine fun vs H1 s1 rs => ?_
   refine ⟨O, ds, ?_, (E0.same s1).oo, ?_, ok_weak (a0j k1 fun d z v H2 s2 r => z v H2 (s1.trans s2) r) fun y q H2 s2 => hG y H2 (q H2 ((E0.same s1).root.trans s2))⟩
   ·rw [List.append_nil, rs.length, hl δ ds e1]
    exact hn
   ·rw [List.append_nil]
    exact rs
def gRaise (x : Str) (fa : DS -> M (List D)) : DS -> M Out := fun δ => (fa δ).thn fun ds => if small ds.length then some (.error ⟨x, []⟩) else none
theorem pd_raise {x : Str} {C : Addr} {B newId initId : String} {bm : List Value} {np cpos : Pos} {E : XK} (hR : Raises X C (fun H => E (.ref C) none H)) (hG : ∀ x H, G x H -> GX X.mg E x H) (hK : PySem.W.excIn X.K C bm newId = true) (FB : ExcBaseFacts B newId initId bm)
  (hc : X.calm = true) (hg : Gl X x) (hm : X.mg x = some (.ref C)) (ha : PDA X G (e :: es) fa) (hd : (x == ("__debug__" : Str)) = false := by decide)
  (he : starEach (e :: es) X.env = (false, eval e X.env) :: starEach es X.env := by rfl) (hpl : (backTo cpos (starEach es X.env)).any (·.1) = false := by rfl) :
  PDS X G (.Raise (some (.Call (.Name x np) (e :: es) [] cpos)) none pos) (gRaise x fa) := by
 obtain ⟨_, t, pa, ha⟩ := ha
 refine ⟨_, ps_raise hR hK FB hc hg hm pa hd he hpl, @fun Hr R0 P0 H0 δ O σ H Dn E1 k => ?_⟩
 refine ha δ O σ H _ E1.ev (a0j (a0o k) fun ds z vs H1 s1 rs => ?_)
 by_cases hz : small ds.length = true
 ·rw [if_pos hz] at z
  exact ⟨by rw [rs.length]; exact a1e hz, hG _ _ (z H1 (E1.ev.root.trans s1)) C hm⟩
 ·rw [if_neg hz] at z
  exact z.elim
end
section
variable {P : Program} {w : World} {K : PySem.W.Frag} {mg : Str -> Option Value} {base : Heap}
theorem defX_of {x qual : Str} {st : Stmt} {f : Addr} {fd : FuncData} {N ps : List Str} {k : Nat} {g : DS -> M Out} (F0 : Fun K x qual st f fd) (S : FnScope N ps (defScope st)) (hm : mg x = some (.ref f)) (hb : Binds K fd ps [])
  (hbody : ∀ (cdv : Value) (A : Around) (outer : List Env) (s : Shared) (H : Hp) (E : XK), Room k (A.deeper (envOfC qual (defScope st) s.heap.objs.size f cdv)) ->
   PDSs (cxOf (CXE P w) P w K mg base N qual (defScope st) f cdv A outer s H E) (GX mg E) (defBody st) g) : DefX P w K mg base (k + 1) x ps.length (run N.length g) := by
 refine ⟨f, fd, ps, ?_, hm, F0.kp, hb⟩
 obtain ⟨oc, od, kV, doc, pm, an, cdv, ct, osl, rfl, lk, hcd⟩ := F0.ex
 refine fn_of lk hcd S (fun vs H Q E h => ?_) fun A outer s H vs Q E hr h => ?_
 ·obtain ⟨O, ds, hl, _⟩ := h
  exact hl
 ·obtain ⟨O, ds, hl, oo, r, q⟩ := h
  obtain ⟨t, p, hB⟩ := hbody cdv A outer s H E hr
  refine ⟨t, p, hB O (fun _ => False) H (startD N.length ds) O (L2.start N vs) H _ ⟨ev_start N oo r, fun l hl => .inl hl, fun b o _ h => h, fun l hl => .inl hl, fun i es l h1 ho h2 => ?_, fun l hl => hl⟩ (a0j (a0o q) fun o z => ?_)⟩
  ·exact (start_no h1 ho).elim
  ·cases o with
   | rt d => exact fun v H' kp r => z v H' (fun b o h => kp b o (fun w => w) h) r
   | nx δ => exact fun O' σ' H' E' => z .non H' (fun b o h => E'.keep b o (fun w => w) h) .non
   | bk δ => exact z.elim
   | ct δ => exact z.elim
end
end DL
namespace L2
open PySem PySem.Spec PyProof.Rows
section
variable {X : Cx}
theorem fly_on {pins : List (Addr × Obj)} {σ : St} {H H' : Hp} {s s' : Shared} {E : XK} {ea C t : Addr} {d : Option Addr} {B h5 : Heap} (I : Inv X pins σ H s) (F : Fly X.prog X.w X.stack H s E ea C t d H' B s') (k5 : B.StaysIn h5) (up : s'.heap.UpToSlots h5) : Inv X pins σ H' { s' with heap := h5 } := by
 have k1 : B.StaysIn s'.heap := let ⟨_, z⟩ := F.fl; z.1
 have mv : ∀ {b : Addr} {u : Obj}, (∃ ob, B.get? b = some ob) -> s'.heap.get? b = some u -> h5.get? b = some u := fun {b u} hb e => by
  obtain ⟨ob, q⟩ := hb
  have := k1 b ob q
  rw [e] at this
  cases this
  exact k5 b _ q
 have fr : ∀ {b : Addr}, b ∈ frs X.stack -> ∀ {o : Obj}, s.heap.get? b = some o -> ∃ sl, h5.get? b = some { o with slots := sl } := fun {b} hb {o} e => by
  obtain ⟨_, o', ho', hd⟩ := I.stack.mem hb
  rw [e] at ho'
  cases ho'
  obtain ⟨sl, e1⟩ := F.un.slot b o e (I.stkFree b hb) hb (fun z => nomatch z)
  obtain ⟨sl', e2⟩ := up b _ e1 hd
  exact ⟨sl', e2⟩
 refine I.call' (ch := []) F.os ⟨fun b o e n h1 h2 => mv (F.old b o e h1) (F.un.keep b o e n h1 h2), fun b o e n h1 h2 => fr h1 e, F.un.free, fun b o e h2 => ?_, F.un.tups, F.un.frzs, F.un.tbls⟩ (fun a o e => (F.hok a o e).stay (fun b u hb q => mv ?_ q) (fun _ q => q) fun _ _ q => q) F.bare (fun b z => nomatch z)
 ·by_cases h1 : b ∈ frs X.stack
  ·obtain ⟨sl, q⟩ := fr h1 e
   exact ⟨_, q⟩
  ·obtain ⟨ob, q⟩ := F.old b o e h1
   exact ⟨ob, k5 b ob q⟩
 ·rcases hb with rfl | hb
  ·exact F.trk _ _ e
  ·exact F.trk _ _ hb
theorem Inv.names {pins : List (Addr × Obj)} {σ σ' : St} {H : Hp} {s : Shared} {h' : Heap} (I : Inv X pins σ H s) (hs : Heap.SameBut X.env.locals s.heap h') (hl : σ'.length = σ.length)
  (hn : ∃ m, h'.Ns X.env.locals m /\ ∀ (i : Nat) (x : Str) (v : V), X.N[i]? = some x -> σ'[i]? = some (some v) -> Vis X.env.scope x -> ∃ u, RelV v u /\ Look X.env h' m x u) : Inv X pins σ' H { s with heap := h' } := by
 have old : ∀ {b : Addr} {o : Obj}, X.s₀.heap.get? b = some o -> b ≠ X.env.locals := fun e => Nat.ne_of_lt (Nat.lt_of_lt_of_le (Heap.lt_size e) I.ok.above)
 refine ⟨I.ok, I.os, I.bare, ⟨fun b o e n hb hx => (hs.2 b (old e)).trans (I.base.keep b o e n hb hx), fun b o e n hb hx => ?_, I.base.free, fun b o e hx => ?_, I.base.tups, I.base.frzs, I.base.tbls⟩, hn, fun y c e => ?_, I.free, I.freeC, fun p hp => ?_, fun a o e => ?_, hl.trans I.len⟩
 ·obtain ⟨sl, q⟩ := I.base.slot b o e n hb hx
  exact ⟨sl, (hs.2 b (old e)).trans q⟩
 ·obtain ⟨o', q⟩ := I.base.there b o e hx
  exact ⟨o', (hs.2 b (old e)).trans q⟩
 ·obtain ⟨v, z⟩ := I.cell y c e
  exact ⟨v, z.sameBut hs (I.cne y c e)⟩
 ·obtain ⟨e, n, ne, nf, d⟩ := I.pin p hp
  exact ⟨(hs.2 p.1 ne).trans e, n, ne, nf, d⟩
 ·refine (I.hok a o e).stay (fun b u hb q => (hs.2 b ?_).trans q) (fun _ q => q) fun _ _ q => q
  rcases hb with rfl | hb
  ·exact a0q e I.free
  ·exact a0q hb I.free
abbrev Cx.tri (X : Cx) (pn : List (Addr × Obj)) (xe : Value -> Shared -> Prop) : Cx := { X with pn := pn, xe := xe }
theorem Inv.tri {pins : List (Addr × Obj)} {σ : St} {H : Hp} {s : Shared} (I : Inv X pins σ H s) (xe : Value -> Shared -> Prop) : Inv (X.tri (X.pn ++ pins) xe) [] σ H s :=
 ⟨⟨I.ok.mod, I.ok.kind, I.ok.glob, I.ok.blt, I.ok.above, I.ok.inj, I.ok.has, I.ok.cab, I.ok.hd, I.ok.frames, I.ok.stk, I.ok.exf, I.ok.bs, I.ok.bsz, I.ok.noex, I.ok.exfs, I.ok.funs, I.ok.frf⟩,
  I.os, I.bare, I.base, I.loc, I.cell, I.free, I.freeC, fun p hp => I.pin p (by simpa using hp), I.hok, I.len⟩
theorem Inv.untri {pins pins' : List (Addr × Obj)} {σ : St} {H : Hp} {s : Shared} {xe : Value -> Shared -> Prop} (I : Inv (X.tri (X.pn ++ pins) xe) pins' σ H s) : Inv X pins σ H s :=
 ⟨⟨I.ok.mod, I.ok.kind, I.ok.glob, I.ok.blt, I.ok.above, I.ok.inj, I.ok.has, I.ok.cab, I.ok.hd, I.ok.frames, I.ok.stk, I.ok.exf, I.ok.bs, I.ok.bsz, I.ok.noex, I.ok.exfs, I.ok.funs, I.ok.frf⟩,
  I.os, I.bare, I.base, I.loc, I.cell, I.free, I.freeC, fun p hp => I.pin p (List.mem_append_left _ hp), I.hok, I.len⟩
abbrev Cx.held (X : Cx) (pn : List (Addr × Obj)) (e : Addr) : Cx := { X with A := X.A.mark (some (.ref e)), calm := false, pn := pn, xe := fun _ _ => False }
end
end L2
namespace L2
open PySem PySem.Spec PyProof.Rows
section
variable {X : Cx}
def tCan (X : Cx) (sts : List Stmt) : TS := fun D σ H => ∃ t, PSs X sts t /\ t D σ H
theorem pss_can {sts : List Stmt} : PSs X sts (tCan X sts) := fun pins s σ H D I ⟨_, p, h⟩ => p pins s σ H D I h
def Ends.gone (D : Ends) (i : Nat) : Ends := ⟨fun σ H => D.nx (σ.set i none) H, D.rt, fun σ H => D.bk (σ.set i none) H, fun σ H => D.ct (σ.set i none) H⟩
end
end L2
namespace DL
open PySem PySem.Spec PyProof.Rows L2
section
variable {K : PySem.W.Frag} {Hr : Hp} {R0 : List Addr} {P0 : Addr -> Prop} {H0 H H' : Hp} {O O' : List Addr} {σ : St} {δ : DS}
def Sl.noOw : Sl -> Sl
 | .ow _ => .un
 | .od _ => .un
 | s => s
def noOw (δ : DS) : DS := δ.map Sl.noOw
def Out.gone (i : Nat) : Out -> Out
 | .nx δ => .nx (δ.set i .un)
 | .rt d => .rt d
 | .bk δ => .bk (δ.set i .un)
 | .ct δ => .ct (δ.set i .un)
theorem EI.fresh (E : EI K Hr R0 P0 H0 O H σ δ) : EI K H O (fun _ => False) H O H σ (noOw δ) := by
 have no : ∀ {i : Nat} {s : Sl}, (noOw δ)[i]? = some s -> s.own -> False := fun {i s} h ho => by
  unfold noOw at h
  rw [List.getElem?_map] at h
  cases e : δ[i]? with
  | none => rw [e] at h; cases h
  | some s => rw [e] at h; cases s <;> (cases h; exact ho)
 refine ⟨⟨fun _ _ h => h, E.ev.oo, by unfold noOw; rw [List.length_map]; exact E.ev.len, fun i s h => ?_, fun i j l ds es _ h1 => (no h1 trivial).elim⟩, fun l hl => .inl hl, fun b o _ h => h, fun l hl => .inl hl, fun i ds l h1 ho => (no h1 ho).elim, fun l hl => hl⟩
 unfold noOw at h
 rw [List.getElem?_map] at h
 cases e : δ[i]? with
 | none => rw [e] at h; cases h
 | some s' =>
  rw [e] at h
  have q := E.ev.at_ i s' e
  cases s' <;> cases h
  ·trivial
  ·exact q
  ·trivial
  ·trivial
  ·exact q
theorem EI.back {σ' : St} {δ' : DS} (E : EI K Hr R0 P0 H0 O H σ δ) (F : EI K H O (fun _ => False) H O' H' σ' δ') : EI K Hr R0 P0 H0 O' H' σ' δ' := by
 refine ⟨⟨E.ev.root.trans F.ev.root, F.ev.oo, F.ev.len, F.ev.at_, F.ev.dis⟩, fun l hl => ?_, fun b o n h => F.keep b o (fun z => z) (E.keep b o n h), fun l hl => ?_, fun i ds l h1 ho h2 h3 => F.nr1 i ds l h1 ho h2 (E.sub l h3), fun l hl => F.sub l (E.sub l hl)⟩
 ·rcases F.omr l hl with z | z
  ·exact E.omr l z
  ·refine .inr ?_
   cases e : Hr l with
   | none => rfl
   | some o => rw [E.ev.root l o e] at z; cases z
 ·rcases F.omr l hl with z | z
  ·exact E.om l z
  ·by_cases hp : P0 l
   ·exact .inr (.inl hp)
   ·refine .inr (.inr ?_)
    cases e : H0 l with
    | none => rfl
    | some o => rw [E.keep l o hp e] at z; cases z
theorem Fin.fresh {Dn : Ends} {o : Out} (E : EI K Hr R0 P0 H0 O H σ δ) (h : Fin K Hr R0 P0 H0 Dn o) : Fin K H O (fun _ => False) H Dn o := by
 cases o with
 | nx δ' => exact fun O' σ' H' F => h O' σ' H' (E.back F)
 | rt d => exact fun v H' kp r => h v H' (fun b o n q => kp b o (fun z => z) (E.keep b o n q)) (r.to (.less E.sub))
 | bk δ' => exact fun O' σ' H' F => h O' σ' H' (E.back F)
 | ct δ' => exact fun O' σ' H' F => h O' σ' H' (E.back F)
theorem EI.unset {i : Nat} (E : EI K Hr R0 P0 H0 O H σ δ) : EI K Hr R0 P0 H0 O H (σ.set i none) (δ.set i .un) := by
 have ne : ∀ {j : Nat} {ds : List D}, (δ.set i .un)[j]? = some (.ow ds) -> i ≠ j /\ δ[j]? = some (.ow ds) := fun {j ds} h => by
  rw [a1u] at h
  by_cases hij : i = j
  ·rw [if_pos hij] at h
   split at h <;> cases h
  ·rw [if_neg hij] at h
   exact ⟨hij, h⟩
 refine ⟨⟨E.ev.root, E.ev.oo, by rw [List.length_set, List.length_set]; exact E.ev.len, fun j s h => ?_, fun j k l ds es hjk h1 h2 h3 h4 => ?_⟩, E.omr, E.keep, E.om, fun j ds l h1 ho h2 => ?_, E.sub⟩
 ·rw [a1u] at h ⊢
  by_cases hij : i = j
  ·rw [if_pos hij] at h
   split at h
   ·cases h; trivial
   ·cases h
  ·rw [if_neg hij] at h ⊢
   exact E.ev.at_ j s h
 ·obtain ⟨n1, h1⟩ := ne h1
  obtain ⟨n2, h2⟩ := ne h2
  rw [a1u, if_neg n1] at h3
  rw [a1u, if_neg n2] at h4
  exact E.ev.dis j k l ds es hjk h1 h2 h3 h4
 ·rw [a1u] at h1 h2
  by_cases hij : i = j
  ·rw [if_pos hij] at h1
   split at h1
   ·cases h1; exact ho.elim
   ·cases h1
  ·rw [if_neg hij] at h1 h2
   exact E.nr1 j ds l h1 ho h2
theorem Fin.gone {Dn : Ends} {i : Nat} {o : Out} (h : Fin K Hr R0 P0 H0 Dn (o.gone i)) : Fin K Hr R0 P0 H0 (Dn.gone i) o := by
 cases o with
 | nx δ' => exact fun O' σ' H' F => h O' _ H' F.unset
 | rt d => exact h
 | bk δ' => exact fun O' σ' H' F => h O' _ H' F.unset
 | ct δ' => exact fun O' σ' H' F => h O' _ H' F.unset
def exS (N i : Nat) (a : Addr) : DS := (List.replicate N Sl.un).set i (.ex a)
theorem ei_exS {N i : Nat} {a : Addr} (E : EI K Hr R0 P0 H0 O H σ δ) (s : Same H H') : EI K H O (fun _ => False) H O H' ((List.replicate N none).set i (some (.ref a))) (exS N i a) := by
 have no : ∀ {j : Nat} {s : Sl}, (exS N i a)[j]? = some s -> s.own -> False := fun {j s} h ho => by
  unfold exS at h
  rw [a1u, List.getElem?_replicate] at h
  split at h <;> (try split at h) <;> (cases h; try exact ho)
 refine ⟨⟨s, fun l hl => (E.ev.oo l hl).same s, by unfold exS; simp, fun j sl h => ?_, fun j k l ds es _ h1 => (no h1 trivial).elim⟩, fun l hl => .inl hl, fun b o _ h => s _ _ h, fun l hl => .inl hl, fun j ds l h1 ho => (no h1 ho).elim, fun l hl => hl⟩
 unfold exS at h
 rw [a1u, List.getElem?_replicate] at h
 rw [a1u]
 by_cases hij : i = j
 ·rw [if_pos hij] at h ⊢
  rw [List.length_replicate] at h ⊢
  split at h
  ·rename_i hlt
   rw [if_pos hlt]
   cases h
   rfl
  ·cases h
 ·rw [if_neg hij] at h
  split at h
  ·cases h; trivial
  ·cases h
open Classical in
noncomputable def trySuite (N i : Nat) (gs : Addr -> DS -> M Out) : M Out :=
 if h : ∃ r, ∀ a, (noX (gs a (exS N i a))).thn (fun o => M.ret (o.gone i)) = r then choose h else none
theorem trySuite_eq {N i : Nat} {gs : Addr -> DS -> M Out} {r : M Out} (h : ∀ a, (noX (gs a (exS N i a))).thn (fun o => M.ret (o.gone i)) = r) : trySuite N i gs = r := by
 unfold trySuite
 rw [dif_pos ⟨r, h⟩]
 have q := Classical.choose_spec (p := fun r => ∀ a, (noX (gs a (exS N i a))).thn (fun o => M.ret (o.gone i)) = r) ⟨r, h⟩
 exact (q 0).symm.trans (h 0)
theorem trySuite_at {N i : Nat} {gs : Addr -> DS -> M Out} {G : XD -> Prop} {k : Out -> Prop} (h : ok G (trySuite N i gs) k) (a : Addr) : ok G ((noX (gs a (exS N i a))).thn (fun o => M.ret (o.gone i))) k := by
 unfold trySuite at h
 split at h
 ·rename_i q
  rw [Classical.choose_spec q a]
  exact h
 ·exact h.elim
open Classical in
noncomputable def gTry (x : Str) (N i : Nat) (gb : DS -> M Out) (gs : Addr -> DS -> M Out) : DS -> M Out := fun δ => match gb (noOw δ) with
 | none => none
 | some (.ok o) => some (.ok o)
 | some (.error y) => if y.cls = x then trySuite N i gs else none
end
section
variable {X : Cx} {G : XD -> Hp -> Prop}
end
end DL
namespace L2
open PySem PySem.Spec PySem.W PySem.Calls PyProof.Rows
open PySem.Builtin.ObjectAttr PySem.Builtin PySem.Builtin.Getset_descriptor
def ExcAt (x D : Addr) (h : Heap) : Prop := ∃ o, h.get? x = some o /\ o.cls = .ref D
section
variable {prog : Program} {w : World} {A : Around} {E : Value -> Shared -> Prop} {K : Frag} {x D : Addr} {h : Heap} {g : Array GenState} {d : Drawn} {t : Nat} {os : OsState}
theorem exc_type {M : Model} (p : ExcAt x D h) : Looks M h (typeOf (.ref x)) (.ref D) := by
 obtain ⟨o, h1, h2⟩ := p
 exact h2 ▸ (Looks.ld h1).andThen .now
theorem exc_ga_check {M : Model} {nameV : Value} {Q : Unit -> Shared -> Prop} (X : K.In h) (p : ExcAt x D h) (hb : mroIn K D (.type "BaseException") = some true) (hq : Q () ⟨h, g, d, t, os⟩) :
  wpAny M A (checkBuiltinCall "BaseException.__getattribute__" ⟨[.ref x, nameV], []⟩) Q E ⟨h, g, d, t, os⟩ := by
 have L0 := exc_type (M := M) p
 have L1 := looks_mroIn (M := M) X hb
 have LI : Looks M h (isInstance (.ref x) (.type "BaseException")) true := L0.andThen L1
 have hk : builtinKind "BaseException.__getattribute__" = some .slot := by decide +kernel
 have hsplit : splitId "BaseException.__getattribute__" = some ("BaseException", "__getattribute__") := by decide +kernel
 have ha := F.args_bexc_ga (.ref x) nameV
 simp only [checkBuiltinCall, hk, hsplit]
 refine wpAny_bind (LI.at ?_)
 repeat (any_goals (first | assumption | wp_step))
end
end L2
namespace DL
open PySem PySem.Spec PyProof.Rows L2
section
variable {X : Cx} {G : XD -> Hp -> Prop} {pos : Pos}
end
end DL
namespace DL
open PySem PySem.Spec PyProof.Rows L2
section
variable {X : Cx}
end
end DL
namespace DL
open PySem PySem.Spec PyProof.Rows L2
section
variable {X : Cx}
def oStr : List D -> Option D
 | [.int i] => if i.natAbs.log2 < 1920 then some (.str (Str.ofString (toString i))) else none
 | _ => none
theorem dcall_str : DCall X (.type "str") oStr := by
 refine ⟨_, call_str_int, fun O H ds d vs Q oo rs e k => ?_⟩
 unfold oStr at e
 split at e
 ·rename_i i
  by_cases hz : i.natAbs.log2 < 1920
  ·rw [if_pos hz] at e
   cases e
   obtain ⟨v, rfl, r⟩ := reps1 rs
   exact ⟨i, by rw [r.int_inv], hz, k _ H (Same.refl H) (.str _)⟩
  ·rw [if_neg hz] at e; cases e
 ·cases e
end
end DL
namespace DL
open PySem PySem.Spec PyProof.Rows L2
section
variable {δ : DS} {y : XD} {x : Str} {N i : Nat} {gb : DS -> M Out} {gs : Addr -> DS -> M Out} {o : Out}
theorem ev_raise {fa : DS -> M (List D)} {ds : List D} (h : fa δ = M.ret ds) (hz : small ds.length = true) : gRaise x fa δ = some (.error ⟨x, []⟩) := by
 unfold gRaise
 rw [h]
 show (if small ds.length = true then _ else _) = _
 rw [if_pos hz]
theorem ev_callX {F : List D -> M D} {fa : DS -> M (List D)} {ds : List D} {d : D} (h1 : fa δ = M.ret ds) (h2 : F ds = M.ret d) : dCall F fa δ = M.ret d := by unfold dCall; rw [h1]; exact h2
theorem er_callX {F : List D -> M D} {fa : DS -> M (List D)} {ds : List D} (h1 : fa δ = M.ret ds) (h2 : F ds = some (.error y)) : dCall F fa δ = some (.error y) := by unfold dCall; rw [h1]; exact h2
theorem er_run {g : DS -> M Out} {ds : List D} (h : g (startD N ds) = some (.error y)) : run N g ds = some (.error y) := by unfold run; rw [h]; rfl
theorem er_seq {g h : DS -> M Out} (e : g δ = some (.error y)) : gSeq g h δ = some (.error y) := by unfold gSeq; rw [e]; rfl
theorem er_if_t {c : DS -> M Bool} {g h : DS -> M Out} (e : c δ = M.ret true) (e2 : g δ = some (.error y)) : gIf c g h δ = some (.error y) := by unfold gIf; rw [e]; exact e2
end
end DL
namespace DL
open PySem PySem.Spec PyProof.Rows L2
section
variable {X : Cx} {G : XD -> Hp -> Prop} {a b c e : Expr} {es : List Expr} {f : DS -> M D} {fb : DS -> M Bool} {fa : DS -> M (List D)} {pos : Pos} {sts : List Stmt} {gs : DS -> M Out}
def whileD (c : DS -> M Bool) (g : DS -> M Out) : Nat -> DS -> M Out
 | 0, _ => none
 | n + 1, δ => (c δ).thn fun b => if b = true then (g δ).thn fun o => match o with
   | .nx δ' => whileD c g n δ'
   | .ct δ' => whileD c g n δ'
   | .bk δ' => M.ret (.nx δ')
   | .rt d => M.ret (.rt d)
  else M.ret (.nx δ)
theorem while_more {c : DS -> M Bool} {g : DS -> M Out} : ∀ {n : Nat} {δ : DS} {r : Except XD Out} (k : Nat), whileD c g n δ = some r -> whileD c g (n + k) δ = some r
 | 0, _, _, _, h => by cases h
 | n + 1, δ, r, k, h => by
  have e : n + 1 + k = (n + k) + 1 := by omega
  rw [e]
  unfold whileD at h ⊢
  match hc : c δ, h with
  | some (.ok true), h =>
   have h : M.thn (g δ) _ = _ := h
   show M.thn (g δ) _ = _
   match hg : g δ, h with
   | some (.ok (.nx δ')), h => exact while_more k h
   | some (.ok (.ct δ')), h => exact while_more k h
   | some (.ok (.bk δ')), h => exact h
   | some (.ok (.rt d)), h => exact h
   | some (.error x), h => exact h
  | some (.ok false), h => exact h
  | some (.error x), h => exact h
noncomputable def gWhile (c : DS -> M Bool) (g : DS -> M Out) : DS -> M Out := fun δ =>
 open Classical in if h : ∃ n r, whileD c g n δ = some r then whileD c g (Classical.choose h) δ else none
theorem gWhile_some {c : DS -> M Bool} {g : DS -> M Out} {n : Nat} {δ : DS} {r : Except XD Out} (h : whileD c g n δ = some r) : gWhile c g δ = some r := by
 have hx : ∃ n r, whileD c g n δ = some r := ⟨n, r, h⟩
 unfold gWhile
 rw [dif_pos hx]
 obtain ⟨r', hr⟩ := Classical.choose_spec hx
 have h1 := while_more (Classical.choose hx) h
 have h2 := while_more n hr
 rw [Nat.add_comm] at h2
 rw [h2] at h1
 rw [hr, h1]
theorem gWhile_inv {c : DS -> M Bool} {g : DS -> M Out} {δ : DS} {r : Except XD Out} (h : gWhile c g δ = some r) : ∃ n, whileD c g n δ = some r := by
 unfold gWhile at h
 split at h
 ·exact ⟨_, h⟩
 ·cases h
theorem pd_while {body : List Stmt} (hp : PassesOwn (model X.prog X.w) X.A X.env X.xe) (hc : PDT X G c fb) (hb : PDSs X G body gs) : PDS X G (.While c body [] pos) (gWhile fb gs) := by
 obtain ⟨tc, pc, hc⟩ := hc
 obtain ⟨tb, pb, hb⟩ := hb
 refine ⟨_, ps_while hp pc pb, fun {Hr} R0 P0 H0 δ O σ H Dn E k => ?_⟩
 obtain ⟨n, hn⟩ : ∃ n, ok (GS G Hr) (whileD fb gs n δ) (Fin X.K Hr R0 P0 H0 Dn) := by
  cases e : gWhile fb gs δ with
  | none => rw [e] at k; exact k.elim
  | some r =>
   obtain ⟨n, hn⟩ := gWhile_inv e
   rw [e] at k
   exact ⟨n, by rw [hn]; exact k⟩
 refine ⟨fun m σ H => ∃ δ O, EI X.K Hr R0 P0 H0 O H σ δ /\ ok (GS G Hr) (whileD fb gs m δ) (Fin X.K Hr R0 P0 H0 Dn), ⟨n, δ, O, E, hn⟩, fun m σ H hw => ?_⟩
 obtain ⟨δ, O, E, k⟩ := hw
 cases m with
 | zero => exact k.elim
 | succ m =>
  unfold whileD at k
  refine hc δ O σ H _ E.ev (a0j (a0o k) fun b z H1 s1 => ?_)
  cases b with
  | false => exact z O σ H1 (E.same s1)
  | true =>
   have z : ok (GS G Hr) (M.thn (gs δ) _) _ := z
   refine ⟨fun σ' H' => ∃ δ O, EI X.K Hr R0 P0 H0 O H' σ' δ /\ ok (GS G Hr) (whileD fb gs m δ) (Fin X.K Hr R0 P0 H0 Dn), fun σ' H' hN => ⟨m, Nat.lt_succ_self m, hN⟩, ?_⟩
   refine hb R0 P0 H0 δ O σ H1 _ (E.same s1) (a0j (a0o z) fun o q => ?_)
   cases o with
   | nx δ' => exact fun O' σ' H' E' => ⟨δ', O', E', q⟩
   | ct δ' => exact fun O' σ' H' E' => ⟨δ', O', E', q⟩
   | bk δ' => exact q
   | rt d => exact q
end
section
variable {X : Cx}
def oInt : List D -> Option D
 | [.int i] => some (.int i)
 | [.bool b] => some (.int (if b then 1 else 0))
 | _ => none
end
section
variable {δ δ' : DS} {f : DS -> M D} {fb : DS -> M Bool} {fa : DS -> M (List D)} {gs gt g1 g2 : DS -> M Out} {d x y : D} {b : Bool} {ds : List D} {r : M Out} {o : Out}
theorem ev_while_t {r : Except XD Out} (h1 : fb δ = M.ret true) (h2 : gs δ = M.ret (.nx δ')) (h3 : gWhile fb gs δ' = some r) : gWhile fb gs δ = some r := by
 obtain ⟨n, hn⟩ := gWhile_inv h3
 refine gWhile_some (n := n + 1) ?_
 unfold whileD
 rw [h1, a0t, if_pos rfl, h2, a0t]
 exact hn
theorem ev_while_f (h1 : fb δ = M.ret false) : gWhile fb gs δ = M.ret (.nx δ) := by
 refine gWhile_some (n := 1) ?_
 unfold whileD
 rw [h1, a0t, if_neg Bool.false_ne_true]
 rfl
theorem a1p (h1 : fb δ = M.ret b) (hb : b = false) (h2 : gt δ = r) : gSeq (gIf fb g1 gNext) gt δ = r := by
 subst hb
 unfold gSeq gIf; rw [h1, a0t, if_neg Bool.false_ne_true]; exact h2
theorem ev_pass1 (h1 : fb δ = M.ret b) (hb : b = false) : gIf fb g1 gNext δ = M.ret (.nx δ) := by
 subst hb
 unfold gIf; rw [h1, a0t, if_neg Bool.false_ne_true]; rfl
theorem o_addL {xs ys : List D} (h : small (xs.length + ys.length) = true) : oAdd (.list xs) (.list ys) = some (.list (xs ++ ys)) := by
 show (if small (xs.length + ys.length) = true then _ else _) = _
 rw [if_pos h]
theorem o_addS {xs ys : Str} (h : small (xs.length + ys.length) = true) : oAdd (.str xs) (.str ys) = some (.str (xs ++ ys)) := by
 show (if small (xs.length + ys.length) = true then _ else _) = _
 rw [if_pos h]
end
end DL
namespace L2
open PySem PySem.Spec PyProof.Rows
section
variable {X : Cx}
theorem Inv.turnNew {pins : List (Addr × Obj)} {σ : St} {H : Hp} {s : Shared} {h' : Heap} {t' : Nat} {ch : List Addr} {a : Addr} {o : HO} (I : Inv X pins σ H s) (hf : ∀ b ∈ ch, FpOk X pins H b)
  (k : ∀ b u, b ∉ ch -> s.heap.get? b = some u -> h'.get? b = some u) (hp : s.heap.objs.size <= a) (new : ObjOk X.prog X.w (upd H a o) h' a o) : Inv X pins σ (upd H a o) { s with heap := h', toks := t' } := by
 have hn := I.hok.fresh hp
 have nc : ∀ {b : Addr} {u : HO}, H b = some u -> b ∉ ch := fun e z => by rw [(hf _ z).1] at e; cases e
 refine I.call (g' := s.gens) (d' := s.drawn) (ch := ch) ⟨fun b u q _ _ hc => k b u hc q, fun b u q _ _ hc => ⟨u.slots, k b u hc q⟩, fun b u q n _ => ?_, fun b u q hc => ⟨u, k b u hc q⟩, fun b xs q => ?_, fun b u xs q => ?_, fun b ps q => ⟨#[], ?_⟩⟩ (fun b u e => ?_) I.bare fun b hb => ?_
 ·rw [upd_ne (Nat.ne_of_lt (Nat.lt_of_lt_of_le (Heap.lt_size q) hp))]; exact n
 ·rw [upd_ne (a0q q hn)]; exact q
 ·rw [upd_ne (a0q q hn)]; exact q
 ·rw [upd_ne (a0q q hn), q]; simp
 ·by_cases hb : b = a
  ·subst hb; rw [a0w] at e; cases e; exact new
  ·rw [upd_ne hb] at e
   refine (I.hok b u e).stay (fun c v hc q => k c v ?_ q) (fun c q => by rw [upd_ne (a0q q hn)]; exact q) fun c xs q => by rw [upd_ne (a0q q hn)]; exact q
   rcases hc with rfl | hc
   ·exact nc e
   ·exact nc hc
 ·obtain ⟨_, f1, _, f3, f4, f5⟩ := hf b hb
  exact ⟨f3, f1, f4, f5⟩
theorem Inv.turnAll {pins : List (Addr × Obj)} {σ : St} {H : Hp} {s : Shared} {h' : Heap} {t' : Nat} {ch : List Addr} (I : Inv X pins σ H s) (hf : ∀ b ∈ ch, FpOk X pins H b)
  (k : ∀ b u, b ∉ ch -> s.heap.get? b = some u -> h'.get? b = some u) : Inv X pins σ H { s with heap := h', toks := t' } := by
 have nc : ∀ {b : Addr} {u : HO}, H b = some u -> b ∉ ch := fun e z => by rw [(hf _ z).1] at e; cases e
 refine I.call (g' := s.gens) (d' := s.drawn) (ch := ch) ⟨fun b u q _ _ hc => k b u hc q, fun b u q _ _ hc => ⟨u.slots, k b u hc q⟩, fun b u q n _ => n, fun b u q hc => ⟨u, k b u hc q⟩, fun b xs q => q, fun b u xs q => q, fun b ps q => ⟨#[], by rw [q]; simp⟩⟩ (fun b u e => ?_) I.bare fun b hb => ?_
 ·refine (I.hok b u e).stay (fun c v hc q => k c v ?_ q) (fun c q => q) fun c xs q => q
  rcases hc with rfl | hc
  ·exact nc e
  ·exact nc hc
 ·obtain ⟨_, f1, _, f3, f4, f5⟩ := hf b hb
  exact ⟨f3, f1, f4, f5⟩
end
def Ite (K : PySem.W.Frag) (a : Addr) : It :=
  ⟨fun i H => ∃ xs x, SqL K H a xs /\ xs[i]? = some x,
   fun i H v H' => ∃ T, v = .ref T /\ H T = none /\ ∀ xs x, SqL K H a xs -> xs[i]? = some x -> H' = upd H T (.tup [.int i, x]),
   fun i H => ∃ xs, SqL K H a xs /\ xs.length <= i⟩
def Its (x : Str) : It := ⟨fun i _ => i < x.length, fun i H v H' => H' = H /\ ∃ c, x.cps[i]? = some c /\ v = .str ⟨#[c]⟩, fun i _ => x.length <= i⟩
theorem cls_ne {h : Heap} {a b : Addr} {o u : Obj} (e : h.get? a = some o) (e' : h.get? b = some u) (d : o.cls ≠ u.cls) : a ≠ b := fun z => by
 subst z
 rw [e] at e'
 cases e'
 exact d rfl
theorem ty_ne {a b : String} (h : a ≠ b) : Value.type a ≠ Value.type b := fun z => h (Value.type.inj z)
theorem turn_enum {P : Program} {w : World} {K : PySem.W.Frag} {elts : List Expr} {x1 : Nat} {tpos : Pos} (a e it : Addr) (n1 : e ≠ it) :
  Turn P w K (.Tuple elts x1 tpos) (Ite K a) [e, it] e (fun i h => (∃ old, IsEnum h e it ((i : Nat) : Int) old) /\ h.IsListIter it a i) where
 mem := by simp
 obj := fun i h st c hc => by
  obtain ⟨⟨old, he⟩, ⟨o1, e1, c1, d1⟩⟩ := st
  simp only [List.mem_cons, List.not_mem_nil, or_false] at hc
  rcases hc with rfl | rfl
  ·exact ⟨_, he, fun v z => by simp at z⟩
  ·exact ⟨_, e1, fun v z => by rw [d1] at z; cases z⟩
 keep := fun i h h' st k => by
  obtain ⟨⟨old, he⟩, h1⟩ := st
  exact ⟨⟨old, k e (by simp) _ he⟩, h1.at fun o e => k it (by simp) o e⟩
 item := by
  intro X hP hw hK hc i pins s σ H E I hf st hg
  subst hP hw hK
  obtain ⟨⟨old, he⟩, h1⟩ := st
  obtain ⟨xs, x, hq, hx⟩ := hg
  obtain ⟨its, rv, p, _⟩ := I.list hq
  obtain ⟨ux, hux, rx⟩ := rv.get hx
  obtain ⟨o1, e1, c1, d1⟩ := id h1
  have fr : H s.heap.objs.size = none := I.hok.fresh (Nat.le_refl _)
  have ne : ∀ {c : Addr} {o : Obj}, s.heap.get? c = some o -> s.heap.objs.size ≠ c := fun e => Nat.ne_of_gt (Heap.lt_size e)
  obtain ⟨oa, ea, ca, da⟩ := id p.isList
  have ne1 : a ≠ e := cls_ne ea he (by rw [ca]; exact ty_ne (by decide))
  have ne2 : a ≠ it := cls_ne ea e1 (by rw [ca, c1]; exact ty_ne (by decide))
  refine wpAny_pyNext_enum_item he h1 p.isList (x := ux) (by simpa using hux) n1 fun h' e' h1' T' sz k => ?_
  refine ⟨_, rfl, wpAny_letOwnedTupleGo_enum e' fun h2 he2 sb => ?_⟩
  have k2 : ∀ c o, c ∉ [e, it] -> s.heap.get? c = some o -> h2.get? c = some o := fun c o hc q => by
   simp only [List.mem_cons, List.not_mem_nil, or_false, not_or] at hc
   exact sb.extBut _ _ hc.1 (k c o hc.1 hc.2 q)
  have T2 : h2.get? s.heap.objs.size = some { cls := .type "tuple", data := .seq #[.int i s.toks, ux] } := sb.extBut _ _ (ne he) T'
  have I1 : Inv X pins σ (upd H s.heap.objs.size (.tup [.int i, x])) { s with heap := h2, toks := s.toks + 1 } := by
   refine I.turnNew hf k2 (Nat.le_refl _) ⟨by show 2 <= _; rw [sizeLine_eq]; omega, [.int i s.toks, ux], .cons ⟨_, rfl⟩ (.cons rx .nil), ?_⟩
   exact ⟨_, T2, rfl, 0, rfl⟩
  refine ⟨.ref s.heap.objs.size, _, I1, rfl, ⟨_, rfl, fr, fun xs' x' q1 q3 => ?_⟩, ⟨⟨ux, he2⟩, h1'.extBut sb.extBut n1.symm⟩, fun c hc => ?_⟩
  ·rw [I.list_inj q1 hq] at q3
   rw [hx] at q3
   cases q3
   rfl
  ·have hn : c ≠ s.heap.objs.size := by
    simp only [List.mem_cons, List.not_mem_nil, or_false] at hc
    rcases hc with rfl | rfl
    ·exact (ne he).symm
    ·exact (ne e1).symm
   rw [upd_ne hn]
   exact (hf c hc).1
 done := by
  intro X hP hw hK hc i pins s σ H E I hf st hg
  subst hP hw hK
  obtain ⟨⟨old, he⟩, h1⟩ := st
  obtain ⟨xs, hq, hx⟩ := hg
  obtain ⟨its, rv, p, _⟩ := I.list hq
  have hl := rv.length
  refine wpAny_pyNext_enum_end (I.ok.hd hc) he h1 p.isList (by simp; omega) fun h' k => ⟨rfl, ?_⟩
  refine I.turnAll (t' := s.toks) hf fun c o hc e => ?_
  simp only [List.mem_cons, List.not_mem_nil, or_false, not_or] at hc
  exact k c o hc.2 e
 self := fun _ _ _ _ _ st h => by
  obtain ⟨⟨old, he⟩, _⟩ := st
  exact wpAny_pyIter_enum he h
section
variable {X : Cx} {elts : List Expr} {x1 : Nat} {tpos : Pos}
def iEnum (K : PySem.W.Frag) (ta : TA) : TI := fun σ H R => ta σ H fun vs H1 => ∃ a, vs = [.ref a] /\ (∃ xs, SqL K H1 a xs) /\ R (Ite K a) H1
def iStr (tl : TE) : TI := fun σ H R => tl σ H fun x H1 => ∃ z, x = .str z /\ R (Its z) H1
theorem pi_enum {a : Expr} {ta : TA} {p pos : Pos} (hg : Gl X "enumerate") (hm : X.mg "enumerate" = none) (ha : PA X [a] ta) (hs : starEach [a] X.env = [(false, eval a X.env)] := by rfl) :
  PI X (.Tuple elts x1 tpos) (.Call (.Name "enumerate" p) [a] [] pos) (iEnum X.K ta) := by
 intro pins s σ H R I h
 refine Call_ (ld_blt I hg hm boot_enumerate (PyProof.Rows.callWith_type1 (thn (ha pos pins s σ H _ I h) fun us s1 ⟨vs, H1, I1, r1, q1⟩ => ?_) hs rfl))
 obtain ⟨l1, e, ⟨xs, hx⟩, q⟩ := q1
 subst e
 cases r1 with
 | cons r rr =>
  cases rr
  cases r
  obtain ⟨its, rv, pl, _⟩ := I1.list hx
  refine call_enumerate_list pl.isList fun h' he h1 sz k => wpAny_pyIter_enum he ?_
  refine ⟨s1.heap.objs.size + 1, [s1.heap.objs.size + 1, s1.heap.objs.size], _, _, H1, rfl, I1.kept (t' := s1.toks) k,
   turn_enum l1 (s1.heap.objs.size + 1) s1.heap.objs.size (by show (_ : Nat) ≠ _; omega), ⟨⟨_, he⟩, h1⟩, fun c hc => ?_, q⟩
  have hc' : s1.heap.objs.size <= c := by
   simp only [List.mem_cons, List.not_mem_nil, or_false] at hc
   rcases hc with rfl | rfl <;> first | exact Nat.le_add_right _ _ | exact Nat.le_refl _
  exact I1.fpOk hc' (I1.hok.fresh hc')
theorem turn_str_ascii {P : Program} {w : World} {K : PySem.W.Frag} {tg : Expr} (it : Addr) (x : Str) (t : Tok) : Turn P w K tg (Its x) [it] it (fun i h => h.IsStrIter it "str_ascii_iterator" x t i) where
 mem := by simp
 obj := fun i h st b hb => by
  have e : b = it := by simpa using hb
  subst e
  obtain ⟨o, e, c, d⟩ := st
  exact ⟨o, e, fun v z => by rw [d] at z; cases z⟩
 keep := fun i h h' st k => let ⟨o, ho, r⟩ := st; ⟨o, k it (by simp) o ho, r⟩
 item := by
  intro X hP hw hK hc i pins s σ H E I hf st hg
  subst hP hw hK
  obtain ⟨f0, f1, f2, f3, f4, f5⟩ := hf it (by simp)
  have hg : i < x.cps.size := hg
  refine wpAny_pyNext_ascii_item st (c := x.cps[i]) (by simp [hg]) fun h' st' sb => ?_
  have I1 : Inv X pins σ H { s with heap := h', toks := s.toks + 1 } := I.turned (fun b o hb e => (sb.2 b hb).trans e) f0 f1 f3 f4 f5
  obtain ⟨o, e, c1, d1⟩ := id st'
  exact ⟨_, rfl, go_of (s := { s with heap := h', toks := s.toks + 1 }) e c1 d1 (by decide) ⟨.str ⟨#[x.cps[i]]⟩, H, I1, ⟨_, rfl⟩, ⟨rfl, x.cps[i], by simp [hg], rfl⟩, st', fun b hb => (hf b hb).1⟩⟩
 done := by
  intro X hP hw hK hc i pins s σ H E I hf st hg
  subst hP hw hK
  obtain ⟨f0, f1, f2, f3, f4, f5⟩ := hf it (by simp)
  have hg : x.cps.size <= i := hg
  exact wpAny_pyNext_ascii_end (I.ok.hd hc) st (by simp; omega) fun h' eb => ⟨rfl, I.turned (t' := s.toks) (fun b o hb e => eb b o hb e) f0 f1 f3 f4 f5⟩
 self := fun _ _ _ _ _ st h => wpAny_pyIter_striter_ascii st h
theorem turn_str_wide {P : Program} {w : World} {K : PySem.W.Frag} {tg : Expr} (it : Addr) (x : Str) (t : Tok) : Turn P w K tg (Its x) [it] it (fun i h => h.IsStrIter it "str_iterator" x t i) where
 mem := by simp
 obj := fun i h st b hb => by
  have e : b = it := by simpa using hb
  subst e
  obtain ⟨o, e, c, d⟩ := st
  exact ⟨o, e, fun v z => by rw [d] at z; cases z⟩
 keep := fun i h h' st k => let ⟨o, ho, r⟩ := st; ⟨o, k it (by simp) o ho, r⟩
 item := by
  intro X hP hw hK hc i pins s σ H E I hf st hg
  subst hP hw hK
  obtain ⟨f0, f1, f2, f3, f4, f5⟩ := hf it (by simp)
  have hg : i < x.cps.size := hg
  refine wpAny_pyNext_wide_item st (c := x.cps[i]) (by simp [hg]) fun h' st' sb => ?_
  have I1 : Inv X pins σ H { s with heap := h', toks := s.toks + 1 } := I.turned (fun b o hb e => (sb.2 b hb).trans e) f0 f1 f3 f4 f5
  obtain ⟨o, e, c1, d1⟩ := id st'
  exact ⟨_, rfl, go_of (s := { s with heap := h', toks := s.toks + 1 }) e c1 d1 (by decide) ⟨.str ⟨#[x.cps[i]]⟩, H, I1, ⟨_, rfl⟩, ⟨rfl, x.cps[i], by simp [hg], rfl⟩, st', fun b hb => (hf b hb).1⟩⟩
 done := by
  intro X hP hw hK hc i pins s σ H E I hf st hg
  subst hP hw hK
  obtain ⟨f0, f1, f2, f3, f4, f5⟩ := hf it (by simp)
  have hg : x.cps.size <= i := hg
  exact wpAny_pyNext_wide_end (I.ok.hd hc) st (by simp; omega) fun h' eb => ⟨rfl, I.turned (t' := s.toks) (fun b o hb e => eb b o hb e) f0 f1 f3 f4 f5⟩
 self := fun _ _ _ _ _ st h => wpAny_pyIter_striter_wide st h
theorem pi_str {l : Expr} {tl : TE} {tg : Expr} (hl : PE X l tl) : PI X tg l (iStr tl) := by
 intro pins s σ H R I h
 refine thn (hl pins s σ H _ I h) fun v s1 ⟨x, H1, I1, r1, q1⟩ => ?_
 obtain ⟨z, e, q⟩ := q1
 subst e
 obtain ⟨t, rfl⟩ := r1
 have fp : ∀ b ∈ [s1.heap.objs.size], FpOk X pins H1 b := fun b hb => by
  have e : b = s1.heap.objs.size := by simpa using hb
  subst e
  exact I1.fpOk (Nat.le_refl _) (I1.hok.fresh (Nat.le_refl _))
 cases ha : z.cps.all (· < 128)
 ·exact wpAny_pyIter_wide ha ⟨s1.heap.objs.size, [s1.heap.objs.size], _, _, H1, rfl, I1.kept (t' := s1.toks) fun b o e => Heap.get?_push_of_some _ e, turn_str_wide _ z t, ⟨_, Heap.get?_push_size _ rfl, rfl, rfl⟩, fp, q⟩
 ·exact wpAny_pyIter_ascii ha ⟨s1.heap.objs.size, [s1.heap.objs.size], _, _, H1, rfl, I1.kept (t' := s1.toks) fun b o e => Heap.get?_push_of_some _ e, turn_str_ascii _ z t, ⟨_, Heap.get?_push_size _ rfl, rfl, rfl⟩, fp, q⟩
end
end L2
namespace L2
open PySem PySem.Spec PyProof.Rows
def compCxG (X : Cx) (scope : Scope) (cl : List (Str × Addr)) (fr : List (Nat × Str)) (tn : List Str) (C : Addr) (s3 : Shared) (H3 : Hp) (fp : List Addr) : Cx where
 prog := X.prog
 w := X.w
 K := X.K
 mg := X.mg
 base := X.base
 A := X.A
 N := tn ++ fr.map (·.2)
 s₀ := s3
 H₀ := H3
 env := compEnvC scope cl C X.env
 outer := X.stack
 stack := X.stack
 ex := fp
 fn := fun _ => false
 calm := X.calm
 pn := []
 xe := fun _ _ => False
def compSt (n : Nat) (fr : List (Nat × Str)) (σ : St) : St := List.replicate n none ++ fr.map fun p => (σ[p.1]?).join
def tCompG (n : Nat) (fr : List (Nat × Str)) (wi : TI) (g : TG) (tc : TT) (te : TE) : TE := fun σ H Q => wi σ H fun J H1 => ∀ l, H1 l = none -> ∃ W : Nat -> Nat -> St -> List V -> Hp -> Prop, (∃ m, W 0 m (compSt n fr σ) [] (upd H1 l (.lst []))) /\
 ∀ i m τ xs H2, W i m τ xs H2 -> H2 l = some (.lst xs) /\ ((J.stop i H2 /\ Q (.ref l) H2) \/ (J.go i H2 /\ xs.length < sizeLine /\ ∀ x H3, J.yld i H2 x H3 -> g x τ H3 fun τ' H4 => tc τ' H4 fun b H5 => if b = true then te τ' H5 fun v H6 => H6 l = some (.lst xs) /\ ∃ m', m' < m /\ W (i + 1) m' τ' (xs ++ [v]) (upd H6 l (.lst (xs ++ [v]))) else ∃ m', m' < m /\ W (i + 1) m' τ' xs H5))
section
variable {X : Cx}
theorem compG_ok {cl : List (Str × Addr)} {fr : List (Nat × Str)} {scope : Scope} {tn : List Str} {C : Addr} {s3 : Shared} {H3 : Hp} {fp : List Addr} {pins : List (Addr × Obj)} {σ : St} (I : Inv X pins σ H3 s3) (hkind : scope.kind = .function) (hsub : ∀ y c, cl.lookup y = some c -> X.env.cells.lookup y = some c) (hhas : ∀ y ∈ (relabel scope X.env).names, (y.2 = .cell \/ y.2 = .free) -> ∃ c, cl.lookup y.1 = some c)
  (hC : s3.heap.objs.size <= C) (hf : ∀ b ∈ fp, FpOk X pins H3 b /\ ∃ o, s3.heap.get? b = some o) (hfs : ∀ b ∈ fp, b ∉ frs X.stack) (hbase : ∀ b ∈ fp, X.base.get? b = none) : (compCxG X scope cl fr tn C s3 H3 fp).Ok where
 mod := I.ok.mod
 kind := hkind
 glob := I.ok.glob
 blt := I.ok.blt
 above := hC
 inj := fun y z c h1 h2 => I.ok.inj y z c (hsub y c h1) (hsub z c h2)
 has := fun y h => by
  rcases h with h | h
  ·exact hhas _ (PySem.mem_of_lookup h) (.inl rfl)
  ·exact hhas _ (PySem.mem_of_lookup h) (.inr rfl)
 cab := fun y c h => by cases h
 hd := I.ok.hd
 frames := I.ok.frames
 stk := .inl rfl
 exf := fun b hb => ⟨by
  obtain ⟨o, ho⟩ := (hf b hb).2
  exact Nat.ne_of_lt (Nat.lt_of_lt_of_le (Heap.lt_size ho) hC), fun y c h => (hf b hb).1.2.2.2.2.1 y c (hsub y c h)⟩
 bs := I.bs
 bsz := Nat.le_trans I.ok.bsz I.sz
 noex := fun b o e hb => by
  have e1 : X.base.get? b = some o := e
  rw [hbase b hb] at e1; cases e1
 exfs := hfs
 funs := I.stack
 frf := I.stkFree
theorem compG_out {cl : List (Str × Addr)} {fr : List (Nat × Str)} {scope : Scope} {tn : List Str} {C : Addr} {s3 s5 : Shared} {H3 H5 : Hp} {fp : List Addr} {pins pins5 : List (Addr × Obj)} {σ σ5 : St} {h' : Heap} (I : Inv X pins σ H3 s3) (hf : ∀ b ∈ fp, FpOk X pins H3 b) (hC : s3.heap.objs.size <= C)
  (I5 : Inv (compCxG X scope cl fr tn C s3 H3 fp) pins5 σ5 H5 s5) (hs : Heap.SameBut C s5.heap h') : Inv X pins σ H5 { s5 with heap := h' } := by
 have nC : ∀ {b : Addr} {o : Obj}, s3.heap.get? b = some o -> b ≠ C := fun e => Nat.ne_of_lt (Nat.lt_of_lt_of_le (Heap.lt_size e) hC)
 have u : Un (frs X.stack) fp H3 H5 s3.heap s5.heap := I5.base
 refine I.call' (ch := fp) I5.os ⟨fun b o e n h1 h2 => ?_, fun b o e n h1 h2 => ?_, u.free, fun b o e h2 => ?_, u.tups, u.frzs, u.tbls⟩ ?_ I5.bare fun b hb => ?_
 ·exact (hs.2 b (nC e)).trans (u.keep b o e n h1 h2)
 ·obtain ⟨sl, e1⟩ := u.slot b o e n h1 h2
  exact ⟨sl, (hs.2 b (nC e)).trans e1⟩
 ·obtain ⟨o', e1⟩ := u.there b o e h2
  exact ⟨o', (hs.2 b (nC e)).trans e1⟩
 ·intro a o e
  have hn : H5 C = none := I5.free
  refine (I5.hok a o e).stay (fun b u hb q => (hs.2 b ?_).trans q) (fun _ q => q) fun _ _ q => q
  rcases hb with rfl | hb
  ·exact a0q e hn
  ·exact a0q hb hn
 ·obtain ⟨_, f1, _, f3, f4, f5⟩ := hf b hb
  exact ⟨f3, f1, f4, f5⟩
def PTs (X : Cx) (ifs : List Expr) (t : TT) : Prop :=
 ∀ (pins : List (Addr × Obj)) (s : Shared) (σ : St) (H : Hp) (Q : Bool -> Hp -> Prop), Inv X pins σ H s -> t σ H Q ->
  wpAny (model X.prog X.w) X.A (forIn ifs true fun c r => if r = true then do let ok <- isTrue c X.env (eval c X.env); pure (ForInStep.yield ok) else pure (ForInStep.yield r)) (TP X pins σ Q) X.xe s
def tYes : TT := fun _ H Q => Q true H
theorem pts_nil : PTs X [] tYes := fun pins s σ H Q I h => wpAny_tests_nil ⟨H, I, h⟩
theorem pe_compG {cl : List (Str × Addr)} {fr : List (Nat × Str)} {tn : List Str} {elt iter tg : Expr} {ifs : List Expr} {scope : Scope} {pos : Pos} {wi : TI} {g : TG} {tc : TT} {te : TE} (hc : X.calm = true)
  (hkind : scope.kind = .function) (hcell : ∀ y ∈ scope.names, y.2 ≠ .cell) (hclos : closureFor scope X.env = pure cl) (hsub : ∀ y c, cl.lookup y = some c -> X.env.cells.lookup y = some c)
  (hhas : ∀ y ∈ (relabel scope X.env).names, (y.2 = .cell \/ y.2 = .free) -> ∃ c, cl.lookup y.1 = some c) (hfr : ∀ p ∈ fr, X.N[p.1]? = some p.2 /\ X.env.kindOf p.2 = some .cell /\ (compEnvC scope cl 0 X.env).kindOf p.2 = some .cell /\ ∃ c, cl.lookup p.2 = some c) (hnames : ∀ y ∈ scope.names, y.2 = .local -> scope.names.lookup y.1 = some .local)
  (hi : PI X tg iter wi) (hg : ∀ C s3 H3 fp, PG (compCxG X scope cl fr tn C s3 H3 fp) tg g) (hcs : ∀ C s3 H3 fp, PTs (compCxG X scope cl fr tn C s3 H3 fp) ifs tc) (he : ∀ C s3 H3 fp, PE (compCxG X scope cl fr tn C s3 H3 fp) elt te) (hs : ∀ x, foldedSetIterable iter X.env x = pure x := by intro _; rfl) :
  PE X (.ListComp elt [⟨tg, iter, ifs, 0⟩] scope pos) (tCompG tn.length fr wi g tc te) := by
 intro pins s σ H Q I h
 rw [eval_ListComp]
 refine wpAny_comprehension_free (use := none) rfl hs hclos hkind hnames (thn (hi pins s σ H _ I h) fun v s1 h1 => thn h1 fun itv s2 h2 => ?_)
 obtain ⟨it, fp, tk, J, H2, e, I2, T, st2, f2, R⟩ := h2
 subst e
 have fl : H2 s2.heap.objs.size = none := I2.hok.fresh (Nat.le_refl _)
 obtain ⟨W, ⟨m0, w0⟩, turn⟩ := R s2.heap.objs.size fl
 refine wpAny_newObj_type (wpAny_newFunctionEnv hcell (by intro y hy; simp at hy) (fun h4 hns hsb => ?_) hkind)
 have I3 : Inv X pins σ (upd H2 s2.heap.objs.size (.lst [])) { s2 with heap := s2.heap.push { cls := .type "list", data := .seq ([] : List Value).toArray } } :=
  I2.laid (t' := s2.toks) (fun b o e => Heap.get?_push_of_some _ e) (Nat.le_refl _) ⟨Nat.zero_le _, [], 0, .nil, Heap.get?_push_size _ rfl⟩
 have ob : ∀ b ∈ fp, ∃ o, s2.heap.get? b = some o := fun b hb => let ⟨o, ho, _⟩ := T.obj 0 _ st2 b hb; ⟨o, ho⟩
 have f3 : ∀ b ∈ fp, FpOk X pins (upd H2 s2.heap.objs.size (.lst [])) b := fun b hb => by
  obtain ⟨g0, g1, g2, g3, g4, g5⟩ := f2 b hb
  obtain ⟨o, ho⟩ := ob b hb
  exact ⟨by rw [upd_ne (Nat.ne_of_lt (Heap.lt_size ho))]; exact g0, g1, g2, g3, g4, g5⟩
 generalize hs3 : ({ s2 with heap := s2.heap.push { cls := .type "list", data := .seq ([] : List Value).toArray } } : Shared) = s3 at I3
 have heap3 : s2.heap.push { cls := .type "list", data := .seq ([] : List Value).toArray } = s3.heap := by rw [<- hs3]
 have old3 : ∀ b o, s2.heap.get? b = some o -> s3.heap.get? b = some o := fun b o e => by rw [<- heap3]; exact Heap.get?_push_of_some _ e
 have ok3 : (compCxG X scope cl fr tn s3.heap.objs.size s3 (upd H2 s2.heap.objs.size (.lst [])) fp).Ok := by
  refine compG_ok I3 hkind hsub hhas (Nat.le_refl _) (fun b hb => ⟨f3 b hb, let ⟨o, ho⟩ := ob b hb; ⟨o, old3 b o ho⟩⟩) (fun b hb z => ?_) fun b hb => ?_
  ·obtain ⟨_, g1, g2, _⟩ := f2 b hb
   rcases List.mem_cons.mp (I2.stkSub b z) with q | q
   ·exact g1 q
   ·exact g2 q
  ·obtain ⟨_, _, _, g3, _⟩ := f2 b hb
   rcases g3 with q | q
   ·cases e : X.base.get? b with
    | none => rfl
    | some o => exact absurd q (I.ok.noex b o e)
   ·exact Heap.get?_none_of_le (Nat.le_trans I.ok.bsz q)
 have hns3 : h4.Ns s3.heap.objs.size (fun y => ([] : List (Str × Value)).reverse.lookup y) := by rw [<- heap3]; exact hns
 have keep4 : ∀ b o, s3.heap.get? b = some o -> h4.get? b = some o := fun b o e => by
  have e1 : (s2.heap.push { cls := .type "list", data := .seq ([] : List Value).toArray }).get? b = some o := by rw [heap3]; exact e
  exact (hsb.2 b (Nat.ne_of_lt (Heap.lt_size e1))).trans (Heap.get?_push_of_some _ e1)
 have I4 : Inv (compCxG X scope cl fr tn s3.heap.objs.size s3 (upd H2 s2.heap.objs.size (.lst [])) fp) [] (compSt tn.length fr σ) (upd H2 s2.heap.objs.size (.lst [])) { s3 with heap := h4 } := by
  refine ⟨ok3, rfl, I3.bare, Un.kept keep4, ⟨_, hns3, fun i y v e1 e2 e3 => ?_⟩, (fun y c h => let ⟨v, oc, ho, hd⟩ := I3.cell y c (hsub y c h); ⟨v, oc, keep4 _ _ ho, hd⟩), I3.hok.fresh (Nat.le_refl _), (fun y c h => I3.freeC y c (hsub y c h)), (fun p hp => nomatch hp), I3.hok.kept keep4, by simp [compCxG, compSt]⟩
  have e1 : (tn ++ fr.map (·.2))[i]? = some y := e1
  have e2 : (List.replicate tn.length none ++ fr.map fun p => (σ[p.1]?).join)[i]? = some (some v) := e2
  by_cases hlt : i < tn.length
  ·rw [List.getElem?_append_left (by simpa using hlt), List.getElem?_replicate] at e2
   split at e2 <;> cases e2
  ·rw [List.getElem?_append_right (by omega)] at e1
   rw [List.getElem?_append_right (by simpa using hlt), List.length_replicate] at e2
   rw [List.getElem?_map] at e1 e2
   cases q : fr[i - tn.length]? with
   | none => rw [q] at e1; cases e1
   | some p =>
    rw [q] at e1 e2
    have e1 : p.2 = y := Option.some.inj e1
    have e2 : (σ[p.1]?).join = some v := Option.some.inj e2
    subst e1
    obtain ⟨g1, g2, g3, c, g4⟩ := hfr p (List.mem_of_getElem? q)
    have e4 : σ[p.1]? = some (some v) := by
     cases z : σ[p.1]? with
     | none => rw [z] at e2; cases e2
     | some w' => rw [z] at e2; exact congrArg some e2
    obtain ⟨m, hn, hl⟩ := I3.loc
    obtain ⟨u, ru, lk⟩ := hl p.1 p.2 v g1 e4 (.inr (.inl g2))
    refine ⟨u, ru, .inr ⟨.inl g3, c, g4, ?_⟩⟩
    rcases lk with ⟨k1, _⟩ | ⟨_, c', k2, k3⟩
    ·rw [g2] at k1; cases k1
    ·rw [hsub _ _ g4] at k2
     cases k2
     obtain ⟨oc, ho, hd⟩ := k3
     exact ⟨oc, keep4 _ _ ho, hd⟩
 have st4 : tk 0 h4 := T.keep 0 _ _ st2 fun b hb o e => keep4 b o (old3 b o e)
 have loop : codeAny (model X.prog X.w) X.A (.compLoop (.ListComp elt [⟨tg, iter, ifs, 0⟩] scope pos) 0 (.ref it) (.ref s2.heap.objs.size) (compEnvC scope cl s3.heap.objs.size X.env))
   (compPost (model X.prog X.w) X.A X.xe none (EP X pins σ Q) (.ref s2.heap.objs.size) s3.heap.objs.size) { s3 with heap := h4 } := by
  refine codeAny_loop rfl (fun n s' => ∃ i σ' xs H', Inv (compCxG X scope cl fr tn s3.heap.objs.size s3 (upd H2 s2.heap.objs.size (.lst [])) fp) [] σ' H' s' /\ tk i s'.heap /\ (∀ b ∈ fp, H' b = none) /\ W i n σ' xs H') (fun n s' hI => ?_) m0
   ⟨0, _, [], _, I4, st4, fun b hb => (f3 b hb).1, w0⟩
  show wpAny _ _ ((compTurn (.ListComp elt [⟨tg, iter, ifs, 0⟩] scope pos) 0 (.ref it) (.ref s2.heap.objs.size) (compEnvC scope cl s3.heap.objs.size X.env)).onRaise (fun x => do noteFrame x _; theTreesLotGoes x)) _ _ s'
  refine wpAny_noted ?_
  rw [compTurn_list]
  obtain ⟨i, σ5, xs, H5, I5, st5, fr5, w5⟩ := hI
  have stat : ∀ {H' : Hp}, (∀ b ∈ fp, H' b = none) -> ∀ b ∈ fp, FpOk (compCxG X scope cl fr tn s3.heap.objs.size s3 (upd H2 s2.heap.objs.size (.lst [])) fp) [] H' b := fun hn b hb =>
   ⟨hn b hb, (ok3.exf b hb).1, ok3.exfs b hb, .inl hb, (ok3.exf b hb).2, fun p hp => nomatch hp⟩
  obtain ⟨hl, alt⟩ := turn i n σ5 xs H5 w5
  rcases alt with ⟨stop, qn⟩ | ⟨go, hz, step⟩
  ·refine wpAny_bind (wpAny_standAt (wpAny_bind (thn (T.done (compCxG X scope cl fr tn s3.heap.objs.size s3 (upd H2 s2.heap.objs.size (.lst [])) fp) rfl rfl rfl hc i [] s' σ5 H5 _ I5 (stat fr5) st5 stop) fun r s6 ⟨hr, I6⟩ => ?_)))
   subst hr
   refine wpAny_pure ?_
   obtain ⟨m, hn6, _⟩ := I6.loc
   exact ⟨m, hn6, fun h' hs' => ⟨.ref s2.heap.objs.size, H5, compG_out I3 f3 (Nat.le_refl _) I6 hs', rfl, qn⟩⟩
  ·refine wpAny_bind (wpAny_standAt (wpAny_bind (thn (T.item (compCxG X scope cl fr tn s3.heap.objs.size s3 (upd H2 s2.heap.objs.size (.lst [])) fp) rfl rfl rfl hc i [] s' σ5 H5 _ I5 (stat fr5) st5 go) fun r s6 ⟨u, hr, h6⟩ => ?_)))
   subst hr
   refine wpAny_bind (thn h6 fun _ s7 ⟨y, H7, I7, r7, y7, st7, fr7⟩ => ?_)
   have I7' := I7.pinned (stat fr7) (T.obj _ _ st7)
   have hP := hg s3.heap.objs.size s3 (upd H2 s2.heap.objs.size (.lst [])) fp _ s7 σ5 H7 y u _ I7' r7 (step y H7 y7)
   refine wpAny_bind (wpAny_mono hP (fun _ s8 ⟨σ8, H8, I8, q8⟩ => ?_) (fun _ _ z => False.elim z))
   refine wpAny_bind (wpAny_mono (hcs s3.heap.objs.size s3 (upd H2 s2.heap.objs.size (.lst [])) fp _ s8 σ8 H8 _ I8 q8) (fun b s9 ⟨H9, I9, q9⟩ => ?_) (fun _ _ z => False.elim z))
   have again : ∀ {σ7 : St} {H7 : Hp} {s7' : Shared} {xs' : List V}, Inv (compCxG X scope cl fr tn s3.heap.objs.size s3 (upd H2 s2.heap.objs.size (.lst [])) fp) ([] ++ pinsAt fp s7.heap) σ7 H7 s7' -> (∃ m', m' < n /\ W (i + 1) m' σ7 xs' H7) ->
     ∃ m, m < n /\ ∃ i σ' xs H', Inv (compCxG X scope cl fr tn s3.heap.objs.size s3 (upd H2 s2.heap.objs.size (.lst [])) fp) [] σ' H' s7' /\ tk i s7'.heap /\ (∀ b ∈ fp, H' b = none) /\ W i m σ' xs H' := fun {σ7 H7 s7' xs'} I7 n7 => by
    obtain ⟨m', hm, w7⟩ := n7
    refine ⟨m', hm, i + 1, σ7, xs', H7, I7.unpinned, T.keep _ _ _ st7 fun b hb o e => (I7.pin (b, o) (List.mem_append_right _ (List.mem_append_right _ (mem_pinsAt hb e)))).1, fun b hb => ?_, w7⟩
    obtain ⟨o, e, d⟩ := T.obj _ _ st7 b hb
    exact (I7.pin (b, o) (List.mem_append_right _ (List.mem_append_right _ (mem_pinsAt hb e)))).2.1
   cases b with
   | false =>
    rw [if_neg Bool.false_ne_true] at q9
    exact wpAny_pure ⟨rfl, again I9 q9⟩
   | true =>
    rw [if_pos rfl] at q9
    refine wpAny_bind (wpAny_bind (wpAny_mono (he _ _ _ _ _ s9 σ8 H9 _ I9 q9) (fun uv s10 ⟨v, H10, I10, r10, hl10, w10⟩ => ?_) fun _ _ z => z.elim))
    refine wpAny_bind (wpAny_mono (mt_append (X := compCxG X scope cl fr tn s3.heap.objs.size s3 (upd H2 s2.heap.objs.size (.lst [])) fp) _ s10 _ H10 (.ref s2.heap.objs.size) [v] (.ref s2.heap.objs.size) [uv] (fun _ H' => H' = upd H10 s2.heap.objs.size (.lst (xs ++ [v]))) I10 rfl (.cons r10 .nil) ⟨_, xs, v, rfl, rfl, hl10, hz, rfl⟩) (fun _ s11 ⟨v11, H11, I11, r11, q11⟩ => ?_) (fun _ _ z => False.elim z))
    subst q11
    exact wpAny_pure (wpAny_pure ⟨rfl, again I11 w10⟩)
 subst hs3
 exact codeAny_compStart_list loop (T.self _ 0 _ _ _ st4 loop)
end
end L2
namespace DL
open PySem PySem.Spec PyProof.Rows L2
structure Yl (K : PySem.W.Frag) (J : It) (O : List Addr) (H1 : Hp) (ds : List D) : Prop where
 step : ∀ (O2 : List Addr) (H2 : Hp), To O O2 H1 H2 -> ∀ (i : Nat) (d : D), ds[i]? = some d -> J.go i H2 /\ ∀ x H3, J.yld i H2 x H3 -> Same H2 H3 /\ Rep K O2 H3 x d
 stop : ∀ (O2 : List Addr) (H2 : Hp), To O O2 H1 H2 -> J.stop ds.length H2
def PDI (X : Cx) (G : XD -> Hp -> Prop) (tg iter : Expr) (fi : DS -> M (List D)) : Prop :=
 ∃ wi, PI X tg iter wi /\ ∀ {Hr : Hp} (δ : DS) (O : List Addr) (σ : St) (H : Hp) (R : It -> Hp -> Prop), Ev X.K Hr O H σ δ -> ok (GS G Hr) (fi δ) (fun ds => ∀ J H1, Same H H1 -> Yl X.K J O H1 ds -> R J H1) -> wi σ H R
section
variable {K : PySem.W.Frag} {O : List Addr} {H1 : Hp}
theorem yl_list {a : Addr} {xs : List V} {ds : List D} (hk : ∀ (O2 : List Addr) (H2 : Hp), To O O2 H1 H2 -> SqL K H2 a xs) (rs : Reps K O H1 xs ds) : Yl K (Itl K a) O H1 ds := by
 refine ⟨fun O2 H2 t i d hd => ?_, fun O2 H2 t => ⟨xs, hk O2 H2 t, by rw [rs.length]; exact Nat.le_refl _⟩⟩
 obtain ⟨v, hv, r⟩ := rs.get hd
 refine ⟨⟨xs, v, hk O2 H2 t, hv⟩, fun x H3 y => ?_⟩
 obtain ⟨rfl, y⟩ := y
 have := y xs (hk O2 H3 t)
 rw [hv] at this
 cases this
 exact ⟨Same.refl _, r.to t⟩
theorem yl_tup {a : Addr} {xs : List V} {ds : List D} (hq : SqT K H1 a xs) (rs : Reps K O H1 xs ds) : Yl K (Itt K a) O H1 ds := by
 refine ⟨fun O2 H2 t i d hd => ?_, fun O2 H2 t => ⟨xs, t.sqT hq, by rw [rs.length]; exact Nat.le_refl _⟩⟩
 obtain ⟨v, hv, r⟩ := rs.get hd
 refine ⟨⟨xs, v, t.sqT hq, hv⟩, fun x H3 y => ?_⟩
 obtain ⟨rfl, y⟩ := y
 have := y xs (t.sqT hq)
 rw [hv] at this
 cases this
 exact ⟨Same.refl _, r.to t⟩
theorem yl_range {lo : Int} {n : Nat} : Yl K (Itr lo n) O H1 (rngD lo n) := by
 have hl : (rngD lo n).length = n := by unfold rngD; rw [List.length_map, List.length_range]
 refine ⟨fun O2 H2 t i d hd => ?_, fun O2 H2 t => by rw [hl]; exact Nat.le_refl _⟩
 have hi : i < n := by
  have := (List.getElem?_eq_some_iff.mp hd).1
  omega
 refine ⟨hi, fun x H3 y => ?_⟩
 obtain ⟨rfl, rfl⟩ := y
 unfold rngD at hd
 rw [List.getElem?_map, List.getElem?_range hi] at hd
 cases hd
 exact ⟨Same.refl _, .int _⟩
theorem Rep.lstTo {v : V} {ds : List D} (r : Rep K O H1 v (.list ds)) : ∃ a xs, v = .ref a /\ SqL K H1 a xs /\ (∀ (O2 : List Addr) (H2 : Hp), To O O2 H1 H2 -> SqL K H2 a xs) /\ Reps K O H1 xs ds := by
 cases r with
 | lst h n rs => exact ⟨_, _, rfl, .inl h, fun O2 H2 t => .inl (t.l _ _ n h).2, rs⟩
 | lstK h rs => exact ⟨_, _, rfl, .inr h, fun _ _ _ => .inr h, rs⟩
def enumD (n : Nat) : List D -> List D
 | [] => []
 | x :: xs => .tuple [.int (n : Int), x] :: enumD (n + 1) xs
theorem enumD_len (n : Nat) (xs : List D) : (enumD n xs).length = xs.length := by
 induction xs generalizing n with
 | nil => rfl
 | cons x xs ih => show (enumD (n + 1) xs).length + 1 = _; rw [ih]; rfl
theorem enumD_get {xs : List D} {n i : Nat} {d : D} (h : (enumD n xs)[i]? = some d) : ∃ x, xs[i]? = some x /\ d = .tuple [.int ((n + i : Nat) : Int), x] := by
 induction xs generalizing n i with
 | nil => cases h
 | cons x xs ih =>
  cases i with
  | zero => cases h; exact ⟨x, rfl, rfl⟩
  | succ i =>
   obtain ⟨y, hy, e⟩ := ih (n := n + 1) (i := i) h
   have : n + 1 + i = n + (i + 1) := by omega
   rw [this] at e
   exact ⟨y, hy, e⟩
theorem yl_enum {a : Addr} {xs : List V} {ds : List D} (hk : ∀ (O2 : List Addr) (H2 : Hp), To O O2 H1 H2 -> SqL K H2 a xs) (rs : Reps K O H1 xs ds) : Yl K (Ite K a) O H1 (enumD 0 ds) := by
 refine ⟨fun O2 H2 t i d hd => ?_, fun O2 H2 t => ⟨xs, hk O2 H2 t, ?_⟩⟩
 ·obtain ⟨x, hx, rfl⟩ := enumD_get hd
  obtain ⟨v, hv, r⟩ := rs.get hx
  refine ⟨⟨xs, v, hk O2 H2 t, hv⟩, fun z H3 q => ?_⟩
  obtain ⟨T, rfl, hT, q⟩ := q
  have e := q xs v (hk O2 H2 t) hv
  subst e
  rw [Nat.zero_add]
  exact ⟨a1h hT, rep_newT hT (.cons (.int _) (.cons (r.to t) .nil))⟩
 ·rw [enumD_len, rs.length]
  exact Nat.le_refl _
def signsD (z : Str) : List D := z.cps.toList.map fun c => .str ⟨#[c]⟩
theorem yl_str {z : Str} : Yl K (Its z) O H1 (signsD z) := by
 have hl : (signsD z).length = z.length := by unfold signsD; rw [List.length_map, Array.length_toList]; rfl
 refine ⟨fun O2 H2 t i d hd => ?_, fun O2 H2 t => by rw [hl]; exact Nat.le_refl _⟩
 have hi : i < z.length := by
  have := (List.getElem?_eq_some_iff.mp hd).1
  omega
 refine ⟨hi, fun x H3 y => ?_⟩
 obtain ⟨rfl, c, hc, rfl⟩ := y
 unfold signsD at hd
 rw [List.getElem?_map, Array.getElem?_toList, hc] at hd
 cases hd
 exact ⟨Same.refl _, .str _⟩
end
section
variable {X : Cx} {G : XD -> Hp -> Prop} {tg iter a b : Expr} {f : DS -> M D} {fa : DS -> M (List D)} {pos p : Pos} {elts : List Expr} {x1 : Nat} {tpos : Pos}
def dSeq (f : DS -> M D) : DS -> M (List D) := fun δ => (f δ).thn fun d => M.lift (seqD d)
theorem pdi_seq (h : PD X G iter f) : PDI X G tg iter (dSeq f) := by
 obtain ⟨t, q, h⟩ := h
 refine ⟨_, pi_seq q, fun δ O σ H R E k => ?_⟩
 refine h δ O σ H _ E (a0j (a0o k) fun d z v H1 s1 r => ?_)
 obtain ⟨ds, hd, z⟩ := ok_lift z
 cases d with
 | list es =>
  cases hd
  obtain ⟨a, xs, rfl, hq, hk, rs⟩ := r.lstTo
  exact ⟨a, rfl, .inl ⟨⟨xs, hq⟩, z _ H1 s1 (yl_list hk rs)⟩⟩
 | tuple es =>
  cases hd
  obtain ⟨a, xs, rfl, hq, rs⟩ := r.tup_inv
  exact ⟨a, rfl, .inr ⟨⟨xs, hq⟩, z _ H1 s1 (yl_tup hq rs)⟩⟩
 | _ => cases hd
def dRng (rng : List D -> Option (List D)) (fa : DS -> M (List D)) : DS -> M (List D) := fun δ => (fa δ).thn fun ds => M.lift (rng ds)
theorem pdi_rng1 (hgl : Gl X "range") (hm : X.mg "range" = none) (ha : PDA X G [a] fa) (hs1 : starEach [a] X.env = [(false, eval a X.env)] := by rfl) : PDI X G tg (.Call (.Name "range" p) [a] [] pos) (dRng rng1 fa) := by
 obtain ⟨_, ta, pa, ha⟩ := ha
 refine ⟨_, pi_range1 hgl hm pa hs1, fun δ O σ H R E k => ?_⟩
 refine ha δ O σ H _ E (a0j (a0o k) fun ds z vs H1 s1 rs => ?_)
 obtain ⟨xs, hd, z⟩ := ok_lift z
 unfold rng1 at hd
 split at hd
 ·rename_i j
  by_cases hz : b62 j = true
  ·rw [if_pos hz] at hd
   cases hd
   obtain ⟨v, rfl, r⟩ := reps1 rs
   obtain ⟨z1, z2⟩ := b62_of hz
   exact ⟨j, by rw [r.int_inv], z1, z2, z _ H1 s1 yl_range⟩
  ·rw [if_neg hz] at hd; cases hd
 ·cases hd
def dEnum (fa : DS -> M (List D)) : DS -> M (List D) := fun δ => (fa δ).thn fun ds => match ds with
 | [.list xs] => M.ret (enumD 0 xs)
 | _ => none
theorem pdi_enum (hgl : Gl X "enumerate") (hm : X.mg "enumerate" = none) (ha : PDA X G [a] fa) (hs1 : starEach [a] X.env = [(false, eval a X.env)] := by rfl) :
  PDI X G (.Tuple elts x1 tpos) (.Call (.Name "enumerate" p) [a] [] pos) (dEnum fa) := by
 obtain ⟨_, ta, pa, ha⟩ := ha
 refine ⟨_, pi_enum hgl hm pa hs1, fun δ O σ H R E k => ?_⟩
 refine ha δ O σ H _ E (a0j (a0o k) fun ds z vs H1 s1 rs => ?_)
 match ds, z with
 | [.list xs], z =>
  obtain ⟨v, rfl, r⟩ := reps1 rs
  obtain ⟨a1, us, rfl, hq, hk, r1⟩ := r.lstTo
  exact ⟨a1, rfl, ⟨us, hq⟩, z _ H1 s1 (yl_enum hk r1)⟩
def dSigns (f : DS -> M D) : DS -> M (List D) := fun δ => (f δ).thn fun d => match d with
 | .str z => M.ret (signsD z)
 | _ => none
theorem pdi_str (h : PD X G iter f) : PDI X G tg iter (dSigns f) := by
 obtain ⟨t, q, h⟩ := h
 refine ⟨_, pi_str q, fun δ O σ H R E k => ?_⟩
 refine h δ O σ H _ E (a0j (a0o k) fun d z v H1 s1 r => ?_)
 match d, z, r with
 | .str w, z, r => exact ⟨w, r.str_inv, z _ H1 s1 yl_str⟩
def gForI (fi : DS -> M (List D)) (t : D -> DS -> Option DS) (g : DS -> M Out) : DS -> M Out := fun δ => (fi δ).thn fun ds => forD (bodyD t g) ds δ
theorem pd_forI {body : List Stmt} {t : D -> DS -> Option DS} {fi : DS -> M (List D)} {gs : DS -> M Out} (hp : PassesOwn (model X.prog X.w) X.A X.env X.xe) (hc : X.calm = true) (hi : PDI X G tg iter fi) (hg : PDG X tg t) (hb : PDSs X G body gs)
  (hs : ∀ x, foldedSetIterable iter X.env x = pure x := by intro _; rfl) : PDS X G (.For tg iter body [] pos) (gForI fi t gs) := by
 obtain ⟨wi, pi, hi⟩ := hi
 obtain ⟨tgt, pt, hg⟩ := hg
 obtain ⟨tb, pb, hb⟩ := hb
 refine ⟨_, ps_for hp hc pi pt pb hs, @fun Hr R0 P0 H0 δ O σ H Dn E k => ?_⟩
 refine hi δ O σ H _ E.ev (a0j (a0o k) fun ds z J H1 s1 Y => ?_)
 have E1 := E.same s1
 have z1 : ok (GS G Hr) (forD (bodyD t gs) ds δ) (Fin X.K Hr R0 (Ch O R0) H1 Dn) := a0j z fun o q => Fin.outer E1 q
 refine ⟨fun i m σ2 H2 => m = ds.length - i /\ i <= ds.length /\ ∃ δ2 O2, EI X.K Hr R0 (Ch O R0) H1 O2 H2 σ2 δ2 /\ ok (GS G Hr) (forD (bodyD t gs) (ds.drop i) δ2) (Fin X.K Hr R0 (Ch O R0) H1 Dn), ⟨_, rfl, Nat.zero_le _, δ, O, E1.inner, z1⟩, ?_⟩
 rintro i m σ2 H2 ⟨rfl, hi, δ2, O2, E2, k2⟩
 have T := E1.to E2
 by_cases hlt : i < ds.length
 ·right
  have hd : ds[i]? = some ds[i] := List.getElem?_eq_getElem hlt
  obtain ⟨go, yl⟩ := Y.step O2 H2 T i _ hd
  refine ⟨go, fun σ' H' => ∃ δ2 O2, EI X.K Hr R0 (Ch O R0) H1 O2 H' σ' δ2 /\ ok (GS G Hr) (forD (bodyD t gs) (ds.drop (i + 1)) δ2) (Fin X.K Hr R0 (Ch O R0) H1 Dn), fun σ' H' h => ⟨_, by omega, rfl, hlt, h⟩, fun x H3 y => ?_⟩
  obtain ⟨s3, rx⟩ := yl x H3 y
  rw [drop_get hd] at k2
  have k3 := a0o (show ok (GS G Hr) ((bodyD t gs ds[i] δ2).thn _) _ from k2)
  obtain ⟨δ3, h3, k4⟩ := ok_lift (a0o (show ok (GS G Hr) ((M.lift (t ds[i] δ2)).thn gs) _ from k3))
  refine hg R0 (Ch O R0) H1 δ2 δ3 ds[i] x O2 σ2 H3 _ (E2.same s3) rx h3 fun σ4 H4 E4 _ => ?_
  refine hb R0 (Ch O R0) H1 δ3 O2 σ4 H4 _ E4 (a0j k4 fun o z => ?_)
  cases o with
  | nx δ5 => exact fun O5 σ5 H5 E5 => ⟨δ5, O5, E5, z⟩
  | ct δ5 => exact fun O5 σ5 H5 E5 => ⟨δ5, O5, E5, z⟩
  | bk δ5 => exact fun O5 σ5 H5 E5 => z O5 σ5 H5 E5
  | rt d => exact z
 ·left
  have e : i = ds.length := by omega
  subst e
  rw [List.drop_length] at k2
  exact ⟨Y.stop O2 H2 T, k2 O2 σ2 H2 E2⟩
def compD (t : D -> DS -> Option DS) (c : DS -> M Bool) (f : DS -> M D) : List D -> DS -> M (List D)
 | [], _ => M.ret []
 | d :: ds, δ => (M.lift (t d δ)).thn fun δ' => (c δ').thn fun b => if b = true then (f δ').thn fun y => (compD t c f ds δ').thn fun ys => M.ret (y :: ys) else compD t c f ds δ'
def dYes : DS -> M Bool := fun _ => M.ret true
def nX {α : Type} (f : DS -> M α) : DS -> M α := fun δ => noX (f δ)
def dCompG (n : Nat) (js : List Nat) (t : D -> DS -> Option DS) (fi : DS -> M (List D)) (c : DS -> M Bool) (f : DS -> M D) : DS -> M D := fun δ => (fi δ).thn fun ds => if small ds.length then (compD t (nX c) (nX f) ds (List.replicate n .un ++ js.map (slotAt δ))).thn fun ys => M.ret (.list ys) else none
def PDTs (X : Cx) (ifs : List Expr) (f : DS -> M Bool) : Prop :=
 ∃ t, PTs X ifs t /\ ∀ {Hr : Hp} (δ : DS) (O : List Addr) (σ : St) (H : Hp) (Q : Bool -> Hp -> Prop), Ev X.K Hr O H σ δ -> ok (fun _ => False) (f δ) (fun b => ∀ H', Same H H' -> Q b H') -> t σ H Q
theorem pdts_nil : PDTs X [] dYes := ⟨_, pts_nil, fun δ O σ H Q E k => k H (Same.refl H)⟩
theorem ok_GS0 {α : Type} {Hr : Hp} {r : M α} {k : α -> Prop} (h : ok (fun _ => False) r k) : ok (GS (fun _ _ => False) Hr) r k := ok_false h
end
end DL
namespace DL
open PySem PySem.Spec PyProof.Rows L2
def gD (K : PySem.W.Frag) (t : D -> DS -> Option DS) : TG := fun v σ H Q => ∃ Hr R0 P0 H0 δ δ' d O, EI K Hr R0 P0 H0 O H σ δ /\ Rep K O H v d /\ t d δ = some δ' /\ ∀ σ' H', EI K Hr R0 P0 H0 O H' σ' δ' -> Same H H' -> Q σ' H'
theorem PDG.can {X : Cx} {e : Expr} {t : D -> DS -> Option DS} (h : PDG X e t) : PG X e (gD X.K t) := by
 obtain ⟨g, p, h⟩ := h
 intro pins s σ H v u Q I r hw
 obtain ⟨Hr, R0, P0, H0, δ, δ', d, O, E, rd, ht, k⟩ := hw
 exact p pins s σ H v u Q I r (h R0 P0 H0 δ δ' d v O σ H Q E rd ht k)
def cD (K : PySem.W.Frag) (f : DS -> M Bool) : TT := fun σ H Q => ∃ Hr δ O, Ev K Hr O H σ δ /\ ok (fun _ => False) (f δ) (fun b => ∀ H', Same H H' -> Q b H')
theorem PDTs.can {X : Cx} {ifs : List Expr} {f : DS -> M Bool} (h : PDTs X ifs f) : PTs X ifs (cD X.K f) := by
 obtain ⟨t, p, h⟩ := h
 intro pins s σ H Q I hw
 obtain ⟨Hr, δ, O, E, k⟩ := hw
 exact p pins s σ H Q I (h δ O σ H Q E k)
section
variable {K : PySem.W.Frag} {O : List Addr} {H1 H H' : Hp} {l : Addr} {τ : St} {δ : DS}
abbrev EC (K : PySem.W.Frag) (O : List Addr) (H1 : Hp) (l : Addr) (H : Hp) (τ : St) (δ : DS) : Prop := EI K (fun _ => none) (l :: O) (fun b => b = l) H1 (l :: O) H τ δ
theorem EC.put {xs ys : List V} (E : EC K O H1 l H τ δ) (hl : H l = some (.lst xs)) : EC K O H1 l (upd H l (.lst ys)) τ δ := by
 have ts : To (l :: O) (l :: O) H (upd H l (.lst ys)) := To.set hl List.mem_cons_self
 refine ⟨⟨(fun _ _ z => nomatch z), fun a ha => ?_, E.ev.len, fun i s hs => ?_, E.ev.dis⟩, E.omr, fun b o n h => ?_, E.om, E.nr1, E.sub⟩
 ·by_cases e : a = l
  ·subst e; exact .lst a0w
  ·exact (E.ev.oo a ha).upd_ne e
 ·have q := E.ev.at_ i s hs
  cases s with
  | un => trivial
  | ex a => exact q
  | vl d =>
   obtain ⟨v, h1, r⟩ := q
   exact ⟨v, h1, r.to ts⟩
  | ow ds =>
   obtain ⟨a, us, h1, h2, h3, r⟩ := q
   exact absurd h2 (E.nr i ds a hs h1)
  | od es =>
   obtain ⟨a, us, h1, h2, h3, r⟩ := q
   exact absurd h2 (E.nr1 i _ a hs trivial h1)
 ·rw [upd_ne n]
  exact E.keep b o n h
theorem slot_of {Hr : Hp} {σ : St} {δ : DS} {fr : List (Nat × Str)} (E : Ev K Hr O H σ δ) (n : Nat) (hl : H l = none) : EC K O H l (upd H l (.lst [])) (compSt n fr σ) (List.replicate n .un ++ (fr.map (·.1)).map (slotAt δ)) := by
 have get : ∀ (i : Nat) (s : Sl), (List.replicate n Sl.un ++ (fr.map (·.1)).map (slotAt δ))[i]? = some s -> s = .un \/ ∃ d v, s = .vl d /\ (compSt n fr σ)[i]? = some (some v) /\ Rep K O H v d := fun i s h => by
  by_cases hi : i < n
  ·rw [List.getElem?_append_left (by simpa using hi), List.getElem?_replicate] at h
   split at h <;> cases h <;> exact .inl rfl
  ·rw [List.getElem?_append_right (by simpa using hi), List.length_replicate, List.getElem?_map, List.getElem?_map] at h
   cases q : fr[i - n]? with
   | none => rw [q] at h; cases h
   | some p =>
    rw [q] at h
    have h : slotAt δ p.1 = s := Option.some.inj h
    unfold slotAt at h
    split at h
    ·rename_i d hd
     subst h
     obtain ⟨v, hv, r⟩ := E.val hd
     refine .inr ⟨d, v, rfl, ?_, r⟩
     unfold compSt
     rw [List.getElem?_append_right (by simpa using hi), List.length_replicate, List.getElem?_map, q]
     show some (σ[p.1]?).join = _
     rw [hv]
     rfl
    ·exact .inl h.symm
 have to : To O (l :: O) H (upd H l (.lst [])) := To.own hl
 refine ⟨⟨(fun _ _ z => nomatch z), fun a ha => ?_, by simp [compSt], fun i s hs => ?_, fun i j a ds es hij h1 => ?_⟩, fun a ha => .inl ha, fun b o nb h => by rw [upd_ne nb]; exact h, fun a ha => .inl ha, fun i ds a h1 ho => ?_, fun a ha => ha⟩
 ·rcases List.mem_cons.mp ha with rfl | ha
  ·exact .lst a0w
  ·exact (E.oo a ha).new hl
 ·rcases get i s hs with rfl | ⟨d, v, rfl, hv, r⟩
  ·trivial
  ·exact ⟨v, hv, r.to to⟩
 ·rcases get i _ h1 with z | ⟨_, _, z, _⟩ <;> cases z
 ·rcases get i _ h1 with z | ⟨_, _, z, _⟩ <;> (cases z; exact ho.elim)
end
section
variable {X : Cx} {G : XD -> Hp -> Prop} {fi : DS -> M (List D)} {c : DS -> M Bool} {f : DS -> M D} {t : D -> DS -> Option DS}
theorem ok_nX {α : Type} {g : XD -> Prop} {f : DS -> M α} {δ : DS} {k : α -> Prop} (h : ok g (nX f δ) k) : ok (fun _ => False) (f δ) k := ok_noX h
theorem pd_compG {cl : List (Str × Addr)} {fr : List (Nat × Str)} {tn : List Str} {elt iter tg : Expr} {ifs : List Expr} {scope : Scope} {pos : Pos} (hc : X.calm = true)
  (hkind : scope.kind = .function) (hcell : ∀ y ∈ scope.names, y.2 ≠ .cell) (hclos : closureFor scope X.env = pure cl) (hsub : ∀ y c, cl.lookup y = some c -> X.env.cells.lookup y = some c)
  (hhas : ∀ y ∈ (relabel scope X.env).names, (y.2 = .cell \/ y.2 = .free) -> ∃ c, cl.lookup y.1 = some c) (hfr : ∀ p ∈ fr, X.N[p.1]? = some p.2 /\ X.env.kindOf p.2 = some .cell /\ (compEnvC scope cl 0 X.env).kindOf p.2 = some .cell /\ ∃ c, cl.lookup p.2 = some c) (hnames : ∀ y ∈ scope.names, y.2 = .local -> scope.names.lookup y.1 = some .local)
  (hi : PDI X G tg iter fi) (hg : ∀ C s3 H3 fp, PDG (compCxG X scope cl fr tn C s3 H3 fp) tg t) (hcs : ∀ C s3 H3 fp, PDTs (compCxG X scope cl fr tn C s3 H3 fp) ifs c) (he : ∀ C s3 H3 fp, PD (compCxG X scope cl fr tn C s3 H3 fp) (fun _ _ => False) elt f) (hs : ∀ x, foldedSetIterable iter X.env x = pure x := by intro _; rfl) :
  PD X G (.ListComp elt [⟨tg, iter, ifs, 0⟩] scope pos) (dCompG tn.length (fr.map (·.1)) t fi c f) := by
 obtain ⟨wi, pi, hi⟩ := hi
 refine ⟨_, pe_compG (g := gD X.K t) (tc := cD X.K c) (te := tD X.K (fun _ _ => False) f) hc hkind hcell hclos hsub hhas hfr hnames pi (fun C s3 H3 fp => (hg C s3 H3 fp).can) (fun C s3 H3 fp => (hcs C s3 H3 fp).can) (fun C s3 H3 fp => (he C s3 H3 fp).can) hs, @fun Hr δ O σ H Q E k => ?_⟩
 refine hi δ O σ H _ E (a0j (a0o k) fun ds z J H1 s1 Y => ?_)
 by_cases hsz : small ds.length = true
 case neg =>
  rw [if_neg hsz] at z
  exact z.elim
 rw [if_pos hsz] at z
 intro l hl
 have E1 := E.same s1
 have kk := a0j (a0o z) fun ys (q : ∀ v H', Same H H' -> Rep X.K O H' v (.list ys) -> Q v H') H2 (kp : Kp l H1 H2) r2 => q (.ref l) H2 (s1.trans (kp.same hl)) r2
 refine ⟨fun i m τ xs H2 => m = ds.length - i /\ i <= ds.length /\ xs.length <= i /\ H2 l = some (.lst xs) /\ ∃ δc ys, EC X.K O H1 l H2 τ δc /\ Reps X.K (l :: O) H2 xs ys /\
  ok (GS G Hr) (compD t (nX c) (nX f) (ds.drop i) δc) (fun rest => ∀ H3, Kp l H1 H3 -> Rep X.K O H3 (.ref l) (.list (ys ++ rest)) -> Q (.ref l) H3),
  ⟨_, rfl, Nat.zero_le _, Nat.le_refl _, a0w, _, [], slot_of E1 tn.length hl, .nil, kk⟩, ?_⟩
 rintro i m τ xs H2 ⟨rfl, hi, hx, h2, δc, ys, Ec, ry, kc⟩
 have kp : Kp l H1 H2 := fun b o hb e => Ec.keep b o hb e
 refine ⟨h2, ?_⟩
 have T : To O (l :: O) H1 H2 := kp.to hl
 by_cases hlt : i < ds.length
 ·right
  have hd : ds[i]? = some ds[i] := List.getElem?_eq_getElem hlt
  obtain ⟨go, yl⟩ := Y.step (l :: O) H2 T i _ hd
  refine ⟨go, Nat.lt_of_le_of_lt hx (Nat.lt_of_lt_of_le hlt (a1e hsz)), fun x H3 y => ?_⟩
  obtain ⟨s3, rx⟩ := yl x H3 y
  rw [drop_get hd] at kc
  obtain ⟨δ', ht, kc⟩ := ok_lift (a0o (show ok (GS G Hr) ((M.lift (t ds[i] δc)).thn _) _ from kc))
  refine ⟨_, _, _, _, δc, δ', ds[i], l :: O, Ec.same s3, rx, ht, fun τ' H4 E4 s4 => ?_⟩
  refine ⟨_, δ', l :: O, E4.ev, a0j (ok_nX (a0o kc)) fun b zb H5 s5 => ?_⟩
  have E5 := E4.same s5
  have s25 := (s3.trans s4).trans s5
  dsimp only
  cases b with
  | false =>
   rw [if_neg Bool.false_ne_true] at zb ⊢
   exact ⟨_, by omega, rfl, hlt, by omega, s25 _ _ h2, δ', ys, E5, ry.same s25, zb⟩
  | true =>
   rw [if_pos rfl] at zb ⊢
   refine ⟨_, δ', l :: O, E5.ev, ok_GS0 (a0j (ok_nX (a0o zb)) fun y kz v H6 s6 rv => ?_)⟩
   have h6 : H6 l = some (.lst xs) := s6 _ _ (s25 _ _ h2)
   have ts : To (l :: O) (l :: O) H6 (upd H6 l (.lst (xs ++ [v]))) := To.set h6 List.mem_cons_self
   refine ⟨h6, ds.length - (i + 1), by omega, rfl, hlt, by rw [List.length_append]; show xs.length + 1 <= i + 1; omega, a0w, δ', ys ++ [y], EC.put (E5.same s6) h6, (((ry.same s25).same s6).to ts).append (.cons (rv.to ts) .nil), ?_⟩
   exact a0j (a0o kz) fun rest q H7 kp7 r7 => q H7 kp7 (by rw [List.append_assoc] at r7; exact r7)
 ·left
  have e : i = ds.length := by omega
  subst e
  rw [List.drop_length] at kc
  refine ⟨Y.stop (l :: O) H2 T, kc H2 kp ?_⟩
  rw [List.append_nil]
  exact .lst (.inl h2) (nin E1.oo hl) (ry.to (.less fun b hb => List.mem_cons_of_mem _ hb))
end
section
variable {δ δ' : DS} {fi : DS -> M (List D)} {c : DS -> M Bool} {f : DS -> M D} {t : D -> DS -> Option DS} {fa : DS -> M (List D)} {g : DS -> M D} {x y d : D} {ds ys xs : List D} {n : Nat} {js : List Nat} {gs gt : DS -> M Out} {r : M Out} {z : Str}
theorem ev_compG (h1 : fi δ = M.ret ds) (hz : small ds.length = true) (h3 : compD t (nX c) (nX f) ds (List.replicate n .un ++ js.map (slotAt δ)) = M.ret ys) : dCompG n js t fi c f δ = M.ret (.list ys) := by
 unfold dCompG; rw [h1, a0t, if_pos hz, h3]; rfl
theorem ev_compC (h1 : t d δ = some δ') (h2 : f δ' = M.ret y) (h3 : compD t (nX dYes) (nX f) ds δ' = M.ret ys) : compD t (nX dYes) (nX f) (d :: ds) δ = M.ret (y :: ys) := by
 show (M.lift (t d δ)).thn _ = _
 rw [h1, lift_some, a0t]
 show (M.ret true).thn _ = _
 rw [a0t, if_pos rfl]
 show (noX (f δ')).thn _ = _
 rw [h2]
 show (compD _ _ _ _ _).thn _ = _
 rw [h3]
 rfl
theorem ev_compM {h : D -> D} (Q : DS -> Prop) : ∀ (ds : List D) (δ : DS), Q δ -> (∀ d ∈ ds, ∀ δ, Q δ -> ∃ δ', t d δ = some δ' /\ f δ' = M.ret (h d) /\ Q δ') -> compD t (nX dYes) (nX f) ds δ = M.ret (ds.map h)
 | [], _, _, _ => rfl
 | d :: ds, δ, q, hs => by
  obtain ⟨δ', h1, h2, q'⟩ := hs d List.mem_cons_self δ q
  exact ev_compC h1 h2 (ev_compM Q ds δ' q' fun e he => hs e (List.mem_cons_of_mem _ he))
theorem ev_rngS {rng : List D -> Option (List D)} (h1 : fa δ = M.ret xs) (h2 : rng xs = some ds) : dRng rng fa δ = M.ret ds := by unfold dRng; rw [h1, a0t, h2]; rfl
theorem ev_enumS (h1 : fa δ = M.ret [.list xs]) : dEnum fa δ = M.ret (enumD 0 xs) := by unfold dEnum; rw [h1]; rfl
theorem ev_forG (h1 : fi δ = M.ret ds) {r : M Out} (h3 : forD (bodyD t gs) ds δ = r) : gForI fi t gs δ = r := by unfold gForI; rw [h1, a0t]; exact h3
end
end DL
namespace DL
open PySem PySem.Spec PyProof.Rows L2
section
variable {X : Cx} {G : XD -> Hp -> Prop} {tg iter : Expr} {f : DS -> M D}
theorem PI.or {w1 w2 : TI} (h1 : PI X tg iter w1) (h2 : PI X tg iter w2) : PI X tg iter (fun σ H R => w1 σ H R \/ w2 σ H R) := by
 intro pins s σ H R I h
 rcases h with h | h
 ·exact h1 pins s σ H R I h
 ·exact h2 pins s σ H R I h
def anyD : D -> Option (List D)
 | .list ds => some ds
 | .tuple ds => some ds
 | .str z => some (signsD z)
 | _ => none
def dAny (f : DS -> M D) : DS -> M (List D) := fun δ => (f δ).thn fun d => M.lift (anyD d)
theorem pdi_any (h : PD X G iter f) : PDI X G tg iter (dAny f) := by
 obtain ⟨w1, p1, h1⟩ := pdi_seq (tg := tg) h
 obtain ⟨w2, p2, h2⟩ := pdi_str (tg := tg) h
 refine ⟨_, PI.or p1 p2, fun δ O σ H R E k => ?_⟩
 have d1 : ∀ d, f δ = some (.ok d) -> (∀ z, d ≠ .str z) -> dSeq f δ = dAny f δ := fun d e n => by
  unfold dSeq dAny
  rw [e]
  show M.lift (seqD d) = M.lift (anyD d)
  cases d with
  | str z => exact absurd rfl (n z)
  | _ => rfl
 match e : f δ with
 | none => unfold dAny at k; rw [e] at k; exact k.elim
 | some (.error x) =>
  refine .inl (h1 δ O σ H R E ?_)
  have e1 : dAny f δ = dSeq f δ := by unfold dAny dSeq; rw [e]; rfl
  rw [<- e1]
  exact k
 | some (.ok d) =>
  match d, e with
  | .str z, e =>
   refine .inr (h2 δ O σ H R E ?_)
   have e1 : dAny f δ = dSigns f δ := by unfold dAny dSigns; rw [e]; rfl
   rw [<- e1]
   exact k
  | .none, e => exact .inl (h1 δ O σ H R E (by rw [d1 _ e (fun z q => nomatch q)]; exact k))
  | .bool b, e => exact .inl (h1 δ O σ H R E (by rw [d1 _ e (fun z q => nomatch q)]; exact k))
  | .int b, e => exact .inl (h1 δ O σ H R E (by rw [d1 _ e (fun z q => nomatch q)]; exact k))
  | .list b, e => exact .inl (h1 δ O σ H R E (by rw [d1 _ e (fun z q => nomatch q)]; exact k))
  | .tuple b, e => exact .inl (h1 δ O σ H R E (by rw [d1 _ e (fun z q => nomatch q)]; exact k))
  | .dict b, e => exact .inl (h1 δ O σ H R E (by rw [d1 _ e (fun z q => nomatch q)]; exact k))
theorem ev_any {δ : DS} {x : D} {ds : List D} (h1 : f δ = M.ret x) (h2 : anyD x = some ds) : dAny f δ = M.ret ds := by unfold dAny; rw [h1, a0t, h2]; rfl
end
end DL
namespace DL
open PySem PySem.Spec PyProof.Rows L2
section
variable {X : Cx} {G : XD -> Hp -> Prop} {a b c e : Expr} {es : List Expr} {f : DS -> M D} {fa : DS -> M (List D)} {pos pos' : Pos} {sts : List Stmt} {gs : DS -> M Out}
variable {K : PySem.W.Frag} {Hr : Hp} {R0 : List Addr} {P0 : Addr -> Prop} {H0 H H' : Hp} {O : List Addr} {σ : St} {δ : DS}
theorem EI.newL {i : Nat} {l : Addr} {xs : List V} {ds : List D} (E : EI K Hr R0 P0 H0 O H σ δ) (hl : H l = none) (rx : Reps K O H xs ds) : EI K Hr R0 P0 H0 (l :: O) (upd H l (.lst xs)) (σ.set i (some (.ref l))) (δ.set i (.ow ds)) := by
 have nO : l ∉ O := nin E.ev.oo hl
 have tO : To O (l :: O) H (upd H l (.lst xs)) := To.own hl
 refine ⟨⟨fun b o h => by have q := E.ev.root b o h; rw [upd_ne (a0q q hl)]; exact q, fun a ha => ?_, by rw [List.length_set, List.length_set]; exact E.ev.len, fun j s h => ?_, fun j k a ds es hjk h1 h2 h3 h4 => ?_⟩, fun a ha => ?_, fun b o n h => ?_, fun a ha => ?_, fun j ds a h1 ho h2 => ?_, fun a ha => List.mem_cons_of_mem _ (E.sub a ha)⟩
 ·rcases List.mem_cons.mp ha with rfl | ha
  ·exact .lst a0w
  ·exact (E.ev.oo a ha).new hl
 ·rw [a1u] at h ⊢
  by_cases hij : i = j
  ·rw [if_pos hij] at h ⊢
   by_cases hz : i < δ.length
   ·rw [if_pos hz] at h
    rw [if_pos (by rw [E.ev.len]; exact hz)]
    cases h
    exact ⟨l, xs, rfl, List.mem_cons_self, a0w, rx.to tO⟩
   ·rw [if_neg hz] at h; cases h
  ·rw [if_neg hij] at h ⊢
   exact (E.ev.at_ j s h).to tO (hd_new hl) fun a xs h1 h2 _ _ => ⟨List.mem_cons_of_mem _ h1, by rw [upd_ne (a0q h2 hl)]; exact h2⟩
 ·rw [a1u] at h1 h2 h3 h4
  by_cases hij : i = j
  ·rw [if_pos hij] at h1 h3
   have ha : a = l := by
    split at h3
    ·cases h3; rfl
    ·cases h3
   have hik : ¬ i = k := fun z => hjk (hij.symm.trans z)
   rw [if_neg hik] at h2 h4
   obtain ⟨l', xs, q1, q2, q3, _⟩ := E.ev.at_ k _ h2
   rw [h4] at q1
   cases q1
   rw [ha] at q2
   exact nO q2
  ·rw [if_neg hij] at h1 h3
   by_cases hik : i = k
   ·rw [if_pos hik] at h4
    have ha : a = l := by
     split at h4
     ·cases h4; rfl
     ·cases h4
    obtain ⟨l', xs, q1, q2, q3, _⟩ := E.ev.at_ j _ h1
    rw [h3] at q1
    cases q1
    rw [ha] at q2
    exact nO q2
   ·rw [if_neg hik] at h2 h4
    exact E.ev.dis j k a ds es hjk h1 h2 h3 h4
 ·rcases List.mem_cons.mp ha with rfl | ha
  ·refine .inr ?_
   cases q : Hr a with
   | none => rfl
   | some o =>
    rw [E.ev.root a o q] at hl
    cases hl
  ·exact E.omr a ha
 ·have q := E.keep b o n h
  rw [upd_ne (a0q q hl)]
  exact q
 ·rcases List.mem_cons.mp ha with rfl | ha
  ·by_cases hp : P0 a
   ·exact .inr (.inl hp)
   ·refine .inr (.inr ?_)
    cases q : H0 a with
    | none => rfl
    | some o =>
     rw [E.keep a o hp q] at hl
     cases hl
  ·exact E.om a ha
 ·rw [a1u] at h1 h2
  by_cases hij : i = j
  ·rw [if_pos hij] at h2
   have ha : a = l := by
    split at h2
    ·cases h2; rfl
    ·cases h2
   rw [ha]
   exact fun z => nO (E.sub l z)
  ·rw [if_neg hij] at h1 h2
   exact E.nr1 j ds a h1 ho h2
def PDN (X : Cx) (G : XD -> Hp -> Prop) (e : Expr) (f : DS -> M (List D)) : Prop :=
 ∃ t, PE X e t /\ ∀ {Hr : Hp} (δ : DS) (O : List Addr) (σ : St) (H : Hp) (Q : VK), Ev X.K Hr O H σ δ -> ok (GS G Hr) (f δ) (fun ds => ∀ l xs H1, Same H H1 -> H1 l = none -> Reps X.K O H1 xs ds -> Q (.ref l) (upd H1 l (.lst xs))) -> t σ H Q
def nLst (fa : DS -> M (List D)) : DS -> M (List D) := fun δ => (fa δ).thn fun ds => if small ds.length then M.ret ds else none
theorem pdn_lst (h : PDA X G es fa) : PDN X G (.List es pos) (nLst fa) := by
 obtain ⟨_, t, p, h⟩ := h
 refine ⟨_, pe_lst p, fun δ O σ H Q E k => ?_⟩
 refine h δ O σ H _ E (a0j (a0o k) fun ds z vs H1 s1 rs => ?_)
 by_cases hz : small ds.length = true
 ·rw [if_pos hz] at z
  exact ⟨by rw [rs.length]; exact a1e hz, fun p hp => z p vs H1 s1 hp rs⟩
 ·rw [if_neg hz] at z
  exact z.elim
def gNewL (i : Nat) (f : DS -> M (List D)) : DS -> M Out := fun δ => (f δ).thn fun ds => M.ret (.nx (δ.set i (.ow ds)))
theorem pd_newL {i : Nat} {x : Str} {f : DS -> M (List D)} (hN : X.N.Nodup) (hi : X.N[i]? = some x) (hx : Loc X.env.scope x) (he : PDN X G e f) (hs : swapsWith e (some (.Name x pos')) pos.line X.env = pure false := by rfl) (hf : X.fn x = true \/ X.env.scope.names.lookup x = some .local := by first | exact .inl rfl | exact .inr rfl | assumption) :
  PDS X G (.Assign [.Name x pos'] e pos) (gNewL i f) := by
 obtain ⟨t, p, he⟩ := he
 refine ⟨_, ps_set hN hi hx p hs hf, fun R0 P0 H0 δ O σ H Dn E k => ?_⟩
 exact he δ O σ H _ E.ev (a0j (a0o k) fun ds z l xs H1 s1 hl rx => z (l :: O) _ _ ((E.same s1).newL hl rx))
mutual
def flatD : D -> Bool
 | .tuple ds => flatDs ds
 | .list _ => false
 | .dict _ => false
 | _ => true
def flatDs : List D -> Bool
 | [] => true
 | d :: ds => flatD d && flatDs ds
end
mutual
theorem Rep.flat {O' : List Addr} : ∀ {v : V} {d : D}, flatD d = true -> Rep K O H v d -> Rep K O' H v d
 | _, _, _, .non => .non
 | _, _, _, .bl b => .bl b
 | _, _, _, .int i => .int i
 | _, _, _, .str x => .str x
 | _, _, h, .tup q r => .tup q (Reps.flat (by simpa only [flatD] using h) r)
 | _, _, h, .lst _ _ _ => by simp [flatD] at h
 | _, _, h, .lstK _ _ => by simp [flatD] at h
 | _, _, h, .dct _ _ _ _ => by simp [flatD] at h
 | _, _, h, .ins _ _ _ _ _ => by simp [flatD, insD] at h
theorem Reps.flat {O' : List Addr} : ∀ {vs : List V} {ds : List D}, flatDs ds = true -> Reps K O H vs ds -> Reps K O' H vs ds
 | _, _, _, .nil => .nil
 | _, _, h, .cons r rs => by
  simp only [flatDs, Bool.and_eq_true] at h
  exact .cons (Rep.flat h.1 r) (Reps.flat h.2 rs)
end
theorem Ev.frz {i : Nat} (E : Ev K Hr O H σ δ) : ∃ O', Ev K Hr O' H σ (DL.frz i δ) := by
 cases q : δ[i]? with
 | none => exact ⟨O, by unfold DL.frz; rw [q]; exact E⟩
 | some s =>
  cases s with
  | un => exact ⟨O, by unfold DL.frz; rw [q]; exact E⟩
  | vl d => exact ⟨O, by unfold DL.frz; rw [q]; exact E⟩
  | ex a => exact ⟨O, by unfold DL.frz; rw [q]; exact E⟩
  | od es => exact ⟨O, by unfold DL.frz; rw [q]; exact E⟩
  | ow ds =>
   have e : DL.frz i δ = δ.set i (.vl (.list ds)) := by unfold DL.frz; rw [q]
   rw [e]
   obtain ⟨l, xs, h1, h2, h3, r⟩ := E.at_ i _ q
   have hi : i < δ.length := (List.getElem?_eq_some_iff.mp q).1
   have tl : To O (O.filter (· ≠ l)) H H := .less fun b hb => (List.mem_filter.mp hb).1
   refine ⟨O.filter (· ≠ l), E.root, fun a ha => E.oo a (List.mem_filter.mp ha).1, by rw [List.length_set]; exact E.len, fun j s h => ?_, fun j k a es es' hjk k1 k2 k3 k4 => ?_⟩
   ·rw [a1u] at h
    by_cases hij : i = j
    ·rw [if_pos hij, if_pos hi] at h
     cases h
     rw [<- hij]
     exact ⟨.ref l, h1, .lst (.inl h3) (fun z => by have := (List.mem_filter.mp z).2; simp at this) (r.to tl)⟩
    ·rw [if_neg hij] at h
     refine (E.at_ j s h).to tl (fun a kvs g1 g2 => ⟨List.mem_filter.mpr ⟨g1, by simpa using ne_of g2 h3 (by intro z; cases z)⟩, g2⟩) fun a ys g1 g2 g3 g4 => ⟨?_, g2⟩
     obtain ⟨es, rfl⟩ := g4
     refine List.mem_filter.mpr ⟨g1, ?_⟩
     have hne : a ≠ l := fun z => by
      subst z
      exact E.dis i j a ds es hij q h h1 g3
     simpa using hne
   ·rw [a1u] at k1 k2
    by_cases hij : i = j
    ·rw [if_pos hij] at k1
     split at k1 <;> cases k1
    ·by_cases hik : i = k
     ·rw [if_pos hik] at k2
      split at k2 <;> cases k2
     ·rw [if_neg hij] at k1
      rw [if_neg hik] at k2
      exact E.dis j k a es es' hjk k1 k2 k3 k4
def dLendT (i : Nat) (f : DS -> M Bool) : DS -> M Bool := fun δ => f (frz i δ)
theorem pdt_lend {fb : DS -> M Bool} (i : Nat) (h : PDT X G e fb) : PDT X G e (dLendT i fb) := by
 obtain ⟨t, p, h⟩ := h
 refine ⟨t, p, fun δ O σ H Q E k => ?_⟩
 obtain ⟨O', E'⟩ := E.frz (i := i)
 exact h _ O' σ H Q E' k
end
section
variable {δ : DS} {f : DS -> M D} {fb : DS -> M Bool} {fn : DS -> M (List D)} {d : D} {b : Bool} {ds : List D} {fa : DS -> M (List D)} {i : Nat}
theorem ev_lendT (h : fb (frz i δ) = M.ret b) : dLendT i fb δ = M.ret b := h
theorem ev_newL (h : fn δ = M.ret ds) : gNewL i fn δ = M.ret (.nx (δ.set i (.ow ds))) := by unfold gNewL; rw [h]; rfl
theorem ev_nLst (h : fa δ = M.ret ds) (hz : small ds.length = true) : nLst fa δ = M.ret ds := by unfold nLst; rw [h, a0t, if_pos hz]
end
end DL
namespace L2
open PySem PySem.Spec PyProof.Rows
section
variable {X : Cx}
theorem mt_zfill : MtR X "str.zfill" (fun x xs H Q => ∃ z i, x = .str z /\ xs = [.int i] /\ PadOk i = true /\ Q (.str (Txt.zfill z i)) H) := by
 intro pins s σ H x xs v us Q I rx rs h
 obtain ⟨z, i, rfl, rfl, hp, q⟩ := h
 obtain ⟨t, rfl⟩ := rx
 obtain ⟨u, rfl, t2, rfl⟩ := vals1 rs
 exact SC.zfill hp fun t' k => ⟨.str _, H, I.tok k, ⟨t', rfl⟩, q⟩
theorem mt_partition : MtR X "str.partition" (fun x xs H Q => ∃ z y, x = .str z /\ xs = [.str y] /\ (y.length == 0) = false /\ z.length <= sizeLine /\
  ∀ p, H p = none -> Q (.ref p) (upd H p (.tup [.str (Txt.partition z y).1, .str (Txt.partition z y).2.1, .str (Txt.partition z y).2.2]))) := by
 intro pins s σ H x xs v us Q I rx rs h
 obtain ⟨z, y, rfl, rfl, hy, hz, q⟩ := h
 obtain ⟨t, rfl⟩ := rx
 obtain ⟨u, rfl, t2, rfl⟩ := vals1 rs
 refine call_meets PySem.F.slot_str_partition (typeIs_str _ _ _) PySem.F.entry_str_partition (PySem.F.args_str_partition_2 _ _) (meets_str_partition z y t t2 hy hz) ?_
 have fin : ∀ (a b c : Str) (ta tb tc : Tok) (k : Nat), (Txt.partition z y) = (a, b, c) -> EP X pins σ Q (.ref s.heap.objs.size) { s with heap := s.heap.push { cls := .type "tuple", data := .seq [.str a ta, .str b tb, .str c tc].toArray }, toks := k } := fun a b c ta tb tc k e => by
  rw [e] at q
  refine ⟨.ref s.heap.objs.size, _, I.laid (o := .tup [.str a, .str b, .str c]) (t' := k) (fun b o e => Heap.get?_push_of_some _ e) (Nat.le_refl _) ⟨by show 3 <= _; rw [sizeLine_eq]; omega, _, .cons ⟨ta, rfl⟩ (.cons ⟨tb, rfl⟩ (.cons ⟨tc, rfl⟩ .nil)), ⟨_, Heap.get?_push_size _ rfl, rfl, 0, rfl⟩⟩, rfl, q _ I.fresh⟩
 have e0 : Txt.partition z y = Txt.partition z y := rfl
 conv at e0 => rhs; unfold Txt.partition
 revert e0
 cases Builtin.Str.occurrences z y 0 z.length 1 with
 | nil => intro e0; exact fin _ _ _ _ _ _ _ e0
 | cons i r => intro e0; exact fin _ _ _ _ _ _ _ e0
theorem vals_strs : ∀ {ts : List Str} {us : List Value}, Vals (ts.map V.str) us -> ∃ l : List (Str × Tok), us = strValues l /\ l.map (·.1) = ts
 | [], _, .nil => ⟨[], rfl, rfl⟩
 | t :: ts, _, .cons r rs => by
  obtain ⟨l, rfl, e⟩ := vals_strs rs
  obtain ⟨k, rfl⟩ := r
  exact ⟨(t, k) :: l, rfl, by rw [List.map_cons, e]⟩
theorem vals_of_strs : ∀ (l : List (Str × Tok)), Vals ((l.map (·.1)).map V.str) (strValues l)
 | [] => .nil
 | (x, t) :: l => .cons ⟨t, rfl⟩ (vals_of_strs l)
theorem mt_join : MtR X "str.join" (fun x xs H Q => ∃ z p ts, x = .str z /\ xs = [.ref p] /\ SqL X.K H p (ts.map V.str) /\ JoinOk z ts = true /\ Q (.str (Txt.join z ts)) H) := by
 intro pins s σ H x xs v us Q I rx rs h
 obtain ⟨z, p, ts, rfl, rfl, hq, hj, q⟩ := h
 obtain ⟨t, rfl⟩ := rx
 obtain ⟨u, rfl, r1⟩ := vals1 rs
 cases r1
 obtain ⟨its, rv, pl, _⟩ := I.list hq
 obtain ⟨l, rfl, e⟩ := vals_strs rv
 exact SC.join pl.isList e hj fun t' k => ⟨.str _, H, I.tok k, ⟨t', rfl⟩, q⟩
theorem mt_split : MtR X "str.split" (fun x xs H Q => ∃ z y, x = .str z /\ xs = [.str y] /\ (y.length == 0) = false /\ z.length <= sizeLine /\ (Txt.split z y).length <= sizeLine /\ (Builtin.Str.partsBetween z (Builtin.Str.occurrences z y 0 z.length (z.length + 1)) y.length).length <= sizeLine /\
  ∀ p, H p = none -> Q (.ref p) (upd H p (.lst ((Txt.split z y).map V.str)))) := by
 intro pins s σ H x xs v us Q I rx rs h
 obtain ⟨z, y, rfl, rfl, hy, hz, hl, hz2, q⟩ := h
 obtain ⟨t, rfl⟩ := rx
 obtain ⟨u, rfl, t2, rfl⟩ := vals1 rs
 have fin : ∀ (l : List (Str × Tok)) (k : Nat), l.map (·.1) = Txt.split z y -> EP X pins σ Q (.ref s.heap.objs.size) { s with heap := s.heap.push { cls := .type "list", data := .seq (strValues l).toArray }, toks := k } := fun l k e => by
  rw [<- e] at q hl
  refine ⟨.ref s.heap.objs.size, _, I.laid (o := .lst ((l.map (·.1)).map V.str)) (t' := k) (fun b o e => Heap.get?_push_of_some _ e) (Nat.le_refl _) ⟨by rw [List.length_map]; exact hl, _, 0, vals_of_strs l, Heap.get?_push_size _ rfl⟩, rfl, q _ I.fresh⟩
 cases h1 : (decide (z.length < y.length) || decide (Builtin.Str.strKind z < Builtin.Str.strKind y))
 ·cases hf : (Builtin.Str.occurrences z y 0 z.length (z.length + 1)).isEmpty
  ·refine call_meets PySem.F.slot_str_split (typeIs_str _ _ _) PySem.F.entry_str_split (PySem.F.args_str_split_2 _ _) (meets_str_split_sep z y t t2 h1 hy hf hz hz2) ?_
   rw [strsFrom_eq]
   exact fin (numbered s.toks _) _ ((numbered_texts _ _).trans ((if_neg (ne_true_of_eq_false h1)).trans (if_neg (ne_true_of_eq_false hf))).symm)
  ·exact call_meets PySem.F.slot_str_split (typeIs_str _ _ _) PySem.F.entry_str_split (PySem.F.args_str_split_2 _ _) (meets_str_split_not_found z y t t2 h1 hy hf)
    (fin [(z, t)] _ ((if_neg (ne_true_of_eq_false h1)).trans (if_pos hf)).symm)
 ·exact call_meets PySem.F.slot_str_split (typeIs_str _ _ _) PySem.F.entry_str_split (PySem.F.args_str_split_2 _ _) (meets_str_split_cannot_occur z y t t2 h1)
   (fin [(z, t)] _ (if_pos h1).symm)
theorem call_int_text : CallR X (.type "int") (fun xs H Q => ∃ z n, xs = [.str z] /\ PySem.intText? z = some n /\ z.length <= 640 /\ Q (.int n) H) := by
 intro pins s σ H xs us Q I r h
 obtain ⟨z, n, rfl, hn, hl, q⟩ := h
 obtain ⟨u, rfl, t, rfl⟩ := vals1 r
 exact PySem.W.KIN.call_text hn hl ⟨.int n, H, I.tok _, ⟨_, rfl⟩, q⟩
end
end L2
namespace L2
open PySem PySem.Spec PyProof.Rows
section
variable {X : Cx}
theorem op_le_str : OpR X (compareOp .LtE) (fun x y H Q => ∃ i j, x = .str i /\ y = .str j /\ Q (.bl (!decide (j.cps.toList < i.cps.toList))) H) := by
 intro pins s σ H x y v u Q I rx ry h
 obtain ⟨i, j, rfl, rfl, q⟩ := h
 obtain ⟨t, rfl⟩ := rx
 obtain ⟨t', rfl⟩ := ry
 exact PySem.P.le_str (fin_bl I q rfl)
theorem sl_str : SlR X (fun x lo hi H Q => ∃ z, x = .str z /\ z.length <= sizeLine /\ Q (.str (Txt.slice z lo hi)) H) := by
 intro pins s σ H x v vl vu lo hi sl Q I rx hs pl pu h
 obtain ⟨z, rfl, hz, q⟩ := h
 obtain ⟨t, rfl⟩ := rx
 refine ⟨"str", _, PySem.F.slot_str_getitem.lookup, typeIs_str _ _ _, ?_⟩
 obtain ⟨l, rfl, rfl⟩ : ∃ l : Option (Int × Tok), vl = partValue l /\ lo = l.map (·.1) := by
  cases pl with
  | none => exact ⟨none, rfl, rfl⟩
  | int i t => exact ⟨some (i, t), rfl, rfl⟩
 obtain ⟨u, rfl, rfl⟩ : ∃ u : Option (Int × Tok), vu = partValue u /\ hi = u.map (·.1) := by
  cases pu with
  | none => exact ⟨none, rfl, rfl⟩
  | int i t => exact ⟨some (i, t), rfl, rfl⟩
 refine wpAny_getItem_str_slice (l := l) (u := u) (st := none) ?_ rfl (post_val_or_str ⟨Nat.le_trans (Txt.slice_le z _ _) hz, fun t' k => ⟨.str _, H, I.tok k, ⟨t', rfl⟩, q⟩⟩)
 obtain ⟨o, h1, h2, h3⟩ := hs
 exact ⟨o, h1, h2, h3⟩
def tFV (te : TE) : TE := fun σ H Q => te σ H fun x H1 => (∃ z, x = .str z /\ z.length <= sizeLine /\ Q (.str z) H1) \/ ∃ i : Int, x = .int i /\ i.natAbs.log2 < 1920 /\ Q (.str (Str.ofString (toString i))) H1
theorem pe_fv {e : Expr} {te : TE} {pos : Pos} (he : PE X e te) : PE X (.FormattedValue e (-1) none pos) (tFV te) := by
 intro pins s σ H Q I h
 refine FormattedValue_plain (thn (he pins s σ H _ I h) fun v s1 ⟨x, H1, I1, r1, q1⟩ => ?_)
 rcases q1 with ⟨z, rfl, hz, q⟩ | ⟨i, rfl, hi, q⟩
 ·obtain ⟨t, rfl⟩ := r1
  exact PyProof.Rows.formatField_str (fun t' tk => ⟨.str z, H1, I1.tok tk, ⟨t', rfl⟩, q⟩) hz
 ·obtain ⟨t, rfl⟩ := r1
  exact wpAny_formatField_int hi ⟨.str _, H1, I1.tok _, ⟨_, rfl⟩, q⟩
def tJoin : List TE -> Str -> TE
 | [], out => fun σ H Q => out.length <= sizeLine /\ Q (.str out) H
 | t :: ts, out => fun σ H Q => t σ H fun x H1 => ∃ y, x = .str y /\ (out ++ y).length <= sizeLine /\ tJoin ts (out ++ y) σ H1 Q
inductive PJ (X : Cx) : List Expr -> List TE -> Prop
 | nil : PJ X [] []
 | cons {e : Expr} {es : List Expr} {t : TE} {ts : List TE} (h : PE X e t) (hs : PJ X es ts) (he : evalEach (e :: es) X.env = eval e X.env :: evalEach es X.env) : PJ X (e :: es) (t :: ts)
theorem join_ok {es : List Expr} {ts : List TE} (h : PJ X es ts) : ∀ (out : Str) (pins : List (Addr × Obj)) (s : Shared) (σ : St) (H : Hp) (Q : VK), Inv X pins σ H s -> tJoin ts out σ H Q -> wpAny (model X.prog X.w) X.A (joinParts out (evalEach es X.env)) (EP X pins σ Q) X.xe s := by
 induction h with
 | nil =>
  intro out pins s σ H Q I q
  exact joinParts_nil ⟨.str out, H, I.tok _, ⟨_, rfl⟩, q.2⟩ q.1
 | cons h hs he ih =>
  intro out pins s σ H Q I q
  rw [he]
  refine joinParts_cons (thn (h pins s σ H _ I q) fun v s1 ⟨x, H1, I1, r1, y, e, hz, q1⟩ => ?_)
  subst e
  obtain ⟨t, rfl⟩ := r1
  exact ⟨hz, ih (out ++ y) pins s1 σ H1 Q I1 q1⟩
theorem pe_joined {e1 e2 : Expr} {es : List Expr} {ts : List TE} {pos : Pos} (h : PJ X (e1 :: e2 :: es) ts) : PE X (.JoinedStr (e1 :: e2 :: es) pos) (tJoin ts Str.empty) := by
 intro pins s σ H Q I q
 refine JoinedStr_many ?_
 have := join_ok h Str.empty pins s σ H Q I q
 cases h with
 | cons h hs he =>
  cases hs with
  | cons h' hs' he' =>
   rw [he, he'] at this
   exact this
end
end L2
namespace DL
open PySem PySem.Spec PyProof.Rows L2
section
variable {X : Cx} {G : XD -> Hp -> Prop} {a b c e o : Expr} {es : List Expr} {f g k : DS -> M D} {fa : DS -> M (List D)} {pos apos cpos : Pos}
def DMt (X : Cx) (id : String) (h : Str -> List D -> Option D) : Prop :=
 ∃ r, MtR X id r /\ ∀ (O : List Addr) (H : Hp) (z : Str) (xs : List D) (d : D) (vs : List V) (Q : VK), (∀ l ∈ O, Mu H l) -> Reps X.K O H vs xs -> h z xs = some d -> (∀ v' H', Same H H' -> Rep X.K O H' v' d -> Q v' H') -> r (.str z) vs H Q
def dMeth (h : Str -> List D -> Option D) (f : DS -> M D) (fa : DS -> M (List D)) : DS -> M D := fun δ => (f δ).thn fun d => match d with
 | .str z => (fa δ).thn fun xs => M.lift (h z xs)
 | _ => none
theorem pd_meth {id : String} {name : Str} {h : Str -> List D -> Option D} (slot : Slot "str" name id) (hty : typeOf (.builtin id) = pure (.type "method_descriptor")) (hm : DMt X id h) (ho : PD X G o f) (ha : PDA X G (e :: es) fa)
  (hbase : attributeBase o name X.env (eval o X.env) = eval o X.env := by rfl)
  (hfew : ((backTo cpos (starEach (e :: es) X.env)).all (fun x => !x.1) && (backToKw cpos (keywordEach [] X.env)).all (fun x => x.1.isSome)
   && decide ((e :: es).length + ([] : List Keyword).length + (if ([] : List Keyword).isEmpty then 0 else 1) < 30)) = true := by rfl)
  (hline : (apos.endLine == cpos.line) = true := by rfl) (hs : starEach (e :: es) X.env = (false, eval e X.env) :: starEach es X.env := by rfl) (hplain : (backTo cpos (starEach es X.env)).any (·.1) = false := by rfl) :
  PD X G (.Call (.Attribute o name apos) (e :: es) [] cpos) (dMeth h f fa) := by
 obtain ⟨r, hr, hm⟩ := hm
 obtain ⟨t, p, ho⟩ := ho
 obtain ⟨_, u, q, ha⟩ := ha
 refine ⟨_, pe_bm PySem.F.plainAttrs_str slot hty hr p q hbase hfew hline hs hplain, fun δ O σ H Q E k => ?_⟩
 refine ho δ O σ H _ E (a0j (a0o k) fun d z v H1 s1 rd => ?_)
 match d, z, rd with
 | .str w, z, rd =>
  rw [rd.str_inv]
  refine ⟨rfl, ha δ O σ H1 _ (E.same s1) (a0j (a0o z) fun xs zz vs H2 s2 rs => ?_)⟩
  obtain ⟨y, hy, zz⟩ := ok_lift zz
  exact hm O H2 w xs y vs Q (E.same (s1.trans s2)).oo rs hy fun v' H3 s3 r3 => zz v' H3 ((s1.trans s2).trans s3) r3
def sZfill (z : Str) : List D -> Option D
 | [.int i] => if PadOk i then some (.str (Txt.zfill z i)) else none
 | _ => none
theorem dmt_zfill : DMt X "str.zfill" sZfill := by
 refine ⟨_, mt_zfill, fun O H z xs d vs Q oo rs e k => ?_⟩
 unfold sZfill at e
 split at e
 ·rename_i i
  by_cases hp : PadOk i = true
  ·rw [if_pos hp] at e
   cases e
   obtain ⟨v, rfl, r⟩ := reps1 rs
   exact ⟨z, i, rfl, by rw [r.int_inv], hp, k _ H (Same.refl H) (.str _)⟩
  ·rw [if_neg hp] at e; cases e
 ·cases e
def sPartition (z : Str) : List D -> Option D
 | [.str y] => if ((y.length == 0) == false && small z.length) = true then some (.tuple [.str (Txt.partition z y).1, .str (Txt.partition z y).2.1, .str (Txt.partition z y).2.2]) else none
 | _ => none
theorem dmt_partition : DMt X "str.partition" sPartition := by
 refine ⟨_, mt_partition, fun O H z xs d vs Q oo rs e k => ?_⟩
 unfold sPartition at e
 split at e
 ·rename_i y
  by_cases hp : ((y.length == 0) == false && small z.length) = true
  ·rw [if_pos hp] at e
   cases e
   obtain ⟨h1, h2⟩ := Bool.and_eq_true_iff.mp hp
   obtain ⟨v, rfl, r⟩ := reps1 rs
   exact ⟨z, y, rfl, by rw [r.str_inv], by simpa using h1, a1e h2, fun p hp => k _ _ (a1h hp) (rep_newT hp (.cons (.str _) (.cons (.str _) (.cons (.str _) .nil))))⟩
  ·rw [if_neg hp] at e; cases e
 ·cases e
def strsOf : List D -> Option (List Str)
 | [] => some []
 | .str z :: r => (strsOf r).map (z :: ·)
 | _ => none
theorem strsOf_get : ∀ {ds : List D} {ts : List Str}, strsOf ds = some ts -> ds = ts.map PyData.str
 | [], ts, h => by cases h; rfl
 | .str z :: r, ts, h => by
  have h : (strsOf r).map (z :: ·) = some ts := h
  cases e : strsOf r with
  | none => rw [e] at h; cases h
  | some cs => rw [e] at h; cases h; rw [strsOf_get e]; rfl
theorem reps_strs {K : PySem.W.Frag} {O : List Addr} {H : Hp} : ∀ {ts : List Str} {vs : List V}, Reps K O H vs (ts.map PyData.str) -> vs = ts.map V.str
 | [], _, .nil => rfl
 | t :: ts, _, .cons r rs => by rw [r.str_inv, reps_strs rs]; rfl
theorem reps_of_strs {K : PySem.W.Frag} {O : List Addr} {H : Hp} : ∀ (ts : List Str), Reps K O H (ts.map V.str) (ts.map PyData.str)
 | [] => .nil
 | t :: ts => .cons (.str t) (reps_of_strs ts)
def sJoin (z : Str) : List D -> Option D
 | [.list ds] => match strsOf ds with
  | some ts => if JoinOk z ts then some (.str (Txt.join z ts)) else none
  | none => none
 | _ => none
theorem dmt_join : DMt X "str.join" sJoin := by
 refine ⟨_, mt_join, fun O H z xs d vs Q oo rs e k => ?_⟩
 unfold sJoin at e
 split at e
 ·rename_i ds
  split at e
  ·rename_i ts hts
   by_cases hp : JoinOk z ts = true
   ·rw [if_pos hp] at e
    cases e
    obtain ⟨v, rfl, r⟩ := reps1 rs
    obtain ⟨p, us, rfl, h1, rx⟩ := r.lst_inv
    rw [strsOf_get hts] at rx
    rw [reps_strs rx] at h1
    exact ⟨z, p, ts, rfl, rfl, h1, hp, k _ H (Same.refl H) (.str _)⟩
   ·rw [if_neg hp] at e; cases e
  ·cases e
 ·cases e
def splitOk (z y : Str) : Bool := (y.length == 0) == false && small z.length && small (Txt.split z y).length && small (Builtin.Str.partsBetween z (Builtin.Str.occurrences z y 0 z.length (z.length + 1)) y.length).length
def sSplit (z : Str) : List D -> Option D
 | [.str y] => if splitOk z y then some (.list ((Txt.split z y).map PyData.str)) else none
 | _ => none
theorem dmt_split : DMt X "str.split" sSplit := by
 refine ⟨_, mt_split, fun O H z xs d vs Q oo rs e k => ?_⟩
 unfold sSplit at e
 split at e
 ·rename_i y
  by_cases hp : splitOk z y = true
  ·rw [if_pos hp] at e
   cases e
   unfold splitOk at hp
   obtain ⟨hp, h4⟩ := Bool.and_eq_true_iff.mp hp
   obtain ⟨hp, h3⟩ := Bool.and_eq_true_iff.mp hp
   obtain ⟨h1, h2⟩ := Bool.and_eq_true_iff.mp hp
   obtain ⟨v, rfl, r⟩ := reps1 rs
   exact ⟨z, y, rfl, by rw [r.str_inv], by simpa using h1, a1e h2, a1e h3, a1e h4, fun p hp => k _ _ (a1h hp) (rep_newL oo hp (reps_of_strs _))⟩
  ·rw [if_neg hp] at e; cases e
 ·cases e
def oIntS : List D -> Option D
 | [.str z] => match PySem.intText? z with
  | some n => if z.length <= 640 then some (.int n) else none
  | none => none
 | ds => oInt ds
theorem dcall_intS : DCall X (.type "int") oIntS := by
 refine ⟨_, call_int_text.or call_int1, fun O H ds d vs Q oo rs e k => ?_⟩
 unfold oIntS at e
 split at e
 ·rename_i z
  split at e
  ·rename_i n hn
   by_cases hl : z.length <= 640
   ·rw [if_pos hl] at e
    cases e
    obtain ⟨v, rfl, r⟩ := reps1 rs
    exact .inl ⟨z, n, by rw [r.str_inv], hn, hl, k _ H (Same.refl H) (.int _)⟩
   ·rw [if_neg hl] at e; cases e
  ·cases e
 ·unfold oInt at e
  split at e
  ·cases e
   obtain ⟨v, rfl, r⟩ := reps1 rs
   exact .inr (.inl ⟨_, by rw [r.int_inv], k _ H (Same.refl H) (.int _)⟩)
  ·cases e
   obtain ⟨v, rfl, r⟩ := reps1 rs
   exact .inr (.inr ⟨_, by rw [r.bool_inv], k _ H (Same.refl H) (.int _)⟩)
  ·cases e
def oLeD : D -> D -> Option D
 | .int i, .int j => some (.bool (decide (i <= j)))
 | .str i, .str j => some (.bool (!decide (j.cps.toList < i.cps.toList)))
 | _, _ => none
theorem dop_leD : DOp X (compareOp .LtE) oLeD := by
 refine ⟨_, op_le.or op_le_str, fun O H x y d v u Q oo rx ry e k => ?_⟩
 unfold oLeD at e
 split at e
 ·cases e
  exact .inl ⟨_, _, rx.int_inv, ry.int_inv, k _ H (Same.refl H) (.bl _)⟩
 ·cases e
  exact .inr ⟨_, _, rx.str_inv, ry.str_inv, k _ H (Same.refl H) (.bl _)⟩
 ·cases e
def oInS : D -> D -> Option D
 | .str i, .str j => some (.bool (!(Builtin.Str.occurrences j i 0 j.length 1).isEmpty))
 | _, _ => none
theorem dop_inS : DOp X (compareOp .In) oInS := by
 refine ⟨_, op_in_str, fun O H x y d v u Q oo rx ry e k => ?_⟩
 unfold oInS at e
 split at e
 ·cases e
  exact ⟨_, _, rx.str_inv, ry.str_inv, k _ H (Same.refl H) (.bl _)⟩
 ·cases e
def dChain (h h' : D -> D -> Option D) (f g k : DS -> M D) : DS -> M D := fun δ => (f δ).thn fun x => (g δ).thn fun y => (M.lift (h x y)).thn fun z => match z with
 | .bool true => (k δ).thn fun w => M.lift (h' y w)
 | .bool false => M.ret (.bool false)
 | _ => none
theorem chain_run {h h' : D -> D -> Option D} {r r' : R2} {ta tb tc : TE}
  (ho : ∀ (O : List Addr) (H : Hp) (x y d : D) (v u : V) (Q : VK), (∀ l ∈ O, Mu H l) -> Rep X.K O H v x -> Rep X.K O H u y -> h x y = some d -> (∀ v' H', Same H H' -> Rep X.K O H' v' d -> Q v' H') -> r v u H Q)
  (ho' : ∀ (O : List Addr) (H : Hp) (x y d : D) (v u : V) (Q : VK), (∀ l ∈ O, Mu H l) -> Rep X.K O H v x -> Rep X.K O H u y -> h' x y = some d -> (∀ v' H', Same H H' -> Rep X.K O H' v' d -> Q v' H') -> r' v u H Q)
  (ha : ∀ {Hr : Hp} (δ : DS) (O : List Addr) (σ : St) (H : Hp) (Q : VK), Ev X.K Hr O H σ δ -> ok (GS G Hr) (f δ) (fun d => ∀ v H', Same H H' -> Rep X.K O H' v d -> Q v H') -> ta σ H Q)
  (hb : ∀ {Hr : Hp} (δ : DS) (O : List Addr) (σ : St) (H : Hp) (Q : VK), Ev X.K Hr O H σ δ -> ok (GS G Hr) (g δ) (fun d => ∀ v H', Same H H' -> Rep X.K O H' v d -> Q v H') -> tb σ H Q)
  (hc : ∀ {Hr : Hp} (δ : DS) (O : List Addr) (σ : St) (H : Hp) (Q : VK), Ev X.K Hr O H σ δ -> ok (GS G Hr) (k δ) (fun d => ∀ v H', Same H H' -> Rep X.K O H' v d -> Q v H') -> tc σ H Q)
  {Hr : Hp} (δ : DS) (O : List Addr) (σ : St) (H : Hp) (Q : VK) (E : Ev X.K Hr O H σ δ) (q : ok (GS G Hr) (dChain h h' f g k δ) (fun d => ∀ v H', Same H H' -> Rep X.K O H' v d -> Q v H')) : tChain r r' ta tb tc σ H Q := by
 refine ha δ O σ H _ E (a0j (a0o q) fun x kx v H1 s1 rx => ?_)
 refine hb δ O σ H1 _ (E.same s1) (a0j (a0o kx) fun y ky u H2 s2 ry => ?_)
 obtain ⟨d, hd, kd⟩ := ok_lift (a0o ky)
 have s12 := s1.trans s2
 refine ho O H2 x y d v u _ (E.same s12).oo (rx.same s2) ry hd fun v' H3 s3 r3 => ?_
 match d, kd, r3 with
 | .bool true, kd, r3 =>
  refine ⟨true, r3.bool_inv, ?_⟩
  rw [if_pos rfl]
  refine hc δ O σ H3 _ (E.same (s12.trans s3)) (a0j (a0o kd) fun w kw v2 H4 s4 rw' => ?_)
  obtain ⟨d2, hd2, kd2⟩ := ok_lift kw
  exact ho' O H4 y w d2 u v2 Q (E.same ((s12.trans s3).trans s4)).oo ((ry.same s3).same s4) rw' hd2 fun v3 H5 s5 r5 => kd2 v3 H5 (((s12.trans s3).trans s4).trans s5) r5
 | .bool false, kd, r3 =>
  refine ⟨false, r3.bool_inv, ?_⟩
  rw [if_neg Bool.false_ne_true]
  exact kd _ H3 (s12.trans s3) (.bl false)
theorem pd_chain {op op' : CmpOp} {h h' : D -> D -> Option D} (ho : DOp X (compareOp op) h) (ho' : DOp X (compareOp op') h') (ha : PD X G a f) (hb : PD X G b g) (hc : PD X G c k) (hm : lastMarks [op, op'] [b, c] = false := by with_unfolding_all rfl) :
  PD X G (.Compare a [op, op'] [b, c] pos) (dChain h h' f g k) := by
 obtain ⟨r, hr, ho⟩ := ho
 obtain ⟨r', hr', ho'⟩ := ho'
 obtain ⟨ta, pa, ha⟩ := ha
 obtain ⟨tb, pb, hb⟩ := hb
 obtain ⟨tc, pc, hc⟩ := hc
 exact ⟨_, pe_chain hr hr' pa pb pc hm, chain_run ho ho' ha hb hc⟩
theorem pdt_chain {op op' : CmpOp} {h h' : D -> D -> Option D} (ho : DOp X (compareOp op) h) (ho' : DOp X (compareOp op') h') (ha : PD X G a f) (hb : PD X G b g) (hc : PD X G c k) (hm : lastMarks [op, op'] [b, c] = false := by with_unfolding_all rfl) :
  PDT X G (.Compare a [op, op'] [b, c] pos) (dB (dChain h h' f g k)) := by
 obtain ⟨r, hr, ho⟩ := ho
 obtain ⟨r', hr', ho'⟩ := ho'
 obtain ⟨ta, pa, ha⟩ := ha
 obtain ⟨tb, pb, hb⟩ := hb
 obtain ⟨tc, pc, hc⟩ := hc
 refine ⟨_, pt_chain hr hr' pa pb pc hm, fun δ O σ H Q E q => ?_⟩
 refine chain_run ho ho' ha hb hc δ O σ H _ E (a0j (ok_dB q) fun d z v H' s r => ?_)
 obtain ⟨b, rfl, z⟩ := z
 exact ⟨b, r.bool_inv, z H' s⟩
variable {lo hi : Option Expr} {fl fh : DS -> M (Option Int)} {p2 : Pos}
def oCutS (lo hi : Option Int) : D -> Option D
 | .str z => if small z.length then some (.str (Txt.slice z lo hi)) else none
 | d => oCut lo hi d
def dCutS (f : DS -> M D) (fl fh : DS -> M (Option Int)) : DS -> M D := fun δ => (f δ).thn fun x => (fl δ).thn fun l => (fh δ).thn fun u => M.lift (oCutS l u x)
theorem pd_cutS (he : PD X G e f) (hl : PDO X G lo fl) (hh : PDO X G hi fh) : PD X G (.Subscript e (.Slice lo hi none p2) pos) (dCutS f fl fh) := by
 obtain ⟨t, p, he⟩ := he
 obtain ⟨tl, pl, hl⟩ := hl
 obtain ⟨th, ph, hh⟩ := hh
 refine ⟨_, pe_slice (sl_str.or (sl_list.or sl_tup)) p pl ph, fun δ O σ H Q E k => ?_⟩
 refine he δ O σ H _ E (a0j (a0o k) fun d z v H1 s1 r => ?_)
 refine hl δ O σ H1 _ (E.same s1) (a0j (a0o z) fun l z H2 s2 => ?_)
 refine hh δ O σ H2 _ (E.same (s1.trans s2)) (a0j (a0o z) fun u z H3 s3 => ?_)
 obtain ⟨y, hy, z⟩ := ok_lift z
 have r3 := (r.same s2).same s3
 have s03 := (s1.trans s2).trans s3
 have E3 := E.same s03
 cases d with
 | str w =>
  have hy : (if small w.length = true then some (PyData.str (Txt.slice w l u)) else none) = some y := hy
  by_cases hw : small w.length = true
  ·rw [if_pos hw] at hy
   cases hy
   exact .inl ⟨w, r3.str_inv, a1e hw, z _ _ s03 (.str _)⟩
  ·rw [if_neg hw] at hy; cases hy
 | list ds =>
  cases hy
  obtain ⟨a, xs, rfl, h1, rs⟩ := r3.lst_inv
  exact .inr (.inl ⟨a, xs, rfl, h1, fun p hp => z _ _ (s03.trans (a1h hp)) (rep_newL E3.oo hp (rs.cut l u))⟩)
 | tuple ds =>
  have hy : (if HT.sIx ds.length 0 l = 0 /\ HT.sIx ds.length ds.length u = ds.length then none else some (PyData.tuple (cutD ds l u))) = some y := hy
  by_cases hw : HT.sIx ds.length 0 l = 0 /\ HT.sIx ds.length ds.length u = ds.length
  ·rw [if_pos hw] at hy; cases hy
  ·rw [if_neg hw] at hy
   cases hy
   obtain ⟨a, xs, rfl, h1, rs⟩ := r3.tup_inv
   exact .inr (.inr ⟨a, xs, rfl, h1, by rw [rs.length]; exact hw, fun p hp => z _ _ (s03.trans (a1h hp)) (rep_newT hp (rs.cut l u))⟩)
 | _ => cases hy
def txtOf : D -> Option Str
 | .str z => if small z.length then some z else none
 | .int i => if i.natAbs.log2 < 1920 then some (Str.ofString (toString i)) else none
 | _ => none
def dFV (f : DS -> M D) : DS -> M D := fun δ => (f δ).thn fun d => match txtOf d with
 | some z => M.ret (.str z)
 | none => none
theorem pd_fv (h : PD X G e f) : PD X G (.FormattedValue e (-1) none pos) (dFV f) := by
 obtain ⟨t, p, h⟩ := h
 refine ⟨_, pe_fv p, fun δ O σ H Q E k => ?_⟩
 refine h δ O σ H _ E (a0j (a0o k) fun d z v H1 s1 r => ?_)
 cases ht : txtOf d with
 | none => rw [ht] at z; exact z.elim
 | some w =>
  rw [ht] at z
  unfold txtOf at ht
  split at ht
  ·rename_i y
   by_cases hw : small y.length = true
   ·rw [if_pos hw] at ht
    cases ht
    exact .inl ⟨_, r.str_inv, a1e hw, z _ H1 s1 (.str _)⟩
   ·rw [if_neg hw] at ht; cases ht
  ·rename_i i
   by_cases hw : i.natAbs.log2 < 1920
   ·rw [if_pos hw] at ht
    cases ht
    exact .inr ⟨i, r.int_inv, hw, z _ H1 s1 (.str _)⟩
   ·rw [if_neg hw] at ht; cases ht
  ·cases ht
def joinD : List (DS -> M D) -> Str -> DS -> M D
 | [], out => fun _ => if small out.length then M.ret (.str out) else none
 | f :: fs, out => fun δ => (f δ).thn fun d => match d with
  | .str y => if small (out ++ y).length then joinD fs (out ++ y) δ else none
  | _ => none
inductive PDJ (X : Cx) (G : XD -> Hp -> Prop) : List Expr -> List (DS -> M D) -> Prop
 | nil : PDJ X G [] []
 | cons {e : Expr} {es : List Expr} {f : DS -> M D} {fs : List (DS -> M D)} (h : PD X G e f) (hs : PDJ X G es fs) (he : evalEach (e :: es) X.env = eval e X.env :: evalEach es X.env := by rfl) : PDJ X G (e :: es) (f :: fs)
theorem pdj_run {es : List Expr} {fs : List (DS -> M D)} (h : PDJ X G es fs) : ∃ ts, PJ X es ts /\ ∀ (out : Str) {Hr : Hp} (δ : DS) (O : List Addr) (σ : St) (H : Hp) (Q : VK), Ev X.K Hr O H σ δ -> ok (GS G Hr) (joinD fs out δ) (fun d => ∀ v H', Same H H' -> Rep X.K O H' v d -> Q v H') -> tJoin ts out σ H Q := by
 induction h with
 | nil =>
  refine ⟨[], .nil, fun out Hr δ O σ H Q E k => ?_⟩
  unfold joinD at k
  by_cases hw : small out.length = true
  ·rw [if_pos hw] at k
   exact ⟨a1e hw, k _ H (Same.refl H) (.str _)⟩
  ·rw [if_neg hw] at k; exact k.elim
 | cons h hs he ih =>
  obtain ⟨ts, p, ih⟩ := ih
  obtain ⟨t, q, h⟩ := h
  refine ⟨t :: ts, .cons q p he, fun out Hr δ O σ H Q E k => ?_⟩
  refine h δ O σ H _ E (a0j (a0o k) fun d z v H1 s1 r => ?_)
  match d, z, r with
  | .str y, z, r =>
   by_cases hw : small (out ++ y).length = true
   ·have z : ok _ (if small (out ++ y).length = true then _ else none) _ := z
    rw [if_pos hw] at z
    refine ⟨y, r.str_inv, a1e hw, ih (out ++ y) δ O σ H1 Q (E.same s1) (a0j z fun d q v H2 s2 => q v H2 (s1.trans s2))⟩
   ·have z : ok _ (if small (out ++ y).length = true then _ else none) _ := z
    rw [if_neg hw] at z
    exact z.elim
theorem pd_joined {e1 e2 : Expr} {es : List Expr} {fs : List (DS -> M D)} (h : PDJ X G (e1 :: e2 :: es) fs) : PD X G (.JoinedStr (e1 :: e2 :: es) pos) (joinD fs Str.empty) := by
 obtain ⟨ts, p, h⟩ := pdj_run h
 exact ⟨_, pe_joined p, h Str.empty⟩
theorem pd_globS {x z : Str} {t : Tok} (hg : Gl X x) (hm : X.mg x = some (.str z t)) (hd : (x == ("__debug__" : Str)) = false := by decide) : PD X G (.Name x pos) (dC (.str z)) :=
 ⟨_, pe_glob (v := .str z) hg hm ⟨t, rfl⟩ hd, fun _ _ _ H Q _ k => k _ H (Same.refl H) (.str z)⟩
theorem pd_globI {x : Str} {i : Int} {t : Tok} (hg : Gl X x) (hm : X.mg x = some (.int i t)) (hd : (x == ("__debug__" : Str)) = false := by decide) : PD X G (.Name x pos) (dC (.int i)) :=
 ⟨_, pe_glob (v := .int i) hg hm ⟨t, rfl⟩ hd, fun _ _ _ H Q _ k => k _ H (Same.refl H) (.int i)⟩
end
end DL
namespace L2
open PySem PySem.Spec PyProof.Rows
section
variable {X : Cx}
end
end L2
namespace DL
open PySem PySem.Spec PyProof.Rows L2
section
variable {X : Cx} {G : XD -> Hp -> Prop} {fi : DS -> M (List D)} {c : DS -> M Bool} {f : DS -> M D} {t : D -> DS -> Option DS}
end
end DL
namespace L2
open PySem PySem.Spec PyProof.Rows
section
variable {prog : Program} {w : World} {A : Around} {E : Value -> Shared -> Prop} {s : Shared}
end
section
variable {X : Cx}
end
end L2
namespace DL
open PySem PySem.Spec PyProof.Rows L2
section
variable {X : Cx}
end
end DL
namespace L2
open PySem PySem.Spec PyProof.Rows
section
variable {X : Cx}
theorem mulOk_of {x : Str} {n : Int} (h0 : 0 <= n) (h1 : n <= 1000) (h2 : x.length <= 1000) : MulOk x n := by
 refine ⟨?_, fun z _ => ?_, fun z _ => ?_⟩
 ·rw [Bool.or_eq_false_iff, decide_eq_false_iff_not, decide_eq_false_iff_not]
  omega
 ·have e : (x.length : Int) <= (2 ^ 63 - 1) / n := by
   rw [Int.le_ediv_iff_mul_le (by omega)]
   have : (x.length : Int) * n <= 1000 * 1000 := Int.mul_le_mul (by omega) h1 h0 (by decide)
   omega
  omega
 ·have : x.length * n.toNat <= 1000 * 1000 := Nat.mul_le_mul h2 (by omega)
  unfold Builtin.Str.tooLong
  rw [decide_eq_false_iff_not, sizeLine_eq]
  omega
theorem op_mul_str : OpR X (binaryOp .Mult) (fun x y H Q => ∃ z n, x = .str z /\ y = .int n /\ 0 <= n /\ n <= 1000 /\ z.length <= 1000 /\ Q (.str (Txt.mul z n)) H) := by
 intro pins s σ H x y v u Q I rx ry h
 obtain ⟨z, n, rfl, rfl, h0, h1, h2, q⟩ := h
 obtain ⟨t, rfl⟩ := rx
 obtain ⟨t', rfl⟩ := ry
 exact SB.mul (mulOk_of h0 h1 h2) fun t' k => ⟨.str _, H, I.tok k, ⟨t', rfl⟩, q⟩
end
end L2
namespace DL
open PySem PySem.Spec PyProof.Rows L2
section
variable {X : Cx}
def oMulS : D -> D -> Option D
 | .str z, .int n => if 0 <= n /\ n <= 1000 /\ z.length <= 1000 then some (.str (Txt.mul z n)) else none
 | _, _ => none
theorem dop_mulS : DOp X (binaryOp .Mult) oMulS := by
 refine ⟨_, op_mul_str, fun O H x y d v u Q oo rx ry e k => ?_⟩
 unfold oMulS at e
 split at e
 ·rename_i z n
  by_cases h : 0 <= n /\ n <= 1000 /\ z.length <= 1000
  ·rw [if_pos h] at e
   cases e
   exact ⟨z, n, rx.str_inv, ry.int_inv, h.1, h.2.1, h.2.2, k _ H (Same.refl H) (.str _)⟩
  ·rw [if_neg h] at e; cases e
 ·cases e
end
end DL
namespace L2
open PySem PySem.Spec PyProof.Rows
section
variable {X : Cx}
end
end L2
namespace DL
open PySem PySem.Spec PyProof.Rows L2
section
variable {X : Cx}
end
end DL
namespace DL
open PySem PySem.Spec PyProof.Rows L2
section
variable {X : Cx} {G : XD -> Hp -> Prop} {e : Expr} {es : List Expr} {f : DS -> M D} {fa : DS -> M (List D)} {gt : DS -> M Out} {sts : List Stmt} {pos : Pos}
end
section
variable {X : Cx} {G : XD -> Hp -> Prop} {e : Expr} {es : List Expr} {f : DS -> M D} {fa : DS -> M (List D)} {pos : Pos}
end
section
variable {P : Program} {w : World} {K : PySem.W.Frag} {mg : Str -> Option Value} {base : Heap}
end
end DL
namespace L2
open PySem PySem.Spec PyProof.Rows
section
variable {X : Cx}
end
end L2
namespace DL
open PySem PySem.Spec PyProof.Rows L2
section
variable {X : Cx}
end
section
variable {X : Cx} {G : XD -> Hp -> Prop} {e : Expr} {es : List Expr} {f : DS -> M D} {fa : DS -> M (List D)} {gs gt : DS -> M Out} {st : Stmt} {sts : List Stmt} {pos : Pos}
mutual
theorem Rep.flatTo {K : PySem.W.Frag} {O O' : List Addr} {H H' : Hp} (t : ∀ b xs, Rd H b (.tup xs) -> Rd H' b (.tup xs)) : ∀ {v : V} {d : D}, flatD d = true -> Rep K O H v d -> Rep K O' H' v d
 | _, _, _, .non => .non
 | _, _, _, .bl b => .bl b
 | _, _, _, .int i => .int i
 | _, _, _, .str x => .str x
 | _, _, h, .tup q r => .tup (by rcases q with q | q; exact .inl (t _ _ q); exact .inr q) (Reps.flatTo t (by simpa only [flatD] using h) r)
 | _, _, h, .lst _ _ _ => by simp [flatD] at h
 | _, _, h, .lstK _ _ => by simp [flatD] at h
 | _, _, h, .dct _ _ _ _ => by simp [flatD] at h
 | _, _, h, .ins _ _ _ _ _ => by simp [flatD, insD] at h
theorem Reps.flatTo {K : PySem.W.Frag} {O O' : List Addr} {H H' : Hp} (t : ∀ b xs, Rd H b (.tup xs) -> Rd H' b (.tup xs)) : ∀ {vs : List V} {ds : List D}, flatDs ds = true -> Reps K O H vs ds -> Reps K O' H' vs ds
 | _, _, _, .nil => .nil
 | _, _, h, .cons r rs => by
  simp only [flatDs, Bool.and_eq_true] at h
  exact .cons (Rep.flatTo t h.1 r) (Reps.flatTo t h.2 rs)
end
end
end DL
namespace DL
open PySem PySem.Spec PyProof.Rows L2
section
variable {X : Cx} {G : XD -> Hp -> Prop} {c e : Expr} {fb : DS -> M Bool} {f : DS -> M D} {gs gt : DS -> M Out} {st1 body sts : List Stmt} {st : Stmt} {pos : Pos}
end
end DL
namespace L2
open PySem PySem.Spec PyProof.Rows
section
variable {X : Cx}
end
end L2
namespace DL
open PySem PySem.Spec PyProof.Rows L2
section
variable {X : Cx} {G : XD -> Hp -> Prop} {a b c e ix : Expr} {es : List Expr} {f g fi : DS -> M D} {fa : DS -> M (List D)} {fn : DS -> M (List D)} {pos tpos : Pos}
end
end DL
namespace L2
open PySem PySem.Spec PyProof.Rows
end L2
namespace DL
open PySem PySem.Spec PyProof.Rows L2
section
variable {X : Cx}
end
end DL
namespace DL
open PySem PySem.Spec PyProof.Rows L2
section
variable {X : Cx}
def oOrd : List D -> Option D
 | [.str x] => if x.length = 1 then some (.int ((x.cps.getD 0 0 : Nat) : Int)) else none
 | _ => none
theorem dcall_ord : DCall X (.builtin "ord") oOrd := by
 refine ⟨_, call_ord, fun O H ds d vs Q oo rs e k => ?_⟩
 unfold oOrd at e
 split at e
 ·rename_i x
  by_cases h : x.length = 1
  ·rw [if_pos h] at e
   cases e
   obtain ⟨v, rfl, r⟩ := reps1 rs
   exact ⟨x, by rw [r.str_inv], h, k _ H (Same.refl H) (.int _)⟩
  ·rw [if_neg h] at e; cases e
 ·cases e
end
end DL
namespace L2
open PySem PySem.Spec PyProof.Rows

section
variable {κ : Type} [DecidableEq κ]
end


section
variable {P : Program} {w : World} {H : Hp} {h : Heap} {a : Addr}
end

section
variable {X : Cx} {pins : List (Addr × Obj)} {σ : St} {H : Hp} {s : Shared} {a : Addr} {y v : V} {u r : Value} {o : Option V} {A : Around} {E : Value -> Shared -> Prop}

end

section
variable {X : Cx} {pins : List (Addr × Obj)} {σ : St} {H : Hp} {s : Shared} {a : Addr} {kvs : List (Key × V)} {k : Key} {u : Value} {A : Around} {E : Value -> Shared -> Prop}
end


section
variable {X : Cx} {o i e value : Expr} {pos pos' tpos : Pos} {td ty tv : TE}
end


section
variable {X : Cx} {pos : Pos}
end

structure M1 (X : Cx) (o : Expr) (m : Str) (apos : Pos) (e : Expr) (cpos : Pos) : Prop where
 base : attributeBase o m X.env (eval o X.env) = eval o X.env
 few : ((backTo cpos (starEach [e] X.env)).all (fun x => !x.1) && (backToKw cpos (keywordEach [] X.env)).all (fun x => x.1.isSome)
  && decide (([e] : List Expr).length + ([] : List Keyword).length + (if ([] : List Keyword).isEmpty then 0 else 1) < 30)) = true
 line : (apos.endLine == cpos.line) = true
 trees : backTo cpos (starEach [e] X.env) = [(false, eval e X.env)]
section
variable {X : Cx} {pins : List (Addr × Obj)} {σ : St} {H : Hp} {s : Shared} {a : Addr} {y d : V} {u r : Value} {o : Option V} {A : Around} {E : Value -> Shared -> Prop}
end

section
variable {X : Cx} {o e f : Expr} {apos cpos : Pos} {td ty tx : TE}
end

section
variable {X : Cx} {pins : List (Addr × Obj)} {σ : St} {H : Hp} {s : Shared} {a : Addr} {kvs : List (Key × V)} {A : Around} {E : Value -> Shared -> Prop}
end


section
variable {X : Cx} {pins : List (Addr × Obj)} {σ : St} {H : Hp} {s : Shared} {a : Addr} {y : V} {u : Value} {A : Around} {E : Value -> Shared -> Prop}
end
end L2
namespace DL
open PySem PySem.Spec PyProof.Rows L2
section
variable {K : PySem.W.Frag} {O : List Addr} {H : Hp}
end
section
variable {X : Cx} {G : XD -> Hp -> Prop} {a b o i e : Expr} {f g : DS -> M D} {pos pos' lp : Pos}
end
section
variable {K : PySem.W.Frag} {Hr : Hp} {R0 : List Addr} {P0 : Addr -> Prop} {H0 H H' : Hp} {O : List Addr} {σ : St} {δ : DS}
end
section
variable {X : Cx} {G : XD -> Hp -> Prop} {a b o ix e : Expr} {f g : DS -> M D} {pos pos' lp tpos : Pos}
end
end DL
namespace DL
open PySem PySem.Spec PyProof.Rows L2
section
variable {X : Cx} {G : XD -> Hp -> Prop} {a b c o i e : Expr} {f g : DS -> M D} {fb : DS -> M Bool} {fn : DS -> M (List D)} {gs gt : DS -> M Out} {st1 sts : List Stmt} {pos pos' lp : Pos}
end
section
variable {X : Cx} {G : XD -> Hp -> Prop} {k v : Expr} {ks : List (Option Expr)} {vs : List Expr} {f g : DS -> M D} {fp : DS -> M (List (Key × D))} {pos pos' lp : Pos}
end
section
variable {P : Program} {w : World} {K : PySem.W.Frag} {mg : Str -> Option Value} {base : Heap}
end
end DL
namespace DL
open PySem PySem.Spec PyProof.Rows L2
variable {X : Cx}
section
variable {G : XD -> Hp -> Prop} {e : Expr} {es : List Expr} {fa : DS -> M (List D)} {pos : Pos}
end
section
variable {P : Program} {w : World} {K : PySem.W.Frag} {mg : Str -> Option Value} {base : Heap}
end
end DL
namespace DL
open PySem PySem.Spec PyProof.Rows L2
variable {X : Cx} {G : XD -> Hp -> Prop} {e o : Expr} {es : List Expr} {f g : DS -> M D} {fa : DS -> M (List D)} {pos apos : Pos}
def dEl (f g : DS -> M D) : DS -> M D := fun δ => match f δ with
 | none => g δ
 | r => r
theorem pd_el (h1 : PD X G e f) (h2 : PD X G e g) : PD X G e (dEl f g) := by
 obtain ⟨t1, p1, h1⟩ := h1
 obtain ⟨t2, p2, h2⟩ := h2
 refine ⟨fun σ H Q => t1 σ H Q \/ t2 σ H Q, fun pins s σ H Q I h => ?_, fun δ O σ H Q E k => ?_⟩
 ·rcases h with h | h
  ·exact p1 pins s σ H Q I h
  ·exact p2 pins s σ H Q I h
 ·cases hf : f δ with
  | none =>
   have e : dEl f g δ = g δ := by unfold dEl; rw [hf]
   rw [e] at k
   exact .inr (h2 δ O σ H Q E k)
  | some r =>
   have e : dEl f g δ = f δ := by unfold dEl; rw [hf]
   rw [e] at k
   exact .inl (h1 δ O σ H Q E k)
theorem ev_el1 {δ : DS} {d : D} (h : f δ = M.ret d) : dEl f g δ = M.ret d := by unfold dEl; rw [h]; rfl
theorem ev_el2 {δ : DS} {r : M D} (h : f δ = none) (h2 : g δ = r) : dEl f g δ = r := by unfold dEl; rw [h]; exact h2
def attrs (nm : Str) : D -> Option (List (D))
 | .dict [(.none, .tuple (.str x :: r))] => if x = nm then some r else none
 | _ => none
def fldOf (f : Str) : List D -> Option D
 | [] => none
 | .tuple [.str g, d] :: r => if g = f then some d else fldOf f r
 | _ :: _ => none
def oFld (nm f : Str) (x : D) : Option D := match attrs nm x with
 | some r => fldOf f r
 | none => none
structure ClsN (X : Cx) (nm : Str) (C : Addr) : Prop where
 at_ : PySem.W.nsIn X.K mainGlobals nm = some (some (.ref C))
 cls : Cls X.K C
theorem attrs_inv {K : PySem.W.Frag} {O : List Addr} {H : Hp} {v : V} {nm : Str} {x : D} {r : List D} (rx : Rep K O H v x) (h : attrs nm x = some r) : ∃ (a C dx : Addr) (fs : List (Str × V)) (es : List (Str × D)), v = .ref a /\ r = es.map (fun e => PyData.tuple [.str e.1, e.2]) /\ PySem.W.nsIn K mainGlobals nm = some (some (.ref C)) /\ H a = some (.ins C dx fs) /\ a ∉ O /\ fs.map (·.1) = es.map (·.1) /\ Reps K O H (fs.map (·.2)) (es.map (·.2)) := by
 cases rx with
 | dct h1 n hk rr =>
  rename_i a kvs es
  cases es with
  | nil => cases h
  | cons e es =>
   obtain ⟨k, y⟩ := e
   cases es with
   | nil => cases k <;> cases h
   | cons e2 es =>
    cases k <;> cases h
 | ins hN h1 n hk rr =>
  rename_i a C dx nm2 fs es
  have h' : (if nm2 = nm then some (es.map fun e => PyData.tuple [.str e.1, e.2]) else none) = some r := h
  by_cases c : nm2 = nm
  ·rw [if_pos c] at h'
   exact ⟨_, _, _, _, _, rfl, (Option.some.inj h').symm, c ▸ hN, h1, n, hk, rr⟩
  ·rw [if_neg c] at h'; cases h'
 | _ => cases h
theorem fld_rep {K : PySem.W.Frag} {O : List Addr} {H : Hp} {f : Str} {d : D} : ∀ {fs : List (Str × V)} {es : List (Str × D)}, fs.map (·.1) = es.map (·.1) -> Reps K O H (fs.map (·.2)) (es.map (·.2)) -> fldOf f (es.map fun e => PyData.tuple [.str e.1, e.2]) = some d -> ∃ v, fs.lookup f = some v /\ Rep K O H v d
 | [], [], _, _, h => by cases h
 | [], _ :: _, hk, _, _ => by cases hk
 | _ :: _, [], hk, _, _ => by cases hk
 | (g, v) :: fs, (g2, y) :: es, hk, r, h => by
  simp only [List.map_cons, List.cons.injEq] at hk
  obtain ⟨rfl, hk⟩ := hk
  rw [List.map_cons, List.map_cons] at r
  cases r with
  | cons r1 rs =>
   have h : (if g = f then some y else fldOf f (es.map fun e => PyData.tuple [.str e.1, e.2])) = some d := h
   by_cases c : g = f
   ·rw [if_pos c] at h
    cases h
    subst c
    exact ⟨v, by simp [List.lookup], r1⟩
   ·rw [if_neg c] at h
    obtain ⟨w, h1, h2⟩ := fld_rep hk rs h
    refine ⟨w, ?_, h2⟩
    have hb : (f == g) = false := beq_eq_false_iff_ne.mpr (Ne.symm c)
    simp only [List.lookup, hb]
    exact h1
theorem pd_fld {nm fl : Str} {C : Addr} (c : ClsN X nm C) (n : NoAttr X.K C fl) (ho : PD X G o f) (hb : attributeBase o fl X.env (eval o X.env) = eval o X.env := by rfl) : PD X G (.Attribute o fl pos) (d1 (oFld nm fl) f) := by
 obtain ⟨t, p, h⟩ := ho
 refine ⟨_, pe_fld p hb, fun δ O σ H Q E k => ?_⟩
 refine h δ O σ H _ E (a0j (a0o k) fun x z v H1 s1 rx => ?_)
 obtain ⟨d, hd, z⟩ := ok_lift z
 unfold oFld at hd
 cases ha : attrs nm x with
 | none => rw [ha] at hd; cases hd
 | some r =>
  rw [ha] at hd
  obtain ⟨a, C', dx, fs, es, rfl, rfl, hN, h1, hn, hk, rr⟩ := attrs_inv rx ha
  have : C' = C := by
   have := hN.symm.trans c.at_
   simp at this
   exact this
  subst this
  obtain ⟨w, l1, l2⟩ := fld_rep hk rr hd
  exact ⟨a, C', dx, fs, w, rfl, h1, c.cls, n, l1, z w H1 s1 l2⟩
structure DefM (P : Program) (w : World) (K : PySem.W.Frag) (mg : Str -> Option Value) (base : Heap) (k : Nat) (nm m : Str) (n : Nat) (F : List D -> M D) : Prop where
 ex : ∃ (C f : Addr) (fd : FuncData) (ps : List Str), PySem.W.nsIn K mainGlobals nm = some (some (.ref C)) /\ Cls K C /\ Meth K C m f /\ FnOk P w K mg base CX0 k f fd ps (spD K n F) /\ Binds K fd ps []
def noFld (m : Str) (r : List D) : Bool := r.all fun d => match d with
 | .tuple [.str g, _] => decide (g ≠ m)
 | _ => false
def dMe (nm m : Str) (F : List D -> M D) (fo : DS -> M D) (fa : DS -> M (List D)) : DS -> M D := fun δ => (fo δ).thn fun x => match attrs nm x with
 | some r => if noFld m r = true then (fa δ).thn fun ds => F (x :: ds) else none
 | none => none
theorem noFld_look {m : Str} : ∀ {fs : List (Str × V)} {es : List (Str × D)}, fs.map (·.1) = es.map (·.1) -> noFld m (es.map fun e => PyData.tuple [.str e.1, e.2]) = true -> fs.lookup m = none
 | [], _, _, _ => rfl
 | _ :: _, [], hk, _ => by cases hk
 | (g, v) :: fs, (g2, y) :: es, hk, h => by
  simp only [List.map_cons, List.cons.injEq] at hk
  obtain ⟨rfl, hk⟩ := hk
  unfold noFld at h
  rw [List.map_cons, List.all_cons, Bool.and_eq_true] at h
  have c : g ≠ m := of_decide_eq_true h.1
  have hb : (m == g) = false := beq_eq_false_iff_ne.mpr (Ne.symm c)
  simp only [List.lookup, hb]
  exact noFld_look hk h.2
theorem pd_methI {pl : Sem Bool} {k n : Nat} {nm m : Str} {F : List D -> M D} (h : DefM X.prog X.w X.K X.mg X.base k nm m n F) (hr : Room k X.A) (hn : (e :: es).length + 1 = n) (ho : PD X G o f) (ha : PDA X G (e :: es) fa)
  (hst : starEach (e :: es) X.env = (false, eval e X.env) :: starEach es X.env := by rfl) (hpl : (backTo pos (starEach es X.env)).any (·.1) = false := by rfl)
  (ht : eval (.Call (.Attribute o m apos) (e :: es) [] pos) X.env = (do
   let ov <- eval o X.env
   standAt apos.atName
   let (f, first) <- holding [ov] (getMethod ov m pl)
   callWith pos f first (backTo pos (starEach (e :: es) X.env)) (backToKw pos (keywordEach [] X.env))) := by rfl) :
  PD X G (.Call (.Attribute o m apos) (e :: es) [] pos) (dMe nm m (fun ds => noX (F ds)) f fa) := by
 obtain ⟨C, f0, fd, ps, hN, c, hm, F1, hb⟩ := h.ex
 obtain ⟨t, p, ho⟩ := ho
 obtain ⟨hl, ta, pa, ha⟩ := ha
 refine ⟨_, pe_meth (pl := pl) p c hm F1 hr hb .nil pass0 pa hst hpl ht, fun δ O σ H Q E k => ?_⟩
 refine ho δ O σ H _ E (a0j (a0o k) fun x z v H1 s1 rx => ?_)
 cases hat : attrs nm x with
 | none => rw [hat] at z; exact z.elim
 | some r =>
  rw [hat] at z
  have z1 : ok _ (if noFld m r = true then (fa δ).thn fun ds => noX (F (x :: ds)) else none) _ := z
  clear z
  by_cases hf : noFld m r = true
  ·rw [if_pos hf] at z1
   obtain ⟨a, C', dx, fs, es', rfl, rfl, hN', h1, hn1, hk, rr⟩ := attrs_inv rx hat
   have hC : C' = C := by
    have := hN'.symm.trans hN
    simp at this
    exact this
   subst hC
   refine ⟨a, dx, fs, rfl, h1, noFld_look hk hf, ?_⟩
   have k1 := a0o z1
   refine ha δ O σ H1 _ (E.same s1) ?_
   cases e1 : fa δ with
   | none => rw [e1] at k1; exact k1.elim
   | some q =>
    rw [e1] at k1
    cases q with
    | error y => exact k1
    | ok ds =>
     refine fun vs H2 s2 rs => ?_
     refine ⟨O, x :: ds, ?_, ((E.same s1).same s2).oo, ?_, a0j (ok_noX k1) fun d z v H3 s3 r => z v H3 (s1.trans (s2.trans s3)) r⟩
     ·show (vs ++ []).length + 1 = n
      rw [List.append_nil, rs.length, hl δ ds e1]
      exact hn
     ·rw [List.append_nil]
      exact .cons (rx.same s2) rs
  ·rw [if_neg hf] at z1; exact z1.elim
theorem ev_me {nm m : Str} {F : List D -> M D} {δ : DS} {x d : D} {r ds : List D} (h1 : f δ = M.ret x) (h2 : attrs nm x = some r) (h3 : noFld m r = true) (h4 : fa δ = M.ret ds) (h5 : F (x :: ds) = M.ret d) : dMe nm m (fun ds => noX (F ds)) f fa δ = M.ret d := by
 unfold dMe
 rw [h1, a0t, h2]
 show (if noFld m r = true then (fa δ).thn fun ds => noX (F (x :: ds)) else none) = _
 rw [if_pos h3, h4, a0t, h5]
 rfl
theorem ev_me0 {nm m : Str} {F : List D -> M D} {δ : DS} {x : D} (h1 : f δ = M.ret x) (h2 : attrs nm x = none) : dMe nm m F f fa δ = none := by
 unfold dMe
 rw [h1, a0t, h2]
end DL
namespace OI
open PySem PySem.Spec PyProof.Rows
theorem oi_kind : builtinKind "object.__init__" = some .slot := by decide +kernel
theorem oi_split : splitId "object.__init__" = some ("object", "__init__") := by decide +kernel
theorem oi_q (x : Value) : (Code.builtin "object.__init__" ⟨[x], []⟩).quiet = true := Code.quiet_builtin _ (by decide +kernel)
theorem oi_code {prog : Program} {w : World} {A : Around} {x : Value} {Q : PySem.Fin -> Shared -> Prop} {E : Value -> Shared -> Prop} {s : Shared} (q : Q (.done (.ret .none)) s) : wpAny (model prog w) A (Builtin.«object.__init__» ⟨[x], []⟩) Q E s := by
 unfold Builtin.«object.__init__»
 exact wpAny_pure q
theorem oi_chk {prog : Program} {w : World} {A : Around} {E : Value -> Shared -> Prop} {s : Shared} {x : Value} {Q : Unit -> Shared -> Prop} (hi : PySem.W.Looks (model prog w) s.heap (isInstance x (.type "object")) true) (q : Q () s) : wpAny (model prog w) A (checkBuiltinCall "object.__init__" ⟨[x], []⟩) Q E s :=
 PySem.W.check_slot (M := model prog w) (A := A) (E := E) (s := s) (i := "object.__init__") (owner := "object") (n := "__init__") (self := x) (rest := []) (kw := []) (Q := Q) oi_kind oi_split hi (PySem.F.args_object_init_1 x) q
theorem oi_run {prog : Program} {w : World} {A : Around} {R : Result -> Shared -> Prop} {s : Shared} {x : Value} (hi : PySem.W.Looks (model prog w) s.heap (isInstance x (.type "object")) true) (q : R (.ok (.ret .none)) s) : codeAny (model prog w) A (.call (.builtin "object.__init__") ⟨[x], []⟩) R s := by
 refine codeAny_call_builtin_at (oi_q x) PySem.F.entry_object_init ?_
 refine oi_chk hi ?_
 refine oi_code ?_
 exact q
end OI
namespace DL
open PySem PySem.Spec PyProof.Rows L2
theorem oi_bind (self : Value) : bindSpecial (.builtin "object.__init__") self = pure (.builtin "object.__init__", [self]) := by
 have hop : withoutEnding? "object.__init__" "#opaque" = none := by decide +kernel
 have hdat : withoutEnding? "object.__init__" "#data" = none := by decide +kernel
 simp only [bindSpecial, typeOf, builtinType, hop, hdat, OI.oi_kind]; rfl
structure Mk0 (K : PySem.W.Frag) (C : Addr) : Prop where
 makes : PySem.W.makesIn K C = true
 init : PySem.W.findIn K (.ref C) "__init__" = some (some (.builtin "object.__init__"))
 sub : PySem.W.subIn K (.ref C) (.type "object") = some true
 kp : PySem.W.keepIn K (.ref C) = true
section
variable {X : Cx} {G : XD -> Hp -> Prop} {C f : Addr} {x nm fl : Str} {p pos : Pos} {e : Expr} {es : List Expr} {g : DS -> M D}
def tMk0 (C : Addr) : TE := fun σ H Q => ∀ x dx, H x = none -> H dx = none -> dx ≠ x -> Q (.ref x) (upd (upd H dx (.own x)) x (.ins C dx []))
theorem pe_mk0 (M : Mk0 X.K C) (hg : Gl X x) (hm : X.mg x = some (.ref C)) (hdb : (x == ("__debug__" : Str)) = false := by decide) : PE X (.Call (.Name x p) [] [] pos) (tMk0 C) := by
 intro pins s σ H Q I h
 refine wpAny_Call_Name_kw (ld_glob I hg hm ?_ hdb)
 refine PySem.W.callWith_K0 I.kIn M.kp ?_
 have hq := h (s.heap.objs.size + 1) s.heap.objs.size (I.hok.fresh (Nat.le_succ _)) (I.hok.fresh (Nat.le_refl _)) (Nat.ne_of_lt (Nat.lt_succ_self _))
 have I2 := Inv.made (C := C) I
 refine wpAny_call (make_map0 I.kIn M.makes M.init (fun self => PySem.W.Looks.of_pure (oi_bind self)) (OI.oi_run ?_ ⟨rfl, ⟨V.ref (s.heap.objs.size + 1), _, I2, rfl, hq⟩⟩))
 have hx : ((s.heap.push PySem.W.emptyDict).push (PySem.W.instObj C s.heap.objs.size)).get? (s.heap.objs.size + 1) = some (PySem.W.instObj C s.heap.objs.size) := by
  have := Heap.get?_push_size (s.heap.push PySem.W.emptyDict) (o := PySem.W.instObj C s.heap.objs.size) rfl
  rw [Heap.size_push] at this
  exact this
 have t1 : PySem.W.Looks (model X.prog X.w) ((s.heap.push PySem.W.emptyDict).push (PySem.W.instObj C s.heap.objs.size)) (typeOf (.ref (s.heap.objs.size + 1))) (.ref C) := (PySem.W.Looks.ld hx).andThen .now
 exact t1.andThen (PySem.W.looks_subIn I2.kIn M.sub)
theorem rep_ins {K : PySem.W.Frag} {O : List Addr} {H : Hp} {C a dx : Addr} {nm : Str} {fs : List (Str × V)} {es : List (Str × D)} (oo : ∀ l ∈ O, Mu H l) (hN : PySem.W.nsIn K mainGlobals nm = some (some (.ref C))) (ha : H a = none) (hd : H dx = none) (hne : dx ≠ a) (hk : fs.map (·.1) = es.map (·.1)) (r : Reps K O H (fs.map (·.2)) (es.map (·.2))) : Same H (upd (upd H dx (.own a)) a (.ins C dx fs)) /\ Rep K O (upd (upd H dx (.own a)) a (.ins C dx fs)) (.ref a) (insD nm es) := by
 have s : Same H (upd (upd H dx (.own a)) a (.ins C dx fs)) := (a1h hd).trans (a1h (by rw [upd_ne (Ne.symm hne)]; exact ha))
 exact ⟨s, .ins hN a0w (nin oo ha) hk (r.same s)⟩
theorem pd_mk0 (M : Mk0 X.K C) (hN : PySem.W.nsIn X.K mainGlobals x = some (some (.ref C))) (hg : Gl X x) (hm : X.mg x = some (.ref C)) (hdb : (x == ("__debug__" : Str)) = false := by decide) : PD X G (.Call (.Name x p) [] [] pos) (dC (insD x [])) := by
 refine ⟨_, pe_mk0 M hg hm hdb, fun δ O σ H Q E k => ?_⟩
 intro a dx ha hd hne
 obtain ⟨s, r⟩ := rep_ins (fs := []) (es := []) E.oo hN ha hd hne rfl .nil
 exact k _ _ s r
def spI (C : Addr) (fl : Str) : Sp := fun vs H Q _ => ∃ a dx v, vs = [.ref a, v] /\ H a = some (.ins C dx []) /\ Q .non (upd H a (.ins C dx [(fl, v)]))
structure MkI (P : Program) (w : World) (K : PySem.W.Frag) (mg : Str -> Option Value) (base : Heap) (k : Nat) (x fl : Str) : Prop where
 ex : ∃ (C f : Addr) (fd : FuncData) (ps : List Str), PySem.W.nsIn K mainGlobals x = some (some (.ref C)) /\ mg x = some (.ref C) /\ Mk K C f /\ FnOk P w K mg base CX0 k f fd ps (spI C fl) /\ Binds K fd ps []
def dMk (x fl : Str) (fa : DS -> M (List D)) : DS -> M D := fun δ => (fa δ).thn fun ds => match ds with
 | [d] => M.ret (insD x [(fl, d)])
 | _ => none
theorem pd_mk1 {k : Nat} {fa : DS -> M (List D)} (h : MkI X.prog X.w X.K X.mg X.base k x fl) (hr : Room (k + 1) X.A) (hg : Gl X x) (ha : PDA X G (e :: es) fa)
  (hdb : (x == ("__debug__" : Str)) = false := by decide) (he : starEach (e :: es) X.env = (false, eval e X.env) :: starEach es X.env := by rfl) (hpl : (backTo pos (starEach es X.env)).any (·.1) = false := by rfl) :
  PD X G (.Call (.Name x p) (e :: es) [] pos) (dMk x fl fa) := by
 obtain ⟨C, f, fd, ps, hN, hm, M1, F1, hb⟩ := h.ex
 obtain ⟨hl, t, pa, ha⟩ := ha
 refine ⟨_, pe_make M1 F1 hr hg hm hb .nil pass0 pa hdb he hpl, fun δ O σ H Q E k => ?_⟩
 have k1 := a0o k
 refine ha δ O σ H _ E ?_
 cases e1 : fa δ with
 | none => rw [e1] at k1; exact k1.elim
 | some r =>
  rw [e1] at k1
  cases r with
  | error y => exact k1
  | ok ds =>
   refine fun vs H1 s1 rs => ?_
   match ds, k1, rs with
   | [d], k1, rs =>
    intro a dx ha' hd hne
    obtain ⟨v, rfl, rv⟩ := reps1 rs
    obtain ⟨s, r⟩ := rep_ins (fs := [(fl, v)]) (es := [(fl, d)]) (E.same s1).oo hN ha' hd hne rfl (.cons rv .nil)
    refine ⟨a, dx, v, rfl, a0w, rfl, ?_⟩
    rw [show upd (upd (upd H1 dx (.own a)) a (.ins C dx [])) a (.ins C dx [(fl, v)]) = upd (upd H1 dx (.own a)) a (.ins C dx [(fl, v)]) from by funext b; unfold upd; split <;> rfl]
    exact k1 _ _ (s1.trans s) r
end
section
variable {P : Program} {w : World} {K : PySem.W.Frag} {mg : Str -> Option Value} {base : Heap}
theorem init_of {x qual fl : Str} {st : Stmt} {f C : Addr} {fd : FuncData} {N : List Str} {k : Nat} (F0 : Fun K x qual st f fd) (S : FnScope N N (defScope st)) (hN : N.length = 2) (c : Cls K C) (n : NoAttr K C fl)
  (hbody : ∀ (cdv : Value) (A : Around) (outer : List Env) (s : Shared) (H : Hp) (E : XK), PSs (cxOf CX0 P w K mg base N qual (defScope st) f cdv A outer s H E).nox (defBody st) (sFld K (tVar 0) (tVar 1) fl)) : FnOk P w K mg base CX0 (k + 1) f fd N (spI C fl) := by
 refine F0.ok S (fun vs H Q E h => ?_) (fun cdv A outer s H vs Q E hr h => ?_)
 ·obtain ⟨a, dx, v, rfl, _⟩ := h
  exact hN.symm
 ·obtain ⟨a, dx, v, rfl, ha, q⟩ := h
  refine ⟨_, hbody cdv A outer s H E, ?_⟩
  match N, hN with
  | [n0, n1], _ => exact ⟨v, rfl, .ref a, rfl, a, C, dx, [], rfl, ha, c, n, by decide, q⟩
end
end DL
namespace L2
open PySem PySem.Spec PyProof.Rows
section
open AutoSeq1 (wpAny_loadPart')
abbrev itOf (l : Addr) : Obj := { cls := .type "list_iterator", data := .fields #[.ref l, .int 0 0] }
abbrev enOf (a : Addr) : Obj := { cls := .type "enumerate", data := .fields #[.none, .bool false, .ref a, rawInt 1, .none, .none] }
theorem enumK_new (l : Addr) (its : Array Value) (n : Nat) (dc : Option Addr) (sl : Array (Option Value)) (t : Tok) :
  Meets (Builtin.«enumerate.__new__» ⟨[.type "enumerate", .ref l], [(Str.ofString "start", .int 1 t)]⟩) (fun _ R s => s.heap.get? l = some { cls := .type "list", dict := dc, data := .seq its n, slots := sl } /\
   R (.ok (.ret (.ref (s.heap.push (itOf l)).objs.size))) { s with heap := (s.heap.push (itOf l)).push (enOf s.heap.objs.size) }) := by
 refine Meets.of_wp fun prog w A R st0 h => ?_
 obtain ⟨hp, g, d, tk, os⟩ := st0
 obtain ⟨hl, h⟩ := h
 have hsub := sub_enumerate
 have hL : Heap.IsList (Shared.heap ⟨hp, g, d, tk, os⟩) l its := ⟨_, hl, rfl, n, rfl⟩
 wp_walk using wpAny_loadPart' hl
 refine wpAny_stack_any fun stk => wpAny_pure ?_
 split
 ·rename_i c _ _ _ _ _
  cases (c == Value.type "enumerate") <;> (wp_walk using wpAny_pyIter_list hL, wpAny_loadPart' hl) <;> exact ⟨_, rfl, h⟩
 ·wp_walk using wpAny_pyIter_list hL, wpAny_loadPart' hl
  exact ⟨_, rfl, h⟩
end
section
variable {prog : Program} {w : World} {A : Around} {E : Value -> Shared -> Prop} {s : Shared}
theorem oi_kw {T newId : String} {self : Value} {rest : List Value} {kw : List (Str × Value)} (hl : typeLookup (.type T) "__init__" = pure (some (.builtin "object.__init__")))
  (hm : Bind.madeBy (.type T) = pure (some newId)) (hne : (some newId != some "object.__new__") = true) (hk : kw ≠ []) :
  Meets (Builtin.«object.__init__» ⟨self :: rest, kw⟩) (fun _ R s => s.TypeIs self T /\ R (.ok (.ret .none)) s) := by
 refine Meets.of_wp fun prog w A R s ⟨hT, hq⟩ => ?_
 cases kw with
 | nil => exact absurd rfl hk
 | cons a kw =>
  cases rest with
  | nil =>
   repeat (any_goals (first | assumption | wp_step))
   exact ⟨_, rfl, hq⟩
  | cons b rest =>
   repeat (any_goals (first | assumption | wp_step))
   exact ⟨_, rfl, hq⟩
theorem callTypeK {T newId : String} {Bn : Builtin} {args : List Value} {kw : List (Str × Value)} {S : PySem.Spec} {Q : Value -> Shared -> Prop} (ft : TypeCalled T newId "object.__init__") (hk : kw ≠ [])
  (hne : (some newId != some "object.__new__") = true) (hct : checkTypeCall T ⟨args, kw⟩ = pure ()) (hcn : checkBuiltinCall newId ⟨.type T :: args, kw⟩ = pure ())
  (hok : ∀ obj, argsOk "object.__init__" ⟨obj :: args, kw⟩) (entryN : entryFor table newId = some Bn) (g : Meets (Bn ⟨.type T :: args, kw⟩) S)
  (h : S A.in1 (wants (fun obj s₁ => s₁.TypeIs obj T /\ Q obj s₁) E) s) : wpAny (model prog w) A (call (.type T) args kw) Q E s := by
 obtain ⟨c, tl, hmro⟩ := ft.mro
 have hmade := ft.made
 have hsub := ft.sub
 refine wpAny_call (codeAny_of_tree ?_)
 show wpAny _ _ (callAny (.type T) ⟨args, kw⟩) _ _ _
 refine wpAny_pure ⟨Code.quiet_builtin _ (by decide +kernel), codeAny_builtin F.entry_type_call ?_⟩
 rw [Around.under_plain (weight_type_call_type T args kw) (units_type_call_type T args kw)]
 have h1 := ft.notType
 have h2 := ft.canCreate
 repeat (any_goals (first | assumption | wp_step))
 refine codeAny_mono (codeAny_call_builtin ft.plain entryN (wpAny_of_eq hcn (g prog w A.in1 _ s h))) fun r s1 hr => ?_
 cases r with
 | error e => exact hr
 | ok fl =>
  cases fl with
  | ret obj =>
   obtain ⟨hT, hq⟩ := hr
   have hli := ft.init.lookup
   have hbi := ft.init.bind obj
   repeat (any_goals (first | assumption | wp_step))
   refine codeAny_mono (codeAny_call_builtin ft.init.plain F.entry_object_init (ft.init.check _ _ _ _ _ _ _ _ hT (hok obj) (oi_kw hli hmade hne hk prog w A.in1 (wants (fun r s2 => r = .none /\ Q obj s2) E) s1 ⟨hT, rfl, hq⟩))) fun r2 s2 hr2 => ?_
   cases r2 with
   | error e => exact hr2
   | ok fl2 =>
    cases fl2 with
    | ret r =>
     obtain ⟨rfl, hq⟩ := hr2
     repeat (any_goals (first | assumption | wp_step))
    | _ => exact hr2.elim
  | _ => exact hr.elim
end
end L2
namespace L2
open PySem PySem.Spec PyProof.Rows
section
variable {Mo : Model} {A : Around} {E : Value -> Shared -> Prop} {s : Shared} {env : Env}
theorem callWith_typeK {pos : Pos} {T : String} {e : Expr} {rest : List Expr} {kws : List Keyword} {Q : Value -> Shared -> Prop}
  (h : wpAny Mo A (spliced (backTo pos (starEach (e :: rest) env))) (fun vs s1 => wpAny Mo A (evalAll ((backToKw pos (keywordEach kws env)).map (·.2))) (fun kvs s2 => wpAny Mo A (call (.type T) vs (((backToKw pos (keywordEach kws env)).filterMap (·.1)).zip kvs)) Q E s2) E s1) E s)
  (he : backTo pos (starEach (e :: rest) env) = (false, eval e env) :: backTo pos (starEach rest env)) (hp : (backTo pos (starEach (e :: rest) env)).any (·.1) = false)
  (ha : (backToKw pos (keywordEach kws env)).all (·.1.isSome) = true) (hk : (backToKw pos (keywordEach kws env)).any (·.1.isNone) = false) :
  wpAny Mo A (callWith pos (.type T) [] (backTo pos (starEach (e :: rest) env)) (backToKw pos (keywordEach kws env))) Q E s := by
 unfold callWith
 rw [he] at h hp ⊢
 refine wpAny_bind (wpAny_holding (wpAny_mono (evalArgs_kwB (Q := fun a s1 => wpAny Mo A (call (.type T) a.pos a.kw) Q E s1) ha h) (fun a s1 h1 => wpAny_bind (wpAny_standAt ?_)) fun _ _ z => z))
 rw [hp, hk]
 refine wpAny_bind (wpAny_pure ?_)
 exact wpAny_bind (wpAny_mono h1 (fun r s2 hr => wpAny_bind (wpAny_holding (wpAny_point (wpAny_pure hr)))) fun _ _ z => z)
end
section
variable {prog : Program} {w : World} {A : Around} {E : Value -> Shared -> Prop} {s : Shared}
theorem tc_enumK (a b : Value) : checkTypeCall "enumerate" ⟨[a], [(Str.ofString "start", b)]⟩ = pure () := by kernel_rfl
theorem nc_enumK (a b : Value) : checkBuiltinCall "enumerate.__new__" ⟨[.type "enumerate", a], [(Str.ofString "start", b)]⟩ = pure () := by kernel_rfl
theorem ic_enumK (o a b : Value) : argsOk "object.__init__" ⟨[o, a], [(Str.ofString "start", b)]⟩ := by
 unfold argsOk
 kernel_rfl
theorem call_enumK {l : Addr} {its : Array Value} {t : Tok} {Q : Value -> Shared -> Prop} (hL : s.heap.IsList l its)
  (h : ∀ h', IsEnum h' (s.heap.objs.size + 1) s.heap.objs.size 1 .none -> h'.IsListIter s.heap.objs.size l 0 -> h'.objs.size = s.heap.objs.size + 2 ->
   (∀ b o, s.heap.get? b = some o -> h'.get? b = some o) -> Q (.ref (s.heap.objs.size + 1)) { s with heap := h' }) :
  wpAny (model prog w) A (call (.type "enumerate") [.ref l] [(Str.ofString "start", .int 1 t)]) Q E s := by
 obtain ⟨⟨c, dc, dt, sl⟩, hl, hc, n, hd⟩ := hL
 cases (show c = .type "list" from hc)
 cases (show dt = .seq its n from hd)
 refine callTypeK F.called_enumerate (by simp) (by decide) (tc_enumK _ _) (nc_enumK _ _) (fun obj => ic_enumK obj _ _) F.entry_enumerate_new (enumK_new l its n dc sl t) ⟨hl, ?_⟩
 have hz : (s.heap.push (itOf l)).objs.size = s.heap.objs.size + 1 := Heap.size_push ..
 show _ /\ _
 rw [hz]
 have he : ((s.heap.push (itOf l)).push (enOf s.heap.objs.size)).get? (s.heap.objs.size + 1) = some (enOf s.heap.objs.size) := by
  rw [<- hz]
  exact Heap.get?_push_size _ rfl
 exact ⟨⟨_, he, rfl⟩, h _ he ⟨_, Heap.get?_push_of_some _ (Heap.get?_push_size _ rfl), rfl, rfl⟩ (by rw [Heap.size_push, hz]) fun b o z => Heap.get?_push_of_some _ (Heap.get?_push_of_some _ z)⟩
end
theorem drawsLate {prog : Program} {w : World} {A : Around} {it : Addr} {fp : List Addr} {n : Nat} {P : Nat -> Value -> Prop} {Sq : Nat -> Heap -> Prop} (D : Draws prog w A it fp n P Sq) :
  Draws prog w A it fp (1 + n) (fun j v => ∃ i, j = 1 + i /\ P i v) (fun j h => ∃ i, j = 1 + i /\ Sq i h) where
 live := fun _ h ⟨i, _, z⟩ => D.live i h z
 frame := fun _ h h' ⟨i, e, z⟩ k => ⟨i, e, D.frame i h h' z k⟩
 item := fun j s Q E hj ⟨i, e, z⟩ k => D.item i s Q E (by omega) z fun x h' tk p q r => k x h' tk ⟨i, e, p⟩ ⟨i + 1, by omega, q⟩ r
 done := fun s Q E ⟨i, e, z⟩ k => D.done s Q E ((show i = n by omega) ▸ z) k
theorem drawsEnd {prog : Program} {w : World} {A : Around} {it l : Addr} (hh : A.handled = none) (hne : l ≠ it) {its : Array Value} {i : Nat} :
  Draws prog w A.in1 it [it, l] 0 (fun _ _ => False) (fun _ h => h.IsListIter it l i /\ h.IsList l its /\ its[i]? = none) where
 live := fun _ _ st => let ⟨o, ho, _⟩ := st.1; ⟨o, ho⟩
 frame := fun _ _ _ st hk => ⟨st.1.at fun o e => hk it (by simp) o e, st.2.1.at fun o e => hk l (by simp) o e, st.2.2⟩
 item := fun i s Q E hi => by omega
 done := fun s Q E st k => wpAny_nextOf_list_end (A := A.in1) hh st.1 st.2.1 st.2.2 k
def Itk (K : PySem.W.Frag) (a : Addr) : It :=
  ⟨fun i H => ∃ xs x, SqL K H a xs /\ xs[i]? = some x,
   fun i H v H' => ∃ T, v = .ref T /\ H T = none /\ ∀ xs x, SqL K H a xs -> xs[i]? = some x -> H' = upd H T (.tup [.int ((1 + i : Nat) : Int), x]),
   fun i H => ∃ xs, SqL K H a xs /\ xs.length <= i⟩
theorem turn_enumK {P : Program} {w : World} {K : PySem.W.Frag} {elts : List Expr} {x1 : Nat} {tpos : Pos} (a e it : Addr) (n1 : e ≠ it) :
  Turn P w K (.Tuple elts x1 tpos) (Itk K a) [e, it] e (fun i h => (∃ old, IsEnum h e it ((1 + i : Nat) : Int) old) /\ h.IsListIter it a i) where
 mem := by simp
 obj := fun i h st c hc => by
  obtain ⟨⟨old, he⟩, ⟨o1, e1, c1, d1⟩⟩ := st
  simp only [List.mem_cons, List.not_mem_nil, or_false] at hc
  rcases hc with rfl | rfl
  ·exact ⟨_, he, fun v z => by simp at z⟩
  ·exact ⟨_, e1, fun v z => by rw [d1] at z; cases z⟩
 keep := fun i h h' st k => by
  obtain ⟨⟨old, he⟩, h1⟩ := st
  exact ⟨⟨old, k e (by simp) _ he⟩, h1.at fun o e => k it (by simp) o e⟩
 item := by
  intro X hP hw hK hc i pins s σ H E I hf st hg
  subst hP hw hK
  obtain ⟨⟨old, he⟩, h1⟩ := st
  obtain ⟨xs, x, hq, hx⟩ := hg
  obtain ⟨its, rv, p, _⟩ := I.list hq
  obtain ⟨ux, hux, rx⟩ := rv.get hx
  obtain ⟨o1, e1, c1, d1⟩ := id h1
  have fr : H s.heap.objs.size = none := I.hok.fresh (Nat.le_refl _)
  have ne : ∀ {c : Addr} {o : Obj}, s.heap.get? c = some o -> s.heap.objs.size ≠ c := fun e => Nat.ne_of_gt (Heap.lt_size e)
  obtain ⟨oa, ea, ca, da⟩ := id p.isList
  have ne1 : a ≠ e := cls_ne ea he (by rw [ca]; exact ty_ne (by decide))
  have ne2 : a ≠ it := cls_ne ea e1 (by rw [ca, c1]; exact ty_ne (by decide))
  have hlt : i < its.toArray.size := by
   obtain ⟨z, _⟩ := List.getElem?_eq_some_iff.mp hux
   simpa using z
  refine wpAny_pyNext_enum_itemD (i := 1 + i) (drawsLate (Draws.list (A := X.A.in1) (I.ok.hd hc) it a ne2 its.toArray)) he ⟨i, rfl, h1, p.isList⟩ (by omega) n1 (by simp; exact ⟨n1, Ne.symm ne1⟩) fun ux' h' tk hP e' hS T' sz k => ?_
  obtain ⟨i', ei, hP⟩ := hP
  have ei : i' = i := by omega
  subst ei
  have eu : ux' = ux := by
   have hP : its.toArray[i']? = some ux' := hP
   rw [List.getElem?_toArray, hux] at hP
   exact (Option.some.inj hP).symm
  subst eu
  obtain ⟨i2, ei2, h1'⟩ := hS
  have ei2 : i2 = i' + 1 := by omega
  subst ei2
  have h1' := h1'.1
  refine ⟨_, rfl, wpAny_letOwnedTupleGo_enum e' fun h2 he2 sb => ?_⟩
  have k2 : ∀ c o, c ∉ [e, it] -> s.heap.get? c = some o -> h2.get? c = some o := fun c o hc q => by
   simp only [List.mem_cons, List.not_mem_nil, or_false, not_or] at hc
   exact sb.extBut _ _ hc.1 (k c o hc.1 hc.2 q)
  have T2 : h2.get? s.heap.objs.size = some { cls := .type "tuple", data := .seq #[.int ((1 + i' : Nat) : Int) tk, ux'] } := sb.extBut _ _ (ne he) T'
  have I1 : Inv X pins σ (upd H s.heap.objs.size (.tup [.int ((1 + i' : Nat) : Int), x])) { s with heap := h2, toks := tk + 1 } := by
   refine I.turnNew hf k2 (Nat.le_refl _) ⟨by show 2 <= _; rw [sizeLine_eq]; omega, [.int ((1 + i' : Nat) : Int) tk, ux'], .cons ⟨_, rfl⟩ (.cons rx .nil), ?_⟩
   exact ⟨_, T2, rfl, 0, rfl⟩
  refine ⟨.ref s.heap.objs.size, _, I1, rfl, ⟨_, rfl, fr, fun xs' x' q1 q3 => ?_⟩, ⟨⟨ux', he2⟩, h1'.extBut sb.extBut n1.symm⟩, fun c hc => ?_⟩
  ·rw [I.list_inj q1 hq] at q3
   rw [hx] at q3
   cases q3
   rfl
  ·have hn : c ≠ s.heap.objs.size := by
    simp only [List.mem_cons, List.not_mem_nil, or_false] at hc
    rcases hc with rfl | rfl
    ·exact (ne he).symm
    ·exact (ne e1).symm
   rw [upd_ne hn]
   exact (hf c hc).1
 done := by
  intro X hP hw hK hc i pins s σ H E I hf st hg
  subst hP hw hK
  obtain ⟨⟨old, he⟩, h1⟩ := st
  obtain ⟨xs, hq, hx⟩ := hg
  obtain ⟨its, rv, p, _⟩ := I.list hq
  have hl := rv.length
  obtain ⟨oa, ea, ca, da⟩ := id p.isList
  obtain ⟨o1, e1, c1, d1⟩ := id h1
  have ne2 : a ≠ it := cls_ne ea e1 (by rw [ca, c1]; exact ty_ne (by decide))
  refine wpAny_pyNext_enum_endD (i := ((1 + i : Nat) : Int)) (drawsEnd (I.ok.hd hc) ne2) he ⟨h1, p.isList, by simp; omega⟩ fun h' k => ⟨rfl, ?_⟩
  refine I.turnAll (t' := s.toks) hf fun c o hc e => ?_
  simp only [List.mem_cons, List.not_mem_nil, or_false, not_or] at hc
  exact k c o hc.2 e
 self := fun _ _ _ _ _ st h => by
  obtain ⟨⟨old, he⟩, _⟩ := st
  exact wpAny_pyIter_enum he h
section
variable {X : Cx} {elts : List Expr} {x1 : Nat} {tpos : Pos}
def iEnumK (K : PySem.W.Frag) (ta : TA) : TI := fun σ H R => ta σ H fun vs H1 => ∃ a, vs = [.ref a] /\ (∃ xs, SqL K H1 a xs) /\ R (Itk K a) H1
theorem pi_enumK {a : Expr} {ta : TA} {p pos kp kpos : Pos} {j : Nat} (hg : Gl X "enumerate") (hm : X.mg "enumerate" = none) (ha : PA X [a] ta) (hs : starEach [a] X.env = (false, eval a X.env) :: starEach [] X.env := by rfl) :
  PI X (.Tuple elts x1 tpos) (.Call (.Name "enumerate" p) [a] [⟨some (Str.ofString "start"), .Constant (.int 1) j kp, kpos⟩] pos) (iEnumK X.K ta) := by
 intro pins s σ H R I h
 refine wpAny_Call_Name_kw (ld_blt I hg hm boot_enumerate ?_ (by decide) (by decide))
 refine callWith_typeK ?_ (by rw [hs]; rfl) (by rw [hs]; rfl) rfl rfl
 refine thn (ha pos pins s σ H _ I h) fun us s1 ⟨vs, H1, I1, r1, q1⟩ => ?_
 refine PyProof.Rows.kws_cons (thn (pe_int (i := 1) (j := j) (pos := kp) pins s1 σ H1 (fun z H2 => z = .int 1 /\ H2 = H1) I1 ⟨rfl, rfl⟩) fun u s2 ⟨z, H2, I2, rz, ez, eh⟩ => PyProof.Rows.kws_nil ?_)
 subst ez eh
 obtain ⟨t, rfl⟩ := rz
 obtain ⟨l1, e, ⟨xs, hx⟩, q⟩ := q1
 subst e
 obtain ⟨u1, rfl, rx⟩ := vals1 r1
 cases rx
 obtain ⟨its, rv, pl, _⟩ := I2.list hx
 show wpAny _ _ (call (.type "enumerate") [.ref l1] [(Str.ofString "start", .int 1 t)]) _ _ _
 refine call_enumK pl.isList fun h' he h1 sz k => wpAny_pyIter_enum he ?_
 refine ⟨s2.heap.objs.size + 1, [s2.heap.objs.size + 1, s2.heap.objs.size], _, _, H2, rfl, I2.kept (t' := s2.toks) k,
  turn_enumK l1 (s2.heap.objs.size + 1) s2.heap.objs.size (by show (_ : Nat) ≠ _; omega), ⟨⟨_, he⟩, h1⟩, fun c hc => ?_, q⟩
 have hc' : s2.heap.objs.size <= c := by
  simp only [List.mem_cons, List.not_mem_nil, or_false] at hc
  rcases hc with rfl | rfl <;> first | exact Nat.le_add_right _ _ | exact Nat.le_refl _
 exact I2.fpOk hc' (I2.hok.fresh hc')
end
end L2
namespace L2
open PySem PySem.Spec PyProof.Rows
section
variable {X : Cx}
theorem mt_splitN : MtR X "str.split" (fun x xs H Q => ∃ z y n, x = .str z /\ xs = [.str y, .int n] /\ (decide (n < -(2 ^ 63 : Int)) || decide (n ≥ 2 ^ 63)) = false /\ (y.length == 0) = false /\ z.length <= sizeLine /\ (Txt.splitMax z y n).length <= sizeLine /\
  ∀ p, H p = none -> Q (.ref p) (upd H p (.lst ((Txt.splitMax z y n).map V.str)))) := by
 intro pins s σ H x xs v us Q I rx rs h
 obtain ⟨z, y, n, rfl, rfl, hn, hy, hz, hl, q⟩ := h
 obtain ⟨t, rfl⟩ := rx
 obtain ⟨u, u', rfl, ⟨t2, rfl⟩, ⟨t3, rfl⟩⟩ : ∃ u u', us = [u, u'] /\ (∃ t2, u = .str y t2) /\ (∃ t3, u' = .int n t3) := by
  cases rs with
  | cons r rs =>
   cases rs with
   | cons r' rs =>
    cases rs
    exact ⟨_, _, rfl, r, r'⟩
 have fin : ∀ (l : List (Str × Tok)) (k : Nat), l.map (·.1) = Txt.splitMax z y n -> EP X pins σ Q (.ref s.heap.objs.size) { s with heap := s.heap.push { cls := .type "list", data := .seq (strValues l).toArray }, toks := k } := fun l k e => by
  rw [<- e] at q hl
  refine ⟨.ref s.heap.objs.size, _, I.laid (o := .lst ((l.map (·.1)).map V.str)) (t' := k) (fun b o e => Heap.get?_push_of_some _ e) (Nat.le_refl _) ⟨by rw [List.length_map]; exact hl, _, 0, vals_of_strs l, Heap.get?_push_size _ rfl⟩, rfl, q _ I.fresh⟩
 cases h1 : (decide (z.length < y.length) || decide (Builtin.Str.strKind z < Builtin.Str.strKind y))
 ·cases hf : (Builtin.Str.occurrences z y 0 z.length (limitOf z n)).isEmpty
  ·have e1 : Txt.splitMax z y n = Builtin.Str.partsBetween z (Builtin.Str.occurrences z y 0 z.length (limitOf z n)) y.length := (if_neg (ne_true_of_eq_false h1)).trans (if_neg (ne_true_of_eq_false hf))
   refine call_meets PySem.F.slot_str_split (typeIs_str _ _ _) PySem.F.entry_str_split (PySem.F.args_str_split_3 _ _ _) (meets_str_split_sep_max z y n t t2 t3 hn h1 hy hf hz (by rw [<- e1]; exact hl)) ?_
   rw [strsFrom_eq]
   exact fin (numbered s.toks _) _ ((numbered_texts _ _).trans e1.symm)
  ·exact call_meets PySem.F.slot_str_split (typeIs_str _ _ _) PySem.F.entry_str_split (PySem.F.args_str_split_3 _ _ _) (meets_str_split_max_not_found z y n t t2 t3 hn h1 hy hf)
    (fin [(z, t)] _ ((if_neg (ne_true_of_eq_false h1)).trans (if_pos hf)).symm)
 ·exact call_meets PySem.F.slot_str_split (typeIs_str _ _ _) PySem.F.entry_str_split (PySem.F.args_str_split_3 _ _ _) (meets_str_split_max_cannot_occur z y n t t2 t3 hn h1)
   (fin [(z, t)] _ (if_pos h1).symm)
end
end L2
namespace DL
open PySem PySem.Spec PyProof.Rows L2
section
variable {X : Cx} {G : XD -> Hp -> Prop} {a e : Expr} {f : DS -> M D} {fa : DS -> M (List D)} {p pos kp kpos tpos : Pos} {elts : List Expr} {x1 : Nat} {K : PySem.W.Frag} {O : List Addr} {H1 : Hp}
theorem yl_enumK {a : Addr} {xs : List V} {ds : List D} (hk : ∀ (O2 : List Addr) (H2 : Hp), To O O2 H1 H2 -> SqL K H2 a xs) (rs : Reps K O H1 xs ds) : Yl K (Itk K a) O H1 (enumD 1 ds) := by
 refine ⟨fun O2 H2 t i d hd => ?_, fun O2 H2 t => ⟨xs, hk O2 H2 t, ?_⟩⟩
 ·obtain ⟨x, hx, rfl⟩ := enumD_get hd
  obtain ⟨v, hv, r⟩ := rs.get hx
  refine ⟨⟨xs, v, hk O2 H2 t, hv⟩, fun z H3 q => ?_⟩
  obtain ⟨T, rfl, hT, q⟩ := q
  have e := q xs v (hk O2 H2 t) hv
  subst e
  exact ⟨a1h hT, rep_newT hT (.cons (.int _) (.cons (r.to t) .nil))⟩
 ·rw [enumD_len, rs.length]
  exact Nat.le_refl _
def dEnumK (fa : DS -> M (List D)) : DS -> M (List D) := fun δ => (fa δ).thn fun ds => match ds with
 | [.list xs] => M.ret (enumD 1 xs)
 | _ => none
theorem pdi_enumK {j : Nat} (hgl : Gl X "enumerate") (hm : X.mg "enumerate" = none) (ha : PDA X G [a] fa) (hs1 : starEach [a] X.env = (false, eval a X.env) :: starEach [] X.env := by rfl) :
  PDI X G (.Tuple elts x1 tpos) (.Call (.Name "enumerate" p) [a] [⟨some (Str.ofString "start"), .Constant (.int 1) j kp, kpos⟩] pos) (dEnumK fa) := by
 obtain ⟨_, ta, pa, ha⟩ := ha
 refine ⟨_, pi_enumK hgl hm pa hs1, fun δ O σ H R E k => ?_⟩
 refine ha δ O σ H _ E (a0j (a0o k) fun ds z vs H1 s1 rs => ?_)
 match ds, z with
 | [.list xs], z =>
  obtain ⟨v, rfl, r⟩ := reps1 rs
  obtain ⟨a1, us, rfl, hq, hk, r1⟩ := r.lstTo
  exact ⟨a1, rfl, ⟨us, hq⟩, z _ H1 s1 (yl_enumK hk r1)⟩
theorem ev_enumK {δ : DS} {xs : List D} (h1 : fa δ = M.ret [.list xs]) : dEnumK fa δ = M.ret (enumD 1 xs) := by unfold dEnumK; rw [h1]; rfl
def sSplitN (z : Str) : List D -> Option D
 | [.str y, .int n] => if ((y.length == 0) == false && small z.length && small (Txt.splitMax z y n).length && !(decide (n < -(2 ^ 63 : Int)) || decide (n ≥ 2 ^ 63))) = true then some (.list ((Txt.splitMax z y n).map PyData.str)) else none
 | _ => none
theorem dmt_splitN : DMt X "str.split" sSplitN := by
 refine ⟨_, mt_splitN, fun O H z xs d vs Q oo rs e k => ?_⟩
 unfold sSplitN at e
 split at e
 ·rename_i y n
  split at e
  ·rename_i hp
   cases e
   obtain ⟨hp, h4⟩ := Bool.and_eq_true_iff.mp hp
   obtain ⟨hp, h3⟩ := Bool.and_eq_true_iff.mp hp
   obtain ⟨h1, h2⟩ := Bool.and_eq_true_iff.mp hp
   obtain ⟨v, v', rfl, r, r'⟩ := reps2 rs
   exact ⟨z, y, n, rfl, by rw [r.str_inv, r'.int_inv], by simpa using h4, by simpa using h1, a1e h2, a1e h3, fun p hp => k _ _ (a1h hp) (rep_newL oo hp (reps_of_strs _))⟩
  ·cases e
 ·cases e
def truD : D -> Option Bool
 | .bool b => some b
 | .str z => if small z.length then some ((z.length : Int) != 0) else none
 | .list xs => some (!xs.isEmpty)
 | _ => none
def dTr (f : DS -> M D) : DS -> M Bool := fun δ => (f δ).thn fun d => M.lift (truD d)
theorem pdt_tr (he : PD X G e f) (h1 : ∀ whole, isTrue e X.env whole = (do let v <- whole; standAt e.pos; holding [v] (truthy v)) := by intro _; rfl) : PDT X G e (dTr f) := by
 obtain ⟨t, p, he⟩ := he
 refine ⟨_, pt_truth p h1, fun δ O σ H Q E k => ?_⟩
 refine he δ O σ H _ E (a0j (a0o k) fun d z v H' s r => ?_)
 obtain ⟨b, hb, z⟩ := ok_lift z
 refine ⟨b, ?_, z H' s⟩
 unfold truD at hb
 split at hb
 ·cases hb
  rw [r.bool_inv]
  rfl
 ·rename_i y
  split at hb
  ·rename_i hs
   cases hb
   rw [r.str_inv]
   exact ⟨a1e hs, rfl⟩
  ·cases hb
 ·rename_i xs
  cases hb
  obtain ⟨l, us, rfl, h2, rx⟩ := r.lst_inv
  refine .inl ⟨us, h2, ?_⟩
  have := rx.length
  cases us <;> cases xs <;> first | rfl | (simp at this)
 ·cases hb
end
end DL
namespace L2
open PySem PySem.Spec PyProof.Rows
section
variable {X : Cx}
end
end L2
namespace DL
open PySem PySem.Spec PyProof.Rows L2
section
variable {K : PySem.W.Frag} {Hr H0 H H' : Hp} {R0 O : List Addr} {P0 : Addr -> Prop} {σ : St} {δ : DS}
end
section
variable {X : Cx} {G : XD -> Hp -> Prop} {a b e o : Expr} {es : List Expr} {f : DS -> M D} {fa : DS -> M (List D)} {pos apos p p1 p2 : Pos}
structure DefMX (P : Program) (w : World) (K : PySem.W.Frag) (mg : Str -> Option Value) (base : Heap) (k : Nat) (nm m : Str) (n : Nat) (F : List D -> M D) : Prop where
 ex : ∃ (C f : Addr) (fd : FuncData) (ps : List Str), PySem.W.nsIn K mainGlobals nm = some (some (.ref C)) /\ Cls K C /\ Meth K C m f /\ FnOk P w K mg base (CXE P w) k f fd ps (spX K mg n F) /\ Binds K fd ps []
end
section
variable {P : Program} {w : World} {K : PySem.W.Frag} {mg : Str -> Option Value} {base : Heap}
theorem fn_ofX {x qual : Str} {st : Stmt} {f : Addr} {fd : FuncData} {N ps : List Str} {k : Nat} {g : DS -> M Out} (F0 : Fun K x qual st f fd) (S : FnScope N ps (defScope st))
  (hbody : ∀ (cdv : Value) (A : Around) (outer : List Env) (s : Shared) (H : Hp) (E : XK), Room k (A.deeper (envOfC qual (defScope st) s.heap.objs.size f cdv)) ->
   PDSs (cxOf (CXE P w) P w K mg base N qual (defScope st) f cdv A outer s H E) (GX mg E) (defBody st) g) : FnOk P w K mg base (CXE P w) (k + 1) f fd ps (spX K mg ps.length (run N.length g)) := by
 obtain ⟨oc, od, kV, doc, pm, an, cdv, ct, osl, rfl, lk, hcd⟩ := F0.ex
 refine fn_of lk hcd S (fun vs H Q E h => ?_) fun A outer s H vs Q E hr h => ?_
 ·obtain ⟨O, ds, hl, _⟩ := h
  exact hl
 ·obtain ⟨O, ds, hl, oo, r, q⟩ := h
  obtain ⟨t, p, hB⟩ := hbody cdv A outer s H E hr
  refine ⟨t, p, hB O (fun _ => False) H (startD N.length ds) O (L2.start N vs) H _ ⟨ev_start N oo r, fun l hl => .inl hl, fun b o _ h => h, fun l hl => .inl hl, fun i es l h1 ho h2 => ?_, fun l hl => hl⟩ (a0j (a0o q) fun o z => ?_)⟩
  ·exact (start_no h1 ho).elim
  ·cases o with
   | rt d => exact fun v H' kp r => z v H' (fun b o h => kp b o (fun w => w) h) r
   | nx δ => exact fun O' σ' H' E' => z .non H' (fun b o h => E'.keep b o (fun w => w) h) .non
   | bk δ => exact z.elim
   | ct δ => exact z.elim
end
section
variable {X : Cx} {G : XD -> Hp -> Prop} {e : Expr} {f : DS -> M D} {pos p p2 : Pos}
end
end DL
namespace XF
open PySem PySem.Spec PySem.W PySem.Calls PyProof.Rows L2
open PySem.Builtin.ObjectAttr PySem.Builtin
def strip : List Value -> List Value
 | .ref _ :: r => strip r
 | l => l
theorem refuse_strip (self : Value) (what : Str) : ∀ l : List Value, refuseLoop self what l = refuseLoop self what (strip l)
 | [] => rfl
 | .ref c :: r => by
  rw [refuseLoop_ref, refuse_strip self what r]
  rfl
 | .type _ :: _ => rfl
 | .none :: _ => rfl
 | .bool _ :: _ => rfl
 | .int _ _ :: _ => rfl
 | .str _ _ :: _ => rfl
 | .builtin _ :: _ => rfl
 | .bytes _ _ :: _ => rfl
 | .float _ _ :: _ => rfl
 | .ellipsis :: _ => rfl
 | .notImplemented :: _ => rfl
structure XCls (K : Frag) (C : Addr) : Prop where
 ga : findIn K (.ref C) "__getattribute__" = some (some (.builtin "BaseException.__getattribute__"))
 gt : findIn K (.ref C) "__getattr__" = some none
 sa : findIn K (.ref C) "__setattr__" = some (some (.builtin "object.__setattr__"))
 hb : mroIn K C (.type "BaseException") = some true
 ho : mroIn K C (.type "object") = some true
 hd : hasDictIn K C = true
 st : ((clsIn K C).any fun cd => strip cd.mro == [.type "ValueError", .type "Exception", .type "BaseException", .type "object"]) = true
section
variable {prog : Program} {w : World} {A : Around} {E : Value -> Shared -> Prop} {K : Frag} {x C : Addr} {ox : Obj} {h : Heap} {g : Array GenState} {d : Drawn} {t : Nat} {os : OsState} {name : Str} {v : Value}
theorem get_field {od : Option Obj} {expr : Bool} {Q : Value -> Shared -> Prop} (c : XCls K C) (X : K.In h) (I : InstAt h x ox C od) (hf : findObj K C od name = some (.value v)) (hv : handedIn v = true)
  (hq : Q v ⟨h, g, d, t + 1, os⟩) : wpAny (model prog w) A (getAttr (.ref x) name expr) Q E ⟨h, g, d, t, os⟩ := by
 have p : ExcAt x C h := ⟨ox, I.at_, I.cls⟩
 have L0 := exc_type (M := model prog w) p
 have L1 := looks_findIn (M := model prog w) X c.ga
 have L2 := looks_findIn (M := model prog w) X c.gt
 have L3 := looks_find (M := model prog w) X I hf
 have f3 : bindSpecial (.builtin "BaseException.__getattribute__") (.ref x) = pure (.builtin "BaseException.__getattribute__", [.ref x]) := F.excAttr_ValueError.ga.bind (.ref x)
 have hx0 : (expr && onTheHeap (Value.builtin "BaseException.__getattribute__")) = false := by cases expr <;> rfl
 have hx2 : (Value.builtin "BaseException.__getattribute__" == Value.builtin "object.__getattribute__") = false := by decide +kernel
 have hx1 : (onTheHeap (Value.ref C) && Value.builtin "BaseException.__getattribute__" == Value.builtin "object.__getattribute__") = false := by rw [hx2]; rfl
 unfold getAttr getAttrBy
 repeat (any_goals (first | with_reducible refine Looks.at (by assumption) ?_ | assumption | wp_step))
 refine codeAny_call_builtin F.excAttr_ValueError.ga.plain F.entry_bexc_ga (exc_ga_check X p c.hb ?_)
 unfold Builtin.«object.__getattribute__»
 repeat (any_goals (first | with_reducible refine Looks.at (by assumption) ?_ | assumption | wp_step))
 show wpAny _ _ (handedOut v) _ _ _
 rw [handedOut_of hv]
 exact wpAny_pure hq

theorem set_field {dt : Data} {sl : Array (Option Value)} {Q : Unit -> Shared -> Prop} (c : XCls K C) (X : K.In h) (hx : h.get? x = some ⟨.ref C, none, dt, sl⟩) (hdt : ∀ cd, dt ≠ .cls cd) (hfr : (⟨.ref C, some h.objs.size, dt, sl⟩ : Obj).isFreed = false)
  (hn : findIn K (.ref C) name = some none)
  (hq : ∀ h', h'.get? x = some ⟨.ref C, some h.objs.size, dt, sl⟩ -> h'.Ns1 h.objs.size (fun y => if y = name then some v else none) -> (∀ b o, b ≠ x -> h.get? b = some o -> h'.get? b = some o) -> ∀ t', Q () ⟨h', g, d, t', os⟩) :
  wpAny (model prog w) A (setAttr (.ref x) name v) Q E ⟨h, g, d, t, os⟩ := by
 have I : InstAt h x ⟨.ref C, none, dt, sl⟩ C none := ⟨hx, rfl, by unfold notCls; cases dt <;> first | rfl | exact absurd rfl (hdt _), trivial⟩
 refine set_plain (s := ⟨h, g, d, t, os⟩) X I c.sa ?_
 have SF := PySem.F.store_object
 have SV := PySem.F.store_ValueError
 have sub : Looks (model prog w) h (isInstance (.ref x) (.type "object")) true := I.type.andThen (looks_mroIn X c.ho)
 refine codeAny_call_builtin SF.slot.plain SF.entry (@check_slot (model prog w) _ _ ⟨h, g, d, t + 1, os⟩ "object.__setattr__" "object" "__setattr__" (.ref x) [.str name t, v] [] _ SF.kind SF.split sub (SF.args (.ref x) (.str name t) v) ?_)
 obtain ⟨cd, hc, hs⟩ := any_some c.st
 have hm : Looks (model prog w) h (mroOf (.ref C)) cd.mro := (looks_clsIn X hc).andThen .now
 have L3 : Looks (model prog w) h (storeTaker? none) none := .now
 rw [osa_eq, refuse_eq]
 refine wpAny_bind (wpAny_bind (I.type.here (s := ⟨h, g, d, t + 1, os⟩) (wpAny_bind (hm.here (s := ⟨h, g, d, t + 1, os⟩) ?_))))
 rw [refuse_strip, beq_iff_eq.mp hs, SV.passes]
 refine wpAny_pure (wpAny_bind (I.type.here (s := ⟨h, g, d, t + 1, os⟩) (wpAny_bind ((looks_findIn X hn).here (s := ⟨h, g, d, t + 1, os⟩) (wpAny_bind (L3.here (s := ⟨h, g, d, t + 1, os⟩) ?_))))))
 obtain ⟨cd', hc', hd'⟩ := any_some c.hd
 have hx1 : (h.push { cls := .type "dict", data := .dict #[] }).get? x = some ⟨.ref C, none, dt, sl⟩ := Heap.get?_push_of_some _ hx
 have hxs : x ≠ h.objs.size := Nat.ne_of_lt (Heap.lt_size hx)
 have hgd : ((h.push { cls := .type "dict", data := .dict #[] }).update x fun o => { cls := o.cls, dict := some h.objs.size, data := o.data, slots := o.slots }).get? h.objs.size = some { cls := .type "dict", data := .dict #[] } :=
  (Heap.get?_update_ne _ _ _ _ hxs.symm).trans (Heap.get?_push_at rfl rfl)
 have hnd : ((h.push { cls := .type "dict", data := .dict #[] }).update x fun o => { cls := o.cls, dict := some h.objs.size, data := o.data, slots := o.slots }).Ns h.objs.size (fun _ => none) :=
  ⟨_, #[], _, hgd, rfl, fun e he => absurd he (by simp), fun _ => rfl⟩
 show wpAny _ _ (storeInOwnDict (.ref x) (.ref C) (.str name t) name v false) _ _ _
 unfold storeInOwnDict
 refine wpAny_bind (wpAny_pure (wpAny_bind (wpAny_bind (wpAny_loadPart (s := ⟨h, g, d, t + 1, os⟩) hx (wpAny_bind ((looks_clsIn X hc').here (s := ⟨h, g, d, t + 1, os⟩) ?_))))))
 rw [hd']
 have fin : wpAny (model prog w) A.in1 (storeInDict h.objs.size (.str name t) name v) (fun fin s' => match fin with | .done f => (match (.ok f : Result) with | .ok (.ret _) => Q () s' | .ok _ => False | .error e => E e s') | .again c' => c'.quiet = true /\ codeAny (model prog w) A c' (fun r s' => match r with | .ok (.ret _) => Q () s' | .ok _ => False | .error e => E e s') s') (fun e s' => E e s')
   ⟨(h.push { cls := .type "dict", data := .dict #[] }).update x fun o => { cls := o.cls, dict := some h.objs.size, data := o.data, slots := o.slots }, g, d, t + 1, os⟩ := by
  unfold storeInDict newKeyGuard
  refine wpAny_bind (wpAny_pure (wpAny_bind (wpAny_nsSet1 (Heap.Ns1.of_empty hnd) fun h' hn' hs' => ?_)))
  obtain ⟨oD, esD, epD, hoD, hdD, hcD⟩ := hn'.count (Within.cons name v Within.nil)
  refine wpAny_bind (wpAny_lookBehind hoD (by rw [hdD]; exact pastItsLine_dict (Nat.le_trans hcD (by rw [List.length_cons, List.length_nil, sizeLine_eq]; omega))) ?_)
  wp_walk
  refine hq h' ?_ hn' (fun b o n q => ?_) _
  ·exact (hs'.2 x hxs).trans (Heap.get?_update_self _ hx1 hfr)
  ·exact (hs'.2 b (Nat.ne_of_lt (Heap.lt_size q))).trans ((Heap.get?_update_ne _ _ _ _ n).trans (Heap.get?_push_of_some _ q))
 have hnc : typeHasDict (.ref C) = true := rfl
 cases dt with
 | cls cd => exact absurd rfl (hdt cd)
 | _ =>
  show wpAny _ _ (if (!true || !typeHasDict (.ref C)) = true then _ else _) _ _ _
  rw [if_neg (by rw [hnc]; decide)]
  exact wpAny_bind (wpAny_alloc' (wpAny_bind (wpAny_update' hx1 (wpAny_pure fin))))
end
def excIn1 (K : Frag) (C : Addr) (bmB : List Value) (newId : String) : Bool := match K.lookup C with
 | some ⟨.type "type", _, .cls cd, sl⟩ => (match cd.mro, sl.toList with
  | .ref C' :: bm, [_, _, _, _, some (.builtin n), _] => C' == C && n == newId && !cd.hasDel && tailIn K bmB bm
  | _, _ => false)
 | _ => false
theorem exc_obj1 {K : Frag} {h : Heap} {C : Addr} {bmB : List Value} {newId : String} (X : K.In h) (q : excIn1 K C bmB newId = true) :
  ∃ bm N nm qn bs hdct sn sub ab col dd k0 k1 k2 k3 k5, h.get? C = some (excClassObj nm qn C N bs bm hdct sn sub ab col dd k0 k1 k2 k3 k5 newId) /\ OwnTail h bmB bm := by
 unfold excIn1 at q
 split at q
 ·rename_i dd cd sl ho
  split at q
  ·rename_i C' bm k0 k1 k2 k3 n k5 hm hs
   simp only [Bool.and_eq_true, beq_iff_eq, Bool.not_eq_true'] at q
   obtain ⟨⟨⟨rfl, rfl⟩, hdel⟩, ht⟩ := q
   obtain ⟨nm, bs, mro, ns, qn, hd, sn, sub, ab, col, del⟩ := cd
   dsimp only at hm hdel
   subst hm hdel
   have hsl : sl = #[k0, k1, k2, k3, some (.builtin n), k5] := by
    cases sl
    simp only at hs
    rw [hs]
   subst hsl
   exact ⟨bm, ns, nm, qn, bs, hd, sn, sub, ab, col, dd, k0, k1, k2, k3, k5, X _ _ ho, tail_of_in X ht⟩
  ·cases q
 ·cases q
section
variable {prog : Program} {w : World} {A : Around} {E : Value -> Shared -> Prop} {K : Frag} {h : Heap} {g : Array GenState} {d : Drawn} {t : Nat} {os : OsState}
variable {nm q : Str} {C N : Addr} {bs bm bmB : List Value} {hdct : Bool} {sn : List Str} {sub : List Value} {ab : Bool} {col : Option Bool} {dd : Option Addr} {k0 k1 k2 k3 k5 : Option Value} {B newId initId : String}
theorem type_call_init (F : ExcBaseFacts B newId initId bmB) (T : OwnTail h bmB bm) (X : K.In h) {rest : List Value} {fI : Addr} {Q : Fin -> Shared -> Prop}
  (hC : h.get? C = some (excClassObj nm q C N bs bm hdct sn sub ab col dd k0 k1 k2 k3 k5 newId)) (hi : findIn K (.ref C) "__init__" = some (some (.ref fI))) (hf : typeIn K (.ref fI) = some (.type "function")) (hrest : rest.length <= sizeLine)
  (hq : ∀ h' e, Heap.MadeExcOf h h' e (.ref C) rest -> h.objs.size <= e ->
   wpAny (model prog w) A (call (.ref fI) (.ref e :: rest)) (fun r s' => r = .none /\ Q (.done (.ret (.ref e))) s') E ⟨h', g, d, t, os⟩) :
  wpAny (model prog w) A (Builtin.«type.__call__» ⟨.ref C :: rest, []⟩) Q E ⟨h, g, d, t, os⟩ := by
 repeat (first | with_reducible refine wpAny_loadPart_at hC ?_ | with_reducible refine wpAny_madeBy_exc hC ?_ | wp_step)
 refine codeAny_call_builtin_code (Code.quiet_builtin _ F.quiet) (wpAny_check_new_subT F T hC ?_)
 refine codeAny_exc_new_subT F T hC ?_ hrest
 show wpAny _ _ _ _ _ _
 have kp : ∀ b o, h.get? b = some o -> ((h.push { cls := .type "tuple", data := .seq rest.toArray }).push { cls := .ref C, data := .fields #[.ref h.objs.size, .none, .none, .none, .bool false, .none] }).get? b = some o :=
  fun b o e => Heap.get?_push_of_some _ (Heap.get?_push_of_some _ e)
 have hC₁ := kp _ _ hC
 have hget : ((h.push { cls := .type "tuple", data := .seq rest.toArray }).push
   { cls := .ref C, data := .fields #[.ref h.objs.size, .none, .none, .none, .bool false, .none] }).get? (h.objs.size + 1) = some
   { cls := .ref C, data := .fields #[.ref h.objs.size, .none, .none, .none, .bool false, .none] } := by heap_get
 have hcC : (Value.ref C :: bm).contains (.ref C) = true := by simp
 unfold isInstance
 repeat (first | with_reducible refine wpAny_loadPart_at hget ?_ | (with_reducible refine wpAny_isSubtype_exc hC₁ ?_; rw [hcC]) | wp_step)
 show wpAny _ _ (typeLookup (.ref C) _) _ _ _
 refine looks_findIn X hi _ _ _ _ kp ?_
 refine wpAny_holding (wpAny_bind (PySem.W.bind_fn X _ hf _ _ _ _ kp ?_))
 refine wpAny_bind (wpAny_mono (hq _ (h.objs.size + 1) ⟨kp, Heap.get?_none_of_le (Nat.le_succ _), h.objs.size, hget, Heap.get?_none_of_le (Nat.le_refl _), ?_⟩ (Nat.le_succ _)) (fun r s' hr => ?_) fun _ _ x => x)
 ·exact Heap.get?_push_of_some _ (Heap.get?_push_at rfl rfl)
 ·obtain ⟨rfl, hQ⟩ := hr
  wp_walk
  exact hQ
theorem call_init (F : ExcBaseFacts B newId initId bmB) (T : OwnTail h bmB bm) (X : K.In h) {rest : List Value} {fI : Addr} {Q : Value -> Shared -> Prop}
  (hC : h.get? C = some (excClassObj nm q C N bs bm hdct sn sub ab col dd k0 k1 k2 k3 k5 newId)) (hi : findIn K (.ref C) "__init__" = some (some (.ref fI))) (hf : typeIn K (.ref fI) = some (.type "function")) (hrest : rest.length <= sizeLine)
  (hq : ∀ h' e, Heap.MadeExcOf h h' e (.ref C) rest -> h.objs.size <= e ->
   wpAny (model prog w) (A.under (.builtin "type.__call__" ⟨.ref C :: rest, []⟩)) (call (.ref fI) (.ref e :: rest)) (fun r s' => r = .none /\ Q (.ref e) s') E ⟨h', g, d, t, os⟩) :
  wpAny (model prog w) A (call (.ref C) rest) Q E ⟨h, g, d, t, os⟩ := by
 have f1 := tc_lookup
 have f2 := tc_bind (.ref C)
 have hT : (⟨h, g, d, t, os⟩ : Shared).TypeIs (.ref C) "type" := ⟨_, hC, rfl⟩
 refine wpAny_call (codeAny_of_tree ?_)
 show wpAny _ _ (callAny (.ref C) _) _ _ _
 repeat (any_goals (first | assumption | with_reducible refine wpAny_loadPart_at hC ?_ | wp_step))
 refine ⟨rfl, ?_⟩
 exact codeAny_call_builtin_at (Code.quiet_builtin _ (by decide +kernel)) entry_typeCall (wpAny_check_type_call_sub hC (type_call_init F T X hC hi hf hrest hq))
end
end XF
namespace XF
open PySem PySem.Spec PySem.W PySem.Calls PyProof.Rows L2
def ExO (C e : Addr) (dd : Option Addr) : Heap -> Prop := fun h => ∃ t, h.get? e = some ⟨.ref C, dd, .fields #[.ref t, .none, .none, .none, .bool false, .none], #[]⟩
theorem ExO.stays {C e : Addr} {dd : Option Addr} (h1 h2 : Heap) (p : ExO C e dd h1) (k : ∀ o, h1.get? e = some o -> h2.get? e = some o) : ExO C e dd h2 := by
 obtain ⟨t, q⟩ := p
 exact ⟨t, k _ q⟩
theorem exo_ok {P : Program} {w : World} {H : Hp} {h : Heap} {C e : Addr} {dd : Option Addr} (p : ExO C e dd h) : ObjOk P w H h e (.ext (ExO C e dd)) := by
 obtain ⟨t, q⟩ := id p
 exact ⟨p, ⟨_, q⟩, ExO.stays⟩
theorem upd_id {H : Hp} {a : Addr} {o : HO} (h : H a = some o) : upd H a o = H := by
 funext b
 unfold upd
 split
 ·rename_i e; rw [e, h]
 ·rfl
abbrev VE : List Value := [.type "ValueError", .type "Exception", .type "BaseException", .type "object"]
section
variable {X : Cx} {C : Addr}
theorem call_binit (hK : excIn1 X.K C VE "ValueError.__new__" = true) : CallR X (.builtin "ValueError.__init__") (fun xs H Q => ∃ e x, xs = [.ref e, x] /\ H e = some (.ext (ExO C e none)) /\ Q .non H) := by
 intro pins s σ H xs us Q I r h
 obtain ⟨e, x, rfl, he, q⟩ := h
 obtain ⟨u, u', rfl, ru, rx⟩ := vals2 r
 obtain rfl : u = Value.ref e := ru
 obtain ⟨⟨t0, hget⟩, _, _⟩ := (show ObjOk X.prog X.w H s.heap e (.ext (ExO C e none)) from I.hok e _ he)
 have F := PySem.F.excBase_ValueError
 obtain ⟨bm, N, nm, qn, bs, hdct, sn, sub, ab, col, dd, k0, k1, k2, k3, k5, hC, T⟩ := exc_obj1 I.kIn hK
 have fin : ∀ {h' : Heap} {t1 : Addr} {tk : Nat}, h'.get? e = some ⟨.ref C, none, .fields #[.ref t1, .none, .none, .none, .bool false, .none], #[]⟩ -> (∀ b o, b ≠ e -> s.heap.get? b = some o -> h'.get? b = some o) -> EP X pins σ Q .none { s with heap := h', toks := tk } := fun {h' t1 tk} z k => by
  have J := I.write (x := e) (e := e) (o := .ext (ExO C e none)) (h' := h') (t' := tk) (by rw [he]; exact True.intro) (.inl rfl) k ⟨_, z⟩ (exo_ok ⟨t1, z⟩)
  rw [upd_id he] at J
  exact ⟨.non, H, J, rfl, q⟩
 obtain ⟨hp, g, d, t, os⟩ := s
 refine wpAny_call (codeAny_call_builtin F.init.plain F.initEntry (wpAny_check_init_subT F T hC hget rfl ?_))
 wp_walk
 refine fin (t1 := hp.objs.size) ?_ ?_
 ·rw [Heap.get?_update_self _ (Heap.get?_push_of_some _ hget) rfl]
  rfl
 ·intro b o n q
  rw [Heap.get?_update_other _ _ (Ne.symm n)]
  exact Heap.get?_push_of_some _ q

structure BInit (K : Frag) (CB : Addr) : Prop where
 rd : readsIn K CB (.type "type") = true
 sp : specialIn K (.ref CB) "__getattribute__" = some (some (.builtin "type.__getattribute__"))
 fd : findCls K (.ref CB) (.type "type") "__init__" = some (.val (.builtin "ValueError.__init__"))
def tBI (C : Addr) (t : TA) : TE := fun σ H Q => t σ H fun vs H1 => ∃ e x, vs = [.ref e, x] /\ H1 e = some (.ext (ExO C e none)) /\ Q .non H1
theorem pe_binit {CB : Addr} {x : Str} {np apos pos : Pos} {e1 : Expr} {es : List Expr} {t : TA} {pl : Sem Bool} (hK : excIn1 X.K C VE "ValueError.__new__" = true) (b : BInit X.K CB) (hg : Gl X x) (hm : X.mg x = some (.ref CB)) (ha : PA X (e1 :: es) t)
  (hdb : (x == ("__debug__" : Str)) = false := by decide) (hst : starEach (e1 :: es) X.env = (false, eval e1 X.env) :: starEach es X.env := by rfl) (hpl : (backTo pos (starEach es X.env)).any (·.1) = false := by rfl)
  (ht : eval (.Call (.Attribute (.Name x np) "__init__" apos) (e1 :: es) [] pos) X.env = (do
   let ov <- eval (.Name x np) X.env
   standAt apos.atName
   let (f, first) <- holding [ov] (getMethod ov "__init__" pl)
   callWith pos f first (backTo pos (starEach (e1 :: es) X.env)) (backToKw pos (keywordEach [] X.env))) := by rfl) :
  PE X (.Call (.Attribute (.Name x np) "__init__" apos) (e1 :: es) [] pos) (tBI C t) := by
 intro pins s σ H Q I h
 refine PySem.W.methodCall_KW (pl := pl) (ld_glob I hg hm ?_ hdb) ht
 refine method_cls I.kIn b.sp (cls_value I.kIn b.rd b.fd rfl ?_)
 exact PyProof.Rows.callWith_builtin1 (thn (ha pos pins _ σ H _ (I.tok _) h) fun us s1 ⟨vs, H1, I1, r1, q1⟩ => call_binit hK pins s1 σ H1 vs us Q I1 r1 q1) hst hpl
def sXF (C : Addr) (ta tv : TE) (f : Str) : TS := fun D σ H => tv σ H fun y H1 => ta σ H1 fun x H2 => ∃ e, x = .ref e /\ H2 e = some (.ext (ExO C e none)) /\ ∀ d, H2 d = none -> d ≠ e -> D.nx σ (upd (upd H2 d (.xd [(f, y)])) e (.ext (ExO C e (some d))))
theorem ps_xf {o value : Expr} {f : Str} {ta tv : TE} {pos pos' : Pos} (c : XCls X.K C) (n : findIn X.K (.ref C) f = some none) (ha : PE X o ta) (hv : PE X value tv) (hs : swapsWith value (some (.Attribute o f pos')) pos.line X.env = pure false := by rfl) :
  PS X (.Assign [.Attribute o f pos'] value pos) (sXF C ta tv f) := by
 intro pins s σ H D I h
 refine plainObj_wpAny_Assign_Attribute (thn (hv pins s σ H _ I h) fun u s1 ⟨y, H1, I1, ry, q⟩ => thn (ha pins s1 σ H1 _ I1 q) fun ov s2 ⟨x, H2, I2, rx, e, ex, he, q2⟩ => ?_) hs
 subst ex
 obtain rfl : ov = Value.ref e := rx
 obtain ⟨⟨t0, hget⟩, _, _⟩ := (show ObjOk X.prog X.w H2 s2.heap e (.ext (ExO C e none)) from I2.hok e _ he)
 have fin : ∀ h', h'.get? e = some ⟨.ref C, some s2.heap.objs.size, .fields #[.ref t0, .none, .none, .none, .bool false, .none], #[]⟩ -> h'.Ns1 s2.heap.objs.size (fun y => if y = f then some u else none) -> (∀ b o, b ≠ e -> s2.heap.get? b = some o -> h'.get? b = some o) -> ∀ t', SP X pins D .next { s2 with heap := h', toks := t' } := fun h' z n1 k t' => by
  have hn : H2 s2.heap.objs.size = none := I2.hok.fresh (Nat.le_refl _)
  have ne : s2.heap.objs.size ≠ e := Nat.ne_of_gt (Heap.lt_size hget)
  have hok : HOk X.prog X.w (upd (upd H2 s2.heap.objs.size (.xd [(f, y)])) e (.ext (ExO C e (some s2.heap.objs.size)))) h' := fun b o q => by
   by_cases hb : b = e
   ·subst hb
    rw [a0w] at q; cases q
    exact exo_ok ⟨t0, z⟩
   ·rw [upd_ne hb] at q
    by_cases hb2 : b = s2.heap.objs.size
    ·subst hb2
     rw [a0w] at q; cases q
     refine ⟨_, n1, fun g => ?_⟩
     by_cases hg : g = f
     ·subst hg
      rw [if_pos rfl]
      have : List.lookup g [(g, y)] = some y := by simp [List.lookup]
      rw [this]; exact ry
     ·have hb' : (g == f) = false := beq_eq_false_iff_ne.mpr hg
      simp only [List.lookup, hb', if_neg hg]
      exact True.intro
    ·rw [upd_ne hb2] at q
     have e1 : ∀ {c : Addr} {v : HO}, H2 c = some v -> (∀ φ, v ≠ .ext φ) -> upd (upd H2 s2.heap.objs.size (.xd [(f, y)])) e (.ext (ExO C e (some s2.heap.objs.size))) c = some v := fun {c v} z1 nv => by
      have n1 : c ≠ e := fun z2 => by rw [z2, he] at z1; cases z1; exact nv _ rfl
      rw [upd_ne n1, upd_ne (a0q z1 hn)]; exact z1
     refine (I2.hok b o q).stay (fun c v hc r => k c v (fun z2 => ?_) r) (fun c r => e1 r fun φ z => nomatch z) fun c xs r => e1 r fun φ z => nomatch z
     rcases hc with rfl | hc
     ·exact hb z2
     ·rw [z2, he] at hc; cases hc
  have un : Un (frs X.stack) [] H2 (upd (upd H2 s2.heap.objs.size (.xd [(f, y)])) e (.ext (ExO C e (some s2.heap.objs.size)))) s2.heap h' := by
   have nx : ∀ {b : Addr} {v : HO}, H2 b = some v -> (∀ φ, v ≠ .ext φ) -> upd (upd H2 s2.heap.objs.size (.xd [(f, y)])) e (.ext (ExO C e (some s2.heap.objs.size))) b = some v := fun {c v} z1 nv => by
    have n1 : c ≠ e := fun z2 => by rw [z2, he] at z1; cases z1; exact nv _ rfl
    rw [upd_ne n1, upd_ne (a0q z1 hn)]; exact z1
   refine ⟨fun b o q m _ _ => k b o (fun z2 => by rw [z2, he] at m; cases m) q, fun b o q m _ _ => ⟨o.slots, k b o (fun z2 => by rw [z2, he] at m; cases m) q⟩, fun b o q m _ => ?_, fun b o q _ => ?_, fun b xs q => nx q fun φ z => (nomatch z), fun b o u q => nx q fun φ z => (nomatch z), fun b ps q => ⟨#[], by rw [Array.append_empty]; exact nx q fun φ z => (nomatch z)⟩⟩
   ·rw [upd_ne (fun z2 => by rw [z2, he] at m; cases m), upd_ne (fun z2 => by subst z2; exact absurd (Heap.lt_size q) (Nat.lt_irrefl _))]
    exact m
   ·by_cases hb : b = e
    ·exact ⟨_, hb ▸ z⟩
    ·exact ⟨o, k b o hb q⟩
  exact ⟨σ, _, I2.call' (s' := { s2 with heap := h', toks := t' }) (ch := []) rfl un hok I2.bare (fun b z => nomatch z), q2 _ hn ne⟩
 obtain ⟨hp, g, d, t, os⟩ := s2
 exact set_field c I2.kIn hget (fun cd z => nomatch z) rfl n fun h' z n1 k t' => fin h' z n1 k t'
end
end XF
namespace XF
open PySem PySem.Spec PySem.W PySem.Calls PyProof.Rows L2
def XI (i : Int) : Prop := i.natAbs.log2 < 1920 /\ (Str.ofString (toString i)).length <= 1000
def TxtOk (te : TE) : Prop := ∀ (σ : L2.St) (H : Hp) (Q : L2.VK) (i : Int), σ[1]? = some (some (.int i)) -> XI i -> (∀ x, Q (.str x) H) -> te σ H Q
theorem empty_len : Str.empty.length = 0 := rfl
theorem txt3 {a b : Str} (ha : a.length <= 1000) (hb : b.length <= 1000) : TxtOk (tJoin [tC (.str a), tFV (tVar 1), tC (.str b)] Str.empty) := by
 intro σ H Q i hi x q
 have hl : sizeLine = 16777216 := sizeLine_eq
 refine ⟨a, rfl, by rw [Str.length_append, empty_len]; omega, .int i, hi, .inr ⟨i, rfl, x.1, _, rfl, ?_, b, rfl, ?_, ?_, q _⟩⟩
 all_goals
  have := x.2
  simp only [Str.length_append, empty_len]
  omega
def spXI (C : Addr) (fl : Str) : Sp := fun vs H Q _ => ∃ e i, vs = [.ref e, .int i] /\ XI i /\ H e = some (.ext (ExO C e none)) /\ ∀ d, H d = none -> d ≠ e -> Q .non (upd (upd H d (.xd [(fl, .int i)])) e (.ext (ExO C e (some d))))
section
variable {P : Program} {w : World} {K : PySem.W.Frag} {mg : Str -> Option Value} {base : Heap}
theorem initX_of {x qual fl : Str} {st : Stmt} {f C : Addr} {fd : FuncData} {N : List Str} {k : Nat} {te : TE} (F0 : Fun K x qual st f fd) (S : FnScope N N (defScope st)) (hN : N.length = 2) (ht : TxtOk te)
  (hbody : ∀ (cdv : Value) (A : Around) (outer : List Env) (s : Shared) (H : Hp) (E : XK), PSs (cxOf CX0 P w K mg base N qual (defScope st) f cdv A outer s H E).nox (defBody st) (tSeq (tDrop (tBI C (tCons (tVar 0) (tCons te tNil)))) (sXF C (tVar 0) (tVar 1) fl))) : FnOk P w K mg base CX0 (k + 1) f fd N (spXI C fl) := by
 refine F0.ok S (fun vs H Q E h => ?_) (fun cdv A outer s H vs Q E hr h => ?_)
 ·obtain ⟨e, i, rfl, _⟩ := h
  exact hN.symm
 ·obtain ⟨e, i, rfl, x, he, q⟩ := h
  refine ⟨_, hbody cdv A outer s H E, ?_⟩
  match N, hN with
  | [n0, n1], _ =>
   show tDrop (tBI C (tCons (tVar 0) (tCons te tNil))) _ _ _
   refine ⟨.ref e, rfl, ?_⟩
   refine ht _ _ _ i rfl x fun z => ?_
   exact ⟨e, .str z, rfl, he, .int i, rfl, .ref e, rfl, e, rfl, he, q⟩
end
def rem (H : Hp) (e : Addr) : Hp := fun b => if b = e then none else H b
theorem rem_ne {H : Hp} {b e : Addr} (h : b ≠ e) : rem H e b = H b := by unfold rem; rw [if_neg h]
theorem rem_same {H : Hp} {e : Addr} : rem H e e = none := by unfold rem; rw [if_pos rfl]
theorem rem_none {H : Hp} {b e : Addr} (h : H b = none) : rem H e b = none := by unfold rem; split <;> first | rfl | exact h
section
variable {X : Cx}
theorem Inv.rem' {pins : List (Addr × Obj)} {σ : L2.St} {H : Hp} {s : Shared} {e : Addr} {o : HO} (I : L2.Inv X pins σ H s) (he : H e = some o) (h1 : ∀ xs, o ≠ .tup xs) (h2 : ∀ y u, o ≠ .frz y u) (h3 : ∀ ps, o ≠ .tbl ps) (h4 : ∀ y, o ≠ .own y) : L2.Inv X pins σ (rem H e) s := by
 have ne : ∀ {b : Addr} {u : HO}, H b = some u -> u ≠ o -> rem H e b = some u := fun {b u} q n => by
  rw [rem_ne]
  ·exact q
  ·rintro rfl
   rw [he] at q; cases q; exact n rfl
 refine ⟨I.ok, I.os, I.bare, ⟨I.base.keep, I.base.slot, fun b o q n hx => rem_none (I.base.free b o q n hx), I.base.there, fun b xs q => ne (I.base.tups b xs q) (Ne.symm (h1 xs)), fun b y u q => ne (I.base.frzs b y u q) (Ne.symm (h2 y u)), fun b ps q => ?_⟩,
  I.loc, I.cell, rem_none I.free, fun y c q => rem_none (I.freeC y c q), fun p hp => ?_, fun b u q => ?_, I.len⟩
 ·obtain ⟨m, z⟩ := I.base.tbls b ps q
  exact ⟨m, ne z (Ne.symm (h3 _))⟩
 ·obtain ⟨a, b, c, d, f⟩ := I.pin p hp
  exact ⟨a, rem_none b, c, d, f⟩
 ·have hb : b ≠ e := by
   rintro rfl
   rw [rem_same] at q; cases q
  rw [rem_ne hb] at q
  exact (I.hok b u q).stay (fun _ _ _ z => z) (fun c z => ne z (Ne.symm (h4 _))) fun c xs z => ne z (Ne.symm (h1 _))
structure XInit (K : Frag) (C f : Addr) : Prop where
 ex : excIn1 K C VE "ValueError.__new__" = true
 init : findIn K (.ref C) "__init__" = some (some (.ref f))
 fn : typeIn K (.ref f) = some (.type "function")
 kp : keepIn K (.ref C) = true
theorem made_run {k : Nat} {C f : Addr} {fd : FuncData} {ps : List Str} {fl : Str} {pins : List (Addr × Obj)} {σ : L2.St} {H : Hp} {s : Shared} {i : Int} {u : Value} {Q : Value -> Shared -> Prop} (M : XInit X.K C f) (F : FnOk X.prog X.w X.K X.mg X.base CX0 k f fd ps (spXI C fl)) (hr : Room (k + 1) X.A) (hb : Binds X.K fd ps [])
  (I : L2.Inv X pins σ H s) (r : RelV (.int i) u) (hx : XI i)
  (q : ∀ (e a t : Addr) (s1 : Shared), s.heap.get? e = none -> H a = none -> L2.Inv X pins σ (upd H a (.xd [(fl, .int i)])) s1 -> s1.heap.get? e = some ⟨.ref C, some a, .fields #[.ref t, .none, .none, .none, .bool false, .none], #[]⟩ -> upd H a (.xd [(fl, .int i)]) e = none -> Q (.ref e) s1) :
  wpAny (model X.prog X.w) X.A (call (.ref C) [u]) Q X.xe s := by
 obtain ⟨bm, N, nm, qn, bs, hdct, sn, sub, ab, col, dd, k0, k1, k2, k3, k5, hC, T⟩ := exc_obj1 I.kIn M.ex
 have hl : sizeLine = 16777216 := sizeLine_eq
 have go : ∀ h' e, Heap.MadeExcOf s.heap h' e (.ref C) [u] -> s.heap.objs.size <= e -> wpAny (model X.prog X.w) (X.A.under (.builtin "type.__call__" ⟨[.ref C, u], []⟩)) (call (.ref f) [.ref e, u]) (fun r s' => r = .none /\ Q (.ref e) s') X.xe { s with heap := h' } := by
  intro h' e hm hsz
  obtain ⟨t0, he, _, _⟩ := hm.there
  have hn : H e = none := I.hok.fresh hsz
  have I2 : L2.Inv X pins σ (upd H e (.ext (ExO C e none))) { s with heap := h' } := I.laid (t' := s.toks) hm.keeps hsz (exo_ok ⟨t0, he⟩)
  have hq : spXI C fl [.ref e, .int i] (upd H e (.ext (ExO C e none))) (fun v H' => v = .non /\ ∃ a, upd H e (.ext (ExO C e none)) a = none /\ a ≠ e /\ H' = upd (upd (upd H e (.ext (ExO C e none))) a (.xd [(fl, .int i)])) e (.ext (ExO C e (some a)))) E0 :=
   ⟨e, i, rfl, hx, a0w, fun d hd ne => ⟨rfl, d, hd, ne, rfl⟩⟩
  have r2 : Vals [V.ref e, .int i] [Value.ref e, u] := .cons rfl (.cons r .nil)
  have hlen : [Value.ref e, u].length = ps.length := by
   have e1 := r2.length
   rw [F.len _ _ _ _ hq] at e1
   exact e1.symm
  refine wpAny_call (codeAny_mono (F.run _ X.stack _ _ ⟨[Value.ref e, u], []⟩ [Value.ref e, u] _ _ E0 (hr.make C [u] []) (I2.env0.make C [u] []) (hb _ [Value.ref e, u] I2.kIn hlen) r2 hq) fun r s' hq' => ?_)
  cases r with
  | error e => exact (show False from hq').elim
  | ok fl' =>
   cases fl' with
   | ret u' =>
    obtain ⟨v, H', I3, rv, ev, a, ha, ne, rfl⟩ := I2.after hq'
    subst ev
    have ha' : H a = none := by rw [upd_ne ne] at ha; exact ha
    have I4 := XF.Inv.rem' (e := e) I3 a0w (fun _ z => nomatch z) (fun _ _ z => nomatch z) (fun _ z => nomatch z) (fun _ z => nomatch z)
    have eq : rem (upd (upd (upd H e (.ext (ExO C e none))) a (.xd [(fl, .int i)])) e (.ext (ExO C e (some a)))) e = upd H a (.xd [(fl, .int i)]) := by
     funext b
     by_cases hb : b = e
     ·rw [hb, rem_same, upd_ne (Ne.symm ne), hn]
     ·rw [rem_ne hb, upd_ne hb]
      by_cases hb2 : b = a
      ·rw [hb2, a0w, a0w]
      ·rw [upd_ne hb2, upd_ne hb2, upd_ne hb]
    rw [eq] at I4
    obtain ⟨⟨t1, he1⟩, _, _⟩ := (show ObjOk X.prog X.w _ s'.heap e (.ext (ExO C e (some a))) from I3.hok e _ a0w)
    exact ⟨rv, q e a t1 s' hm.new ha' I4 he1 (by rw [upd_ne (Ne.symm ne)]; exact hn)⟩
   | next => exact False.elim hq'
   | brk => exact False.elim hq'
   | cont => exact False.elim hq'
 obtain ⟨hp, g, d, t, os⟩ := s
 exact call_init PySem.F.excBase_ValueError T I.kIn hC M.init M.fn (by simp only [List.length_cons, List.length_nil]; omega) go
end
end XF
namespace XF
open PySem PySem.Spec PySem.W PySem.Calls PyProof.Rows L2
section
variable {M : Model} {A : Around} {E : Value -> Shared -> Prop} {env : Env}
variable {nm q : Str} {C N : Addr} {bs bm : List Value} {hdct : Bool} {sn : List Str} {sub : List Value} {ab : Bool} {col : Option Bool} {dd : Option Addr} {k0 k1 k2 k3 k5 : Option Value} {newId : String}
theorem raise_made {s : Shared} {x : Sem Value} {Q : Flow -> Shared -> Prop} (hbase : bm.contains (.type "BaseException") = true) (hh : A.handled = none)
  (h : wpAny M A x (fun v s₁ => ∃ e a t, v = .ref e /\ s₁.heap.get? C = some (excClassObj nm q C N bs bm hdct sn sub ab col dd k0 k1 k2 k3 k5 newId) /\ s₁.heap.get? e = some ⟨.ref C, some a, .fields #[.ref t, .none, .none, .none, .bool false, .none], #[]⟩ /\ E (.ref e) s₁) E s) :
  wpAny M A (raiseStmt env (some x) none) Q E s := by
 have hcB : (Value.ref C :: bm).contains (.type "BaseException") = true := by rw [List.contains_cons, hbase, Bool.or_true]
 unfold raiseStmt
 refine wpAny_bind (wpAny_mono h (fun v s₁ h₁ => ?_) fun _ _ x => x)
 obtain ⟨e, a, t, rfl, hC, he, hE⟩ := h₁
 obtain ⟨hp, g, d, tk, os⟩ := s₁
 repeat (first | with_reducible refine wpAny_loadPart_at he ?_ | with_reducible refine wpAny_loadPart_at hC ?_ | (with_reducible refine wpAny_isSubtype_exc hC ?_; rw [hcB]) | wp_step)
 exact wpAny_raiseNew_none hh hE
theorem raise_exec {s : Shared} {e : Expr} {pos : Pos} {Q : Flow -> Shared -> Prop} (hbase : bm.contains (.type "BaseException") = true) (hh : A.handled = none)
  (h : wpAny M A (eval e env) (fun v s₁ => ∃ e a t, v = .ref e /\ s₁.heap.get? C = some (excClassObj nm q C N bs bm hdct sn sub ab col dd k0 k1 k2 k3 k5 newId) /\ s₁.heap.get? e = some ⟨.ref C, some a, .fields #[.ref t, .none, .none, .none, .bool false, .none], #[]⟩ /\ E (.ref e) s₁) E s) :
  wpAny M A (exec (.Raise (some e) none pos) env) Q E s := by
 rw [arm_exec_Raise]
 simp only [evalOpt, Option.map]
 refine wpAny_bind (wpAny_standAt (raise_made (C := C) (nm := nm) (q := q) (N := N) (bs := bs) (bm := bm) (hdct := hdct) (sn := sn) (sub := sub) (ab := ab) (col := col) (dd := dd) (k0 := k0) (k1 := k1) (k2 := k2) (k3 := k3) (k5 := k5) (newId := newId) hbase hh
  (wpAny_bind (wpAny_mono h (fun v s₃ h₃ => wpAny_bind (wpAny_standAt (wpAny_pure h₃))) fun _ _ x => x))))
end
def RaisesF (X : Cx) (C : Addr) (Eh : Option Addr -> Hp -> Prop) : Prop := ∀ (pins : List (Addr × Obj)) (σ : L2.St) (H H1 : Hp) (s s1 : Shared) (e t : Addr) (oe : Obj) (vs : Array Value), L2.Inv X pins σ H s -> s.heap.get? e = none -> L2.Inv X pins σ H1 s1 ->
 s1.heap.get? e = some oe -> oe.cls = .ref C -> oe.data = .fields vs -> vs[0]? = some (.ref t) -> vs[1]? = some .none -> (oe.dict = none -> vs[2]? = some .none) -> H1 e = none -> Eh oe.dict H1 -> X.xe (.ref e) s1
theorem raisesF_def {P : Program} {w : World} {K : PySem.W.Frag} {mg : Str -> Option Value} {base : Heap} {N : List Str} {qual : Str} {scope : Scope} {f : Addr} {cdv : Value} {A : Around} {outer : List Env} {s0 : Shared} {H0 : Hp} {E : XK} {C : Addr} :
  RaisesF (cxOf (CXE P w) P w K mg base N qual scope f cdv A outer s0 H0 E) C (fun d H => E (.ref C) d H) :=
 fun _ _ _ _ _ _ _ _ _ _ I new I1 he hc hd h0 h1 h2 hn hE => raises_core I new I1 he hc hd h0 h1 h2 hn hE
section
variable {X : Cx}
theorem ps_raiseF {k : Nat} {x fl : Str} {C f : Addr} {fd : FuncData} {ps : List Str} {Eh : Option Addr -> Hp -> Prop} {np cpos pos : Pos} {e : Expr} {ta : TA} (hR : RaisesF X C Eh) (M : XInit X.K C f) (F : FnOk X.prog X.w X.K X.mg X.base CX0 k f fd ps (spXI C fl)) (hr : Room (k + 1) X.A) (hb : L2.Binds X.K fd ps [])
  (hc : X.calm = true) (hg : Gl X x) (hm : X.mg x = some (.ref C)) (ha : PA X [e] ta) (hdb : (x == ("__debug__" : Str)) = false := by decide)
  (he : starEach [e] X.env = (false, eval e X.env) :: starEach [] X.env := by rfl) :
  PS X (.Raise (some (.Call (.Name x np) [e] [] cpos)) none pos) (fun _ σ H => ta σ H fun vs H1 => ∃ i, vs = [.int i] /\ XI i /\ ∀ a, H1 a = none -> Eh (some a) (upd H1 a (.xd [(fl, .int i)]))) := by
 intro pins s σ H D I h
 obtain ⟨bm, N, nm, qn, bs, hdct, sn, sub, ab, col, dd, k0, k1, k2, k3, k5, hC, T⟩ := exc_obj1 I.ok.mod.kin M.ex
 refine raise_exec (C := C) (nm := nm) (q := qn) (N := N) (bs := bs) (bm := bm) (hdct := hdct) (sn := sn) (sub := sub) (ab := ab) (col := col) (dd := dd) (k0 := k0) (k1 := k1) (k2 := k2) (k3 := k3) (k5 := k5) (newId := "ValueError.__new__") (T.hasType PySem.F.excBase_ValueError.hasBase) (I.ok.hd hc) ?_
 refine wpAny_Call_Name_kw (ld_glob I hg hm ?_ hdb)
 refine PySem.W.callWith_K (h₀ := X.base) I.ok.mod.kin M.kp (thn (ha cpos pins s σ H _ I h) fun us s1 ⟨vs, H1, I1, r, i, ev, hx, q⟩ => ⟨I1.kIn, ?_⟩) he rfl
 ·subst ev
  obtain ⟨u, rfl, ru⟩ := vals1 r
  refine made_run M F hr hb I1 ru hx fun e a t s2 new ha I2 hge hn => ⟨e, a, t, rfl, I2.bk _ _ hC, hge, ?_⟩
  exact hR pins σ H1 _ s1 s2 e t _ _ I1 new I2 hge rfl rfl rfl rfl (fun z => nomatch z) hn (q a ha)

theorem pe_xat {ea a C : Addr} {oe od : Obj} {fl : Str} {v : V} {u : Value} {o : Expr} {ta : TE} {pos : Pos} (c : XCls X.K C) (n : findIn X.K (.ref C) fl = some none) (h1 : (ea, oe) ∈ X.pn) (hcl : oe.cls = .ref C) (hnc : notCls oe = true) (hdi : oe.dict = some a) (h2 : (a, od) ∈ X.pn) (hl : lookIn fl od = some (some u)) (hr : L2.RelV v u)
  (he : PE X o ta) (hb : attributeBase o fl X.env (eval o X.env) = eval o X.env := by rfl) : PE X (.Attribute o fl pos) (fun σ H Q => ta σ H fun x H1 => x = .ref ea /\ Q v H1) := by
 intro pins s σ H Q I h
 refine attr_of hb (thn (he pins s σ H _ I h) fun u' s1 ⟨x, H1, I1, rx, ex, q⟩ => ?_)
 subst ex
 obtain rfl : u' = Value.ref ea := rx
 have p1 := (I1.pin (ea, oe) (List.mem_append_left _ h1)).1
 have p2 := (I1.pin (a, od) (List.mem_append_left _ h2)).1
 have J : InstAt s1.heap ea oe C (some od) := ⟨p1, hcl, hnc, by rw [hdi]; exact p2⟩
 obtain ⟨hp, g, d, t, os⟩ := s1
 exact get_field c I1.kIn J (findObj_own c.hd n rfl hl) (handed_of hr) ⟨v, H1, I1.tok _, hr, q⟩
theorem Inv.held2 {pins : List (Addr × Obj)} {σ : L2.St} {H : Hp} {s : Shared} {e a : Addr} {oe od : Obj} (I : L2.Inv X pins σ H s) (ha : s.heap.get? a = some od /\ H a = none /\ a ≠ X.env.locals /\ a ∉ X.fs /\ ∀ v, od.data ≠ .cell v)
  (he : s.heap.get? e = some oe /\ H e = none /\ e ≠ X.env.locals /\ e ∉ X.fs /\ ∀ v, oe.data ≠ .cell v) : L2.Inv (X.held (X.pn ++ pins ++ [(a, od), (e, oe)]) e) [] σ H s :=
 ⟨⟨I.ok.mod, I.ok.kind, I.ok.glob, I.ok.blt, I.ok.above, I.ok.inj, I.ok.has, I.ok.cab, (fun z => nomatch z), I.ok.frames, I.ok.stk, I.ok.exf, I.ok.bs, I.ok.bsz, I.ok.noex, I.ok.exfs, I.ok.funs, I.ok.frf⟩,
  I.os, I.bare, I.base, I.loc, I.cell, I.free, I.freeC, fun p hp => by
   have hp : p ∈ (X.pn ++ pins ++ [(a, od), (e, oe)]) ++ [] := hp
   rw [List.append_nil] at hp
   rcases List.mem_append.mp hp with hp | hp
   ·exact I.pin p hp
   ·rcases List.mem_cons.mp hp with rfl | hp
    ·exact ha
    ·rw [List.mem_singleton.mp hp]; exact he, I.hok, I.len⟩
theorem Inv.unheld2 {pins pins' : List (Addr × Obj)} {σ : L2.St} {H : Hp} {s : Shared} {e : Addr} {more : List (Addr × Obj)} (hd : X.calm = true -> X.A.handled = none) (I : L2.Inv (X.held (X.pn ++ pins ++ more) e) pins' σ H s) : L2.Inv X pins σ H s :=
 ⟨⟨I.ok.mod, I.ok.kind, I.ok.glob, I.ok.blt, I.ok.above, I.ok.inj, I.ok.has, I.ok.cab, hd, I.ok.frames, I.ok.stk, I.ok.exf, I.ok.bs, I.ok.bsz, I.ok.noex, I.ok.exfs, I.ok.funs, I.ok.frf⟩,
  I.os, I.bare, I.base, I.loc, I.cell, I.free, I.freeC, fun p hp => I.pin p (List.mem_append_left _ (List.mem_append_left _ hp)), I.hok, I.len⟩
theorem fs_stack {b : Addr} (hfr : X.env.frame = some X.env.locals) (h : b ∈ X.fs) : b ∈ frs (X.env :: X.outer) := by
 show b ∈ List.filterMap _ _
 rw [List.filterMap_cons, hfr]
 exact List.mem_cons_of_mem _ h
def tTryF (X : Cx) (C : Addr) (i : Nat) (fl : Str) (body suite : List Stmt) : TS := fun D σ H => ∃ Ex : XK,
 (∀ pn xe, Passes (CXE X.prog X.w) (X.tri pn xe) Ex -> tCan (X.tri pn xe) body D σ H) /\
 ∀ c d H', Ex c d H' -> c = .ref C /\ ∃ a H1 j, d = some a /\ H1 a = none /\ H' = upd H1 a (.xd [(fl, .int j)]) /\
  ∀ pn ea oe od tk, (ea, oe) ∈ pn -> oe.cls = .ref C -> notCls oe = true -> oe.dict = some a -> (a, od) ∈ pn -> lookIn fl od = some (some (.int j tk)) -> tCan (X.held pn ea) suite (D.gone i) ((List.replicate X.N.length none).set i (some (.ref ea))) H1
theorem ps_try_xf {x n fl : Str} {C : Addr} {i : Nat} {body suite : List Stmt} {b₀ : Stmt} {np hp pos : Pos} (hK : excIn1 X.K C VE "ValueError.__new__" = true)
  (hst : X.stack = X.env :: X.outer) (hfr : X.env.frame = some X.env.locals) (hg : Gl X x) (hm : X.mg x = some (.ref C)) (hN : X.N.Nodup) (hi : X.N[i]? = some n) (hl : X.env.scope.names.lookup n = some .local) (hd : (x == ("__debug__" : Str)) = false := by decide) :
  PS X (.Try body [.ExceptHandler (some (.Name x np)) (some n) (b₀ :: suite) hp] [] [] pos) (tTryF X C i fl body (b₀ :: suite)) := by
 intro pins s σ H D I ⟨Ex, hb, hs⟩
 have hcls : (X.env.scope.kind == .class || (X.env.scope.kind == .module && X.env.locals != X.env.globals)) = false := by rw [I.ok.kind]; rfl
 refine wpAny_Try_except ?_
 have hps : Passes (CXE X.prog X.w) (X.tri (X.pn ++ pins) fun e s' => ∃ σ1 H1 s1, L2.Inv X pins σ1 H1 s1 /\ CXE X.prog X.w X.stack H1 s1 Ex e s') Ex := fun pins' σ1 H1 s1 e s' I1 h1 => ⟨σ1, H1, s1, I1.untri, h1⟩
 have hw := pss_can [] s σ H D (I.tri _) (hb _ _ hps)
 refine wpAny_mono hw (fun f s1 h1 => ?_) (fun e s1 h1 => ?_)
 ·cases f with
  | next =>
   obtain ⟨σ', H', I', q⟩ := h1
   exact wpAny_execs_nil (show SP X pins D .next s1 from ⟨σ', H', I'.untri, q⟩)
  | brk => obtain ⟨σ', H', I', q⟩ := h1; exact ⟨σ', H', I'.untri, q⟩
  | cont => obtain ⟨σ', H', I', q⟩ := h1; exact ⟨σ', H', I'.untri, q⟩
  | ret u => obtain ⟨v, σ', H', I', r, q⟩ := h1; exact ⟨v, σ', H', I'.untri, r, q⟩
 ·obtain ⟨σ1, H1, s0, I0, ea, C', t, dx, H', B0, rfl, F⟩ := h1
  obtain ⟨hc, a, Hq, j, hda, hqn, hH, hsuite⟩ := hs _ _ _ F.wish
  cases hc
  subst hda hH
  obtain ⟨flv, hFl⟩ := F.fl
  rw [hst] at hFl
  refine XF.looks_on (I.ok.frames.trans (by rw [hst])) hfr hFl F.dict fun h4 hheld4 dd4 hsm4 => ?_
  refine XF.lands (s := { s1 with heap := h4 }) hheld4 dd4 fun h5 hheld5 dd5 hsm5 => ?_
  have key : ∀ {h6 : Heap}, FlyF B0 (X.env :: X.outer) ea (.ref C) (.ref t) .none h6 -> DictIs h6 ea (some a) -> s1.heap.UpToSlots h6 -> ∃ oe od tk, oe.cls = .ref C /\ notCls oe = true /\ oe.dict = some a /\ h6.get? ea = some oe /\ lookIn fl od = some (some (.int j tk)) /\ L2.Inv (X.held (X.pn ++ pins ++ [(a, od), (ea, oe)]) ea) [] σ1 Hq { s1 with heap := h6 } := by
   intro h6 hfl6 dd6 hsm6
   have I6 := fly_on I0 F hfl6.1 hsm6
   obtain ⟨oe, vs, hoe, hoec, hoed, _⟩ := hfl6.first
   obtain ⟨mA, hns, hrel⟩ := (show ObjOk X.prog X.w _ h6 a (.xd [(fl, .int j)]) from I6.hok a _ a0w)
   obtain ⟨od, hod, hlk⟩ := lookIn_ns hns
   have hfl : mA fl = some (.int j ((fun v => match v with | .int _ tk => tk | _ => 0) ((mA fl).getD .none))) := by
    have z := hrel fl
    rw [show List.lookup fl [(fl, V.int j)] = some (V.int j) from by simp [List.lookup]] at z
    cases e : mA fl with
    | none => rw [e] at z; exact z.elim
    | some u => rw [e] at z; obtain ⟨tk, rfl⟩ := (show ∃ tk, u = Value.int j tk from z); rfl
   have hea : upd Hq a (.xd [(fl, .int j)]) ea = none := by
    cases e : upd Hq a (.xd [(fl, .int j)]) ea with
    | none => rfl
    | some o =>
     obtain ⟨ob, q⟩ := F.trk _ _ e
     rw [hfl6.2.1] at q; cases q
   have hne : ea ≠ a := by
    rintro rfl
    rw [a0w] at hea; cases hea
   have J := XF.Inv.rem' (e := a) I6 a0w (fun _ z => nomatch z) (fun _ _ z => nomatch z) (fun _ z => nomatch z) (fun _ z => nomatch z)
   rw [show rem (upd Hq a (.xd [(fl, .int j)])) a = Hq from by
    funext b
    by_cases hb : b = a
    ·rw [hb, rem_same, hqn]
    ·rw [rem_ne hb, upd_ne hb]] at J
   have odd : ∃ es ep, od.data = .dict es ep := by
    obtain ⟨o', es, ep, ho', hd', _⟩ := hns
    rw [hod] at ho'; cases ho'
    exact ⟨es, ep, hd'⟩
   refine ⟨oe, od, _, hoec, by unfold notCls; rw [hoed], ?_, hoe, by rw [hlk, hfl], Inv.held2 J ⟨hod, hqn, ?_, ?_, fun v z => ?_⟩ ⟨hoe, by rw [upd_ne hne] at hea; exact hea, ?_, ?_, fun v z => by rw [hoed] at z; cases z⟩⟩
   ·obtain ⟨o2, _, q2, q3, _⟩ := dd6
    rw [hoe] at q2; cases q2; exact q3
   ·exact a0q (H := upd Hq a (.xd [(fl, .int j)])) a0w I6.free
   ·intro hb'
    have z := I6.stkFree a (by rw [hst]; exact fs_stack hfr hb')
    rw [a0w] at z; cases z
   ·obtain ⟨es, ep, q⟩ := odd
    rw [q] at z; cases z
   ·rintro rfl
    obtain ⟨m, ⟨o', es, ep, ho', hd', _⟩, _⟩ := I6.loc
    have ho' : h6.get? X.env.locals = some o' := ho'
    rw [hoe] at ho'; cases ho'; rw [hoed] at hd'; cases hd'
   ·intro hb'
    obtain ⟨_, o', ho', hd'⟩ := I6.funs.mem hb'
    have ho' : h6.get? ea = some o' := ho'
    rw [hoe] at ho'; cases ho'
    exact hd' _ hoed
  obtain ⟨ob, _, _, hobc, _, _, hob, _, I5⟩ := key hheld5 dd5 (hsm4.trans hsm5)
  obtain ⟨tl, N, nm, q, bs, hdct, sn, sub, ab, col, dd, k0, k1, k2, k3, k5, hC, T⟩ := exc_obj1 I.ok.mod.kin hK
  refine wpAny_handleBy_cons (codeAny_handlers_test (ld_glob I5 hg hm ?_ hd)) (by intro q; cases q)
  refine wpAny_excMatches_sub_self (I5.bk _ _ hC) hob hobc (T.hasType PySem.F.excBase_ValueError.hasBase) (codeAny_handlers_suite_as ?_)
  refine XF.lands (s := { s1 with heap := h5 }) hheld5 dd5 fun h6 hfl6 dd6 hsm6 => ?_
  obtain ⟨oe, od, tk, hoec, hnc, hdi, hoe, hlk, I6⟩ := key hfl6 dd6 ((hsm4.trans hsm5).trans hsm6)
  have I7 := I6.weak (σ' := List.replicate X.N.length none) (by rw [List.length_replicate]; exact I6.len.symm) (fun j v z => by
   rw [List.getElem?_replicate] at z
   split at z <;> cases z)
  refine store_ok (X := X.held (X.pn ++ pins ++ [(a, od), (ea, oe)]) ea) I7 hN hi (.inl hl) (v := .ref ea) rfl (fun s9 I9 => ?_) (.inr hl)
  refine wpAny_mono (pss_can [] s9 _ Hq (D.gone i) I9 (hsuite _ ea oe od tk (by simp) hoec hnc hdi (by simp) hlk)) (fun f s10 z => ?_) (fun _ _ z => z.elim)
  have gone : ∀ {σ' : L2.St} {H2 : Hp} {Q : Unit -> Shared -> Prop}, L2.Inv (X.held (X.pn ++ pins ++ [(a, od), (ea, oe)]) ea) [] σ' H2 s10 -> (∀ s11, L2.Inv X pins (σ'.set i none) H2 s11 -> Q () s11) -> wpAny (model X.prog X.w) X.A (do bindName X.env n .none; unbindBehindTheSuite X.env n hp) Q X.xe s10 := by
   intro σ' H2 Q J k
   obtain ⟨m, hn, hlk⟩ := J.loc
   refine wpAny_nameGoes_keeps hl hn hcls fun h' v hn' hs' => k _ ?_
   refine (((Inv.unheld2 I.ok.hd J).names (σ' := σ'.set i none) hs' (by simp) ⟨_, hn', fun j y w e1 e2 e3 => ?_⟩).tok _)
   by_cases hj : i = j
   ·subst hj
    rw [List.getElem?_set] at e2
    simp at e2
   ·rw [List.getElem?_set_ne hj] at e2
    obtain ⟨u, r, lk⟩ := hlk j y w e1 e2 e3
    refine ⟨u, r, ?_⟩
    rcases lk with ⟨a, b⟩ | ⟨a, c, e, z'⟩
    ·refine .inl ⟨a, ?_⟩
     have : y ≠ n := fun e => hj (nodup_ix hN (e ▸ e1) hi).symm
     simp [this, b]
    ·exact .inr ⟨a, c, e, z'.sameBut hs' (J.cne y c e)⟩
  cases f with
  | next => obtain ⟨σ', H2, J, q⟩ := z; exact gone J fun s11 J' => ⟨_, H2, J', q⟩
  | brk => obtain ⟨σ', H2, J, q⟩ := z; exact gone J fun s11 J' => ⟨_, H2, J', q⟩
  | cont => obtain ⟨σ', H2, J, q⟩ := z; exact gone J fun s11 J' => ⟨_, H2, J', q⟩
  | ret u => obtain ⟨v, σ', H2, J, r, q⟩ := z; exact gone J fun s11 J' => ⟨v, _, H2, J', r, q⟩
end
end XF
namespace XF
open PySem PySem.Spec PySem.W PySem.Calls PyProof.Rows L2
section
variable {X : Cx}
end
end XF
namespace XF
open PySem PySem.Spec PySem.W PySem.Calls PyProof.Rows L2
section
variable {X : Cx}
end
end XF
namespace DL
open PySem PySem.Spec PyProof.Rows L2
section
variable {X : Cx} {G : XD -> Hp -> Prop} {fi : DS -> M (List D)} {c : DS -> M Bool} {f : DS -> M D} {t : D -> DS -> Option DS}
end
end DL
namespace DL
open PySem PySem.Spec PyProof.Rows L2
def okXI (i : Int) : Bool := decide (i.natAbs.log2 < 1920) && decide ((Str.ofString (toString i)).length <= 1000)
theorem okXI_iff {i : Int} (h : okXI i = true) : XF.XI i := by
 unfold okXI at h
 rw [Bool.and_eq_true, decide_eq_true_eq, decide_eq_true_eq] at h
 exact h
structure XDef (P : Program) (w : World) (K : PySem.W.Frag) (mg : Str -> Option Value) (base : Heap) (k : Nat) (x fl : Str) (C : Addr) : Prop where
 ok : ∃ (f : Addr) (fd : FuncData) (ps : List Str), XF.XInit K C f /\ FnOk P w K mg base CX0 k f fd ps (XF.spXI C fl) /\ L2.Binds K fd ps []
def gRaiseF (x fl : Str) (fa : DS -> M (List D)) : DS -> M Out := fun δ => (fa δ).thn fun ds => match ds with
 | [.int i] => if okXI i then some (.error ⟨x, [(fl, .int i)]⟩) else none
 | _ => none
section
variable {X : Cx} {G : XD -> Hp -> Prop} {e : Expr} {fa : DS -> M (List D)} {pos : Pos}
theorem pd_raiseF {k : Nat} {x fl : Str} {C : Addr} {np cpos : Pos} {E : XK} (h : XDef X.prog X.w X.K X.mg X.base k x fl C) (hR : XF.RaisesF X C (fun d H => E (.ref C) d H)) (hG : ∀ x H, G x H -> GX X.mg E x H) (hr : Room (k + 1) X.A)
  (hc : X.calm = true) (hg : Gl X x) (hm : X.mg x = some (.ref C)) (ha : PDA X G [e] fa) (hdb : (x == ("__debug__" : Str)) = false := by decide)
  (he : starEach [e] X.env = (false, eval e X.env) :: starEach [] X.env := by rfl) :
  PDS X G (.Raise (some (.Call (.Name x np) [e] [] cpos)) none pos) (gRaiseF x fl fa) := by
 obtain ⟨f, fd, ps, M1, F, hb⟩ := h.ok
 obtain ⟨_, t, pa, ha⟩ := ha
 refine ⟨_, XF.ps_raiseF hR M1 F hr hb hc hg hm pa hdb he, @fun Hr R0 P0 H0 δ O σ H Dn E1 k => ?_⟩
 refine ha δ O σ H _ E1.ev (a0j (a0o k) fun ds z vs H1 s1 rs => ?_)
 match ds, z, rs with
 | [.int i], z, rs =>
  by_cases hz : okXI i = true
  ·have z : ok (GS G Hr) (if okXI i = true then some (.error ⟨x, [(fl, .int i)]⟩) else none) (Fin X.K Hr R0 P0 H0 Dn) := z
   rw [if_pos hz] at z
   obtain ⟨v, rfl, rv⟩ := reps1 rs
   cases rv
   exact ⟨i, rfl, okXI_iff hz, fun a ha => hG _ _ (z H1 (E1.ev.root.trans s1)) C hm a ha⟩
  ·have z : ok (GS G Hr) (if okXI i = true then some (.error ⟨x, [(fl, .int i)]⟩) else none) (Fin X.K Hr R0 P0 H0 Dn) := z
   rw [if_neg hz] at z
   exact z.elim
 | [], z, _ => exact z.elim
 | [.none], z, _ => exact z.elim
 | [.bool _], z, _ => exact z.elim
 | [.str _], z, _ => exact z.elim
 | [.list _], z, _ => exact z.elim
 | [.tuple _], z, _ => exact z.elim
 | [.dict _], z, _ => exact z.elim
 | d1 :: d2 :: r, z, _ => cases d1 <;> exact z.elim
def dXat (a : Addr) (i : Nat) (j : Int) : DS -> M D := fun δ => match δ[i]? with
 | some (.ex a') => if a' = a then M.ret (.int j) else none
 | _ => none
theorem ev_xat {a : Addr} {i : Nat} {j : Int} {δ : DS} (h : δ[i]? = some (.ex a)) : dXat a i j δ = M.ret (.int j) := by unfold dXat; rw [h]; simp
theorem pd_xat {ea a C : Addr} {oe od : Obj} {fl n : Str} {i : Nat} {j : Int} {tk : Nat} {p1 : Pos} (c : XF.XCls X.K C) (na : PySem.W.findIn X.K (.ref C) fl = some none) (h1 : (ea, oe) ∈ X.pn) (hcl : oe.cls = .ref C) (hnc : PySem.W.notCls oe = true) (hdi : oe.dict = some a) (h2 : (a, od) ∈ X.pn) (hl : PySem.W.lookIn fl od = some (some (.int j tk)))
  (hN : X.N[i]? = some n) (hvi : Vis X.env.scope n) (hdb : (n == ("__debug__" : Str)) = false := by decide) (hcd : (n == ("__classdict__" : Str)) = false := by decide) (hb : attributeBase (.Name n p1) fl X.env (eval (.Name n p1) X.env) = eval (.Name n p1) X.env := by rfl) : PD X G (.Attribute (.Name n p1) fl pos) (dXat ea i j) := by
 refine ⟨_, XF.pe_xat (v := .int j) c na h1 hcl hnc hdi h2 hl ⟨tk, rfl⟩ (pe_var hN hvi hdb hcd) hb, fun δ O σ H Q E k => ?_⟩
 unfold dXat at k
 split at k
 ·rename_i a' e
  split at k
  ·rename_i z
   subst z
   exact ⟨.ref a', E.at_ i _ e, rfl, k _ _ (fun _ _ h => h) (.int _)⟩
  ·exact k.elim
 ·exact k.elim
open Classical in
noncomputable def gTryF (x fl : Str) (N i : Nat) (gb : DS -> M Out) (gs : Addr -> Int -> DS -> M Out) : DS -> M Out := fun δ => match gb (noOw δ) with
 | none => none
 | some (.ok o) => some (.ok o)
 | some (.error y) => match y.flds with
  | [(f, .int j)] => if y.cls = x /\ f = fl then trySuite N i (fun a => gs a j) else none
  | _ => none
theorem pd_try_xf {x n fl : Str} {C : Addr} {i : Nat} {body suite : List Stmt} {b₀ : Stmt} {np hp pos : Pos} {gb : DS -> M Out} {gs : Addr -> Int -> DS -> M Out} (hK : XF.excIn1 X.K C XF.VE "ValueError.__new__" = true)
  (hst : X.stack = X.env :: X.outer) (hfr : X.env.frame = some X.env.locals) (hg : Gl X x) (hm : X.mg x = some (.ref C)) (hN : X.N.Nodup) (hi : X.N[i]? = some n) (hl : X.env.scope.names.lookup n = some .local)
  (hb : ∀ pn xe Ex, Passes (CXE X.prog X.w) (X.tri pn xe) Ex -> PDSs (X.tri pn xe) (GX X.mg Ex) body gb)
  (hs : ∀ pn ea oe a od j tk, (ea, oe) ∈ pn -> oe.cls = .ref C -> PySem.W.notCls oe = true -> oe.dict = some a -> (a, od) ∈ pn -> PySem.W.lookIn fl od = some (some (.int j tk)) -> PDSs (X.held pn ea) (fun _ _ => False) (b₀ :: suite) (gs ea j))
  (hd : (x == ("__debug__" : Str)) = false := by decide) :
  PDS X G (.Try body [.ExceptHandler (some (.Name x np)) (some n) (b₀ :: suite) hp] [] [] pos) (gTryF x fl X.N.length i gb gs) := by
 refine ⟨_, XF.ps_try_xf (fl := fl) hK hst hfr hg hm hN hi hl hd, @fun Hr R0 P0 H0 δ O σ H Dn E k => ?_⟩
 unfold gTryF at k
 cases e : gb (noOw δ) with
 | none => rw [e] at k; exact k.elim
 | some r =>
  rw [e] at k
  cases r with
  | ok o =>
   refine ⟨E0, fun pn xe hps => ?_, fun c d H' z => z.elim⟩
   obtain ⟨t, p, hB⟩ := hb pn xe E0 hps
   exact ⟨t, p, hB O (fun _ => False) H (noOw δ) O σ H Dn E.fresh (by rw [e]; exact Fin.fresh E k)⟩
  | error y =>
   obtain ⟨yc, yf⟩ := y
   dsimp only at k
   split at k
   ·rename_i f j
    by_cases hy : yc = x /\ f = fl
    ·rw [if_pos hy] at k
     obtain ⟨rfl, rfl⟩ := hy
     refine ⟨fun c d H' => c = .ref C /\ ∃ a H1, d = some a /\ Same H H1 /\ H1 a = none /\ H' = upd H1 a (.xd [(f, .int j)]), fun pn xe hps => ?_, fun c d H' z => ?_⟩
     ·obtain ⟨t, p, hB⟩ := hb pn xe _ hps
      refine ⟨t, p, hB O (fun _ => False) H (noOw δ) O σ H Dn E.fresh ?_⟩
      rw [e]
      intro H' s C' hC'
      rw [hm] at hC'
      exact fun a ha => ⟨Option.some.inj hC'.symm ▸ rfl, a, H', rfl, s, ha, rfl⟩
     ·obtain ⟨z1, a, H1, z2, z3, z4, z5⟩ := z
      refine ⟨z1, a, H1, j, z2, z4, z5, fun pn ea oe od tk i1 i2 i3 i4 i5 i6 => ?_⟩
      obtain ⟨t, p, hB⟩ := hs pn ea oe a od j tk i1 i2 i3 i4 i5 i6
      refine ⟨t, p, hB O (fun _ => False) H (exS X.N.length i ea) O _ H1 (Dn.gone i) (ei_exS E z3) ?_⟩
      have k1 := a0o (trySuite_at k ea)
      exact ok_weak (a0j (ok_noX k1) fun o q => Fin.gone (Fin.fresh E q)) fun y z => z.elim
    ·rw [if_neg hy] at k
     exact k.elim
   ·exact k.elim
end
section
variable {δ δ' : DS} {y : XD} {x fl : Str} {N i n : Nat} {j : Int} {gb : DS -> M Out} {gs : Addr -> Int -> DS -> M Out} {o : Out} {fa : DS -> M (List D)} {fi : DS -> M (List D)} {c : DS -> M Bool} {f : DS -> M D} {t : D -> DS -> Option DS} {ds ys : List D} {d : D} {js : List Nat}
theorem ev_tryF_ok (h : gb (noOw δ) = M.ret o) : gTryF x fl N i gb gs δ = M.ret o := by unfold gTryF; rw [h]; rfl
theorem ev_tryF_x {o' : Addr -> Out} (h : gb (noOw δ) = some (.error ⟨x, [(fl, .int j)]⟩)) (hs : ∀ a, gs a j (exS N i a) = M.ret (o' a)) (ho : ∀ a, (o' a).gone i = o) : gTryF x fl N i gb gs δ = M.ret o := by
 unfold gTryF
 rw [h]
 dsimp only
 rw [if_pos ⟨rfl, rfl⟩]
 refine trySuite_eq fun a => ?_
 rw [hs a]
 show M.ret ((o' a).gone i) = M.ret o
 rw [ho a]
theorem ev_raiseF (h : fa δ = M.ret [.int j]) (hz : okXI j = true) : gRaiseF x fl fa δ = some (.error ⟨x, [(fl, .int j)]⟩) := by
 unfold gRaiseF
 rw [h]
 show (if okXI j = true then _ else _) = _
 rw [if_pos hz]
theorem er_ret {f : DS -> M D} (h : f δ = some (.error y)) : gRet f δ = some (.error y) := by unfold gRet; rw [h]; rfl
end
end DL
namespace XF
open PySem PySem.Spec PySem.W PySem.Calls PyProof.Rows L2
section
variable {P : Program} {w : World} {K : PySem.W.Frag} {mg : Str -> Option Value} {base : Heap}
def cxH (P : Program) (w : World) (K : Frag) (mg : Str -> Option Value) (base : Heap) (N : List Str) (qual : Str) (scope : Scope) (f : Addr) (cdv : Value) (A : Around) (hv : Value) (outer : List Env) (s : Shared) (H : Hp) : Cx :=
 { cxOf CX0 P w K mg base N qual scope f cdv A outer s H E0 with A := (A.mark (some hv)).deeper (envOfC qual scope s.heap.objs.size f cdv), calm := false, xe := fun _ _ => False }
def FnH (P : Program) (w : World) (K : Frag) (mg : Str -> Option Value) (base : Heap) (k : Nat) (f : Addr) (fd : FuncData) (ps : List Str) (sp : Sp) : Prop :=
 ∀ (A : Around) (hv : Value) (outer : List Env) (s : Shared) (H : Hp) (args : Args) (us : List Value) (vs : List V) (Q : L2.VK), Room k A -> Env0 P w K mg base A outer s H -> BindsTo s fd args (ps.zip us) -> Vals vs us -> sp vs H Q E0 ->
  codeAny (model P w) (A.mark (some hv)) (.call (.ref f) args) (CR CX0 outer P w H s Q E0) s
theorem fnH_of {x qual : Str} {st : Stmt} {f : Addr} {fd : FuncData} {N ps : List Str} {k : Nat} {sp : Sp} (F : Fun K x qual st f fd) (S : FnScope N ps (defScope st)) (len : ∀ vs H Q E, sp vs H Q E -> vs.length = ps.length)
  (hbody : ∀ (cdv : Value) (A : Around) (hv : Value) (outer : List Env) (s : Shared) (H : Hp) (vs : List V) (Q : L2.VK), sp vs H Q E0 -> ∃ t, PSs (cxH P w K mg base N qual (defScope st) f cdv A hv outer s H) (defBody st) t /\ t { nx := fun _ H' => Q .non H', rt := Q } (L2.start N vs) H) :
  FnH P w K mg base (k + 1) f fd ps sp := by
 obtain ⟨oc, od, kV, doc, pm, an, cdv, ct, osl, rfl, lk, hcd⟩ := F.ex
 intro A hv outer s H args us vs Q hr e0 hb r hsp
 have kin : K.In s.heap := e0.mod.kin.keeps fun b o e => (e0.bs b o e).1
 have lim : s.heap.NoLimit := e0.mod.nolimit.keeps fun b o e => (e0.bs b o e).1
 have kinds : ∀ y ∈ ps.zip us, (defScope st).names.lookup y.1 = some .local \/ ((defScope st).names.lookup y.1 = some .cell /\ ((cellsFrom (s.heap.objs.size + 1) (defScope st).names []).lookup y.1).isSome = true) := fun ⟨n, v⟩ hy =>
  (S.par n (List.of_mem_zip hy).1).elim .inl fun q => .inr ⟨q, PySem.W.cellsFrom_some _ _ _ (.inl q)⟩
 refine codeAny_call_function (A := A.mark (some hv)) hr.depth (kin _ _ lk) rfl S.co S.gen rfl (PySem.W.codeRec_of kin hcd) (hb _ _ _ _ ?_)
 refine wpAny_newFunctionEnv_cells S.kind kinds fun env he s1 x => ?_
 subst he
 refine ⟨lim.keeps x.toInCall.keep, codeAny_func ?_⟩
 obtain ⟨t, ht, hq⟩ := hbody cdv A hv outer s H vs Q hsp
 have I0 : L2.Inv (cxOf CX0 P w K mg base N qual (defScope st) f cdv A outer s H E0) [] (L2.start N vs) H s1 := inv_start S hr.hd e0 (len _ _ _ _ hsp) r x
 have I : L2.Inv (cxH P w K mg base N qual (defScope st) f cdv A hv outer s H) [] (L2.start N vs) H s1 :=
  ⟨⟨I0.ok.mod, I0.ok.kind, I0.ok.glob, I0.ok.blt, I0.ok.above, I0.ok.inj, I0.ok.has, I0.ok.cab, (fun z => nomatch z), I0.ok.frames, I0.ok.stk, I0.ok.exf, I0.ok.bs, I0.ok.bsz, I0.ok.noex, I0.ok.exfs, I0.ok.funs, I0.ok.frf⟩,
   I0.os, I0.bare, I0.base, I0.loc, I0.cell, I0.free, I0.freeC, I0.pin, I0.hok, I0.len⟩
 refine wpAny_mono (ht [] s1 _ H _ I hq) (fun fl s' hs => ?_) fun e s' hs => (show False from hs).elim
 cases fl with
 | ret u =>
  obtain ⟨v, σ', H', J, rv, q⟩ := hs
  exact ⟨v, H', J.os, J.bare, J.base, J.hok, rv, q⟩
 | next =>
  obtain ⟨σ', H', J, q⟩ := hs
  exact ⟨V.non, H', J.os, J.bare, J.base, J.hok, rfl, q⟩
 | brk =>
  obtain ⟨_, _, _, q⟩ := hs
  exact q.elim
 | cont =>
  obtain ⟨_, _, _, q⟩ := hs
  exact q.elim
theorem initXH_of {x qual fl : Str} {st : Stmt} {f C : Addr} {fd : FuncData} {N : List Str} {k : Nat} {te : TE} (F0 : Fun K x qual st f fd) (S : FnScope N N (defScope st)) (hN : N.length = 2) (ht : TxtOk te)
  (hbody : ∀ (cdv : Value) (A : Around) (hv : Value) (outer : List Env) (s : Shared) (H : Hp), PSs (cxH P w K mg base N qual (defScope st) f cdv A hv outer s H) (defBody st) (tSeq (tDrop (tBI C (tCons (tVar 0) (tCons te tNil)))) (sXF C (tVar 0) (tVar 1) fl))) : FnH P w K mg base (k + 1) f fd N (spXI C fl) := by
 refine fnH_of F0 S (fun vs H Q E h => ?_) (fun cdv A hv outer s H vs Q h => ?_)
 ·obtain ⟨e, i, rfl, _⟩ := h
  exact hN.symm
 ·obtain ⟨e, i, rfl, x, he, q⟩ := h
  refine ⟨_, hbody cdv A hv outer s H, ?_⟩
  match N, hN with
  | [n0, n1], _ =>
   show tDrop (tBI C (tCons (tVar 0) (tCons te tNil))) _ _ _
   refine ⟨.ref e, rfl, ?_⟩
   refine ht _ _ _ i rfl x fun z => ?_
   exact ⟨e, .str z, rfl, he, .int i, rfl, .ref e, rfl, e, rfl, he, q⟩
end
section
variable {X : Cx}
theorem madeH_run {k : Nat} {C f : Addr} {fd : FuncData} {ps : List Str} {fl : Str} {A0 : Around} {hv : Value} {pins : List (Addr × Obj)} {σ : L2.St} {H : Hp} {s : Shared} {i : Int} {u : Value} {Q : Value -> Shared -> Prop} (hA : X.A = A0.mark (some hv)) (M : XInit X.K C f) (F : FnH X.prog X.w X.K X.mg X.base k f fd ps (spXI C fl)) (hlp : ps.length = 2) (hr : Room (k + 1) A0) (hb : L2.Binds X.K fd ps [])
  (I : L2.Inv X pins σ H s) (r : L2.RelV (.int i) u) (hx : XI i)
  (q : ∀ (e a t : Addr) (s1 : Shared), s.heap.objs.size <= e -> H a = none -> L2.Inv X pins σ (upd H a (.xd [(fl, .int i)])) s1 -> s1.heap.get? e = some ⟨.ref C, some a, .fields #[.ref t, .none, .none, .none, .bool false, .none], #[]⟩ -> upd H a (.xd [(fl, .int i)]) e = none -> Q (.ref e) s1) :
  wpAny (model X.prog X.w) X.A (call (.ref C) [u]) Q X.xe s := by
 obtain ⟨bm, N, nm, qn, bs, hdct, sn, sub, ab, col, dd, k0, k1, k2, k3, k5, hC, T⟩ := exc_obj1 I.kIn M.ex
 have hl : sizeLine = 16777216 := sizeLine_eq
 have go : ∀ h' e, Heap.MadeExcOf s.heap h' e (.ref C) [u] -> s.heap.objs.size <= e -> wpAny (model X.prog X.w) (X.A.under (.builtin "type.__call__" ⟨[.ref C, u], []⟩)) (call (.ref f) [.ref e, u]) (fun r s' => r = .none /\ Q (.ref e) s') X.xe { s with heap := h' } := by
  intro h' e hm hsz
  obtain ⟨t0, he, _, _⟩ := hm.there
  have hn : H e = none := I.hok.fresh hsz
  have I2 : L2.Inv X pins σ (upd H e (.ext (ExO C e none))) { s with heap := h' } := I.laid (t' := s.toks) hm.keeps hsz (exo_ok ⟨t0, he⟩)
  have hq : spXI C fl [.ref e, .int i] (upd H e (.ext (ExO C e none))) (fun v H' => v = .non /\ ∃ a, upd H e (.ext (ExO C e none)) a = none /\ a ≠ e /\ H' = upd (upd (upd H e (.ext (ExO C e none))) a (.xd [(fl, .int i)])) e (.ext (ExO C e (some a)))) E0 :=
   ⟨e, i, rfl, hx, a0w, fun d hd ne => ⟨rfl, d, hd, ne, rfl⟩⟩
  have r2 : Vals [V.ref e, .int i] [Value.ref e, u] := .cons rfl (.cons r .nil)
  have e0 := I2.env0
  rw [hA] at e0
  have e0' : Env0 X.prog X.w X.K X.mg X.base A0 X.stack { s with heap := h' } (upd H e (.ext (ExO C e none))) := ⟨e0.frames, e0.mod, e0.bs, e0.bsz, e0.funs, e0.frf, e0.hok, e0.bare⟩
  have run := F (A0.under (.builtin "type.__call__" ⟨[.ref C, u], []⟩)) hv X.stack _ _ ⟨[Value.ref e, u], []⟩ [Value.ref e, u] _ _ (hr.make C [u] []) (e0'.make C [u] []) (hb _ [Value.ref e, u] I2.kIn (by rw [hlp]; rfl)) r2 hq
  rw [hA]
  refine wpAny_call (codeAny_mono run fun r s' hq' => ?_)
  cases r with
  | error e => exact (show False from hq').elim
  | ok fl' =>
   cases fl' with
   | ret u' =>
    obtain ⟨v, H', I3, rv, ev, a, ha, ne, rfl⟩ := I2.after hq'
    subst ev
    have ha' : H a = none := by rw [upd_ne ne] at ha; exact ha
    have I4 := XF.Inv.rem' (e := e) I3 a0w (fun _ z => nomatch z) (fun _ _ z => nomatch z) (fun _ z => nomatch z) (fun _ z => nomatch z)
    have eq : rem (upd (upd (upd H e (.ext (ExO C e none))) a (.xd [(fl, .int i)])) e (.ext (ExO C e (some a)))) e = upd H a (.xd [(fl, .int i)]) := by
     funext b
     by_cases hb : b = e
     ·rw [hb, rem_same, upd_ne (Ne.symm ne), hn]
     ·rw [rem_ne hb, upd_ne hb]
      by_cases hb2 : b = a
      ·rw [hb2, a0w, a0w]
      ·rw [upd_ne hb2, upd_ne hb2, upd_ne hb]
    rw [eq] at I4
    obtain ⟨⟨t1, he1⟩, _, _⟩ := (show ObjOk X.prog X.w _ s'.heap e (.ext (ExO C e (some a))) from I3.hok e _ a0w)
    exact ⟨rv, q e a t1 s' hsz ha' I4 he1 (by rw [upd_ne (Ne.symm ne)]; exact hn)⟩
   | next => exact False.elim hq'
   | brk => exact False.elim hq'
   | cont => exact False.elim hq'
 obtain ⟨hp, g, d, t, os⟩ := s
 exact call_init PySem.F.excBase_ValueError T I.kIn hC M.init M.fn (by simp only [List.length_cons, List.length_nil]; omega) go
end
end XF
namespace XF
open PySem PySem.Spec PySem.W PySem.Calls PyProof.Rows L2
theorem entry_unchain : entryFor table "proto.unchain" = some Builtin.«proto.unchain» := entryFor_of_tree (by kernel_rfl)
section
variable {prog : Program} {w : World} {A : Around} {E : Value -> Shared -> Prop} {env : Env}
theorem raiseNew_held {e ea a t : Addr} {c : Value} {oe : Obj} {vs : Array Value} {s : Shared} {Q : Flow -> Shared -> Prop} (hh : A.handled = some (.ref ea)) (hne : ea ≠ e) (hea : s.heap.get? ea = some oe) (hd : oe.data = .fields vs) (h2 : vs[2]? = some .none)
  (he : s.heap.get? e = some ⟨c, some a, .fields #[.ref t, .none, .none, .none, .bool true, .none], #[]⟩)
  (hE : E (.ref e) { s with heap := s.heap.update e (Obj.mapFields (·.setIfInBounds 2 (.ref ea))) }) : wpAny (model prog w) A (raiseNew (.ref e) : Sem Flow) Q E s := by
 unfold raiseNew
 refine wpAny_bind (wpAny_handled ?_)
 rw [hh]
 dsimp only
 rw [if_pos (show (Value.ref ea != Value.ref e) = true from by simp [hne])]
 refine wpAny_bind (wpAny_holding (wpAny_runValue (codeAny_builtin entry_unchain ?_)))
 unfold Builtin.«proto.unchain»
 dsimp only
 refine wpAny_bind (wpAny_field hea hd h2 ?_)
 rw [if_pos (show (Value.none == Value.none) = true from rfl)]
 refine wpAny_bind (wpAny_pure (wpAny_pure ?_))
 show wpAny _ _ (setField (.ref e) 2 (.ref ea) >>= fun _ => throw (.ref e)) _ _ _
 exact wpAny_bind (wpAny_setField (x := .ref ea) (i := 2) he rfl (by show 2 < 6; decide) (wpAny_throw hE))

variable {nm q : Str} {C N : Addr} {bs bm : List Value} {hdct : Bool} {sn : List Str} {sub : List Value} {ab : Bool} {col : Option Bool} {dd : Option Addr} {k0 k1 k2 k3 k5 : Option Value} {newId : String}
theorem raise_from {s : Shared} {x c : Sem Value} {ea : Addr} {Q : Flow -> Shared -> Prop} (hbase : bm.contains (.type "BaseException") = true) (hh : A.handled = some (.ref ea))
  (hc : ∀ s1 (Q' : Value -> Shared -> Prop), Q' .none s1 -> wpAny (model prog w) A c Q' E s1)
  (h : wpAny (model prog w) A x (fun v s₁ => ∃ e a t oe vs, v = .ref e /\ s₁.heap.get? C = some (excClassObj nm q C N bs bm hdct sn sub ab col dd k0 k1 k2 k3 k5 newId) /\ s₁.heap.get? e = some ⟨.ref C, some a, .fields #[.ref t, .none, .none, .none, .bool false, .none], #[]⟩ /\ ea ≠ e /\ C ≠ e /\
   s₁.heap.get? ea = some oe /\ oe.data = .fields vs /\ vs[2]? = some .none /\ ∀ h', h'.get? e = some ⟨.ref C, some a, .fields #[.ref t, .none, .ref ea, .none, .bool true, .none], #[]⟩ -> (∀ b, b ≠ e -> h'.get? b = s₁.heap.get? b) -> E (.ref e) { s₁ with heap := h' }) E s) :
  wpAny (model prog w) A (raiseStmt env (some x) (some c)) Q E s := by
 have hcB : (Value.ref C :: bm).contains (.type "BaseException") = true := by rw [List.contains_cons, hbase, Bool.or_true]
 unfold raiseStmt
 refine wpAny_bind (wpAny_mono h (fun v s₁ h₁ => ?_) fun _ _ x => x)
 obtain ⟨e, a, t, oe, vs, rfl, hC, he, hne, hCe, hea, hd, h2, hE⟩ := h₁
 obtain ⟨hp, g, d, tk, os⟩ := s₁
 refine wpAny_bind (wpAny_holding (hc _ _ (wpAny_bind (wpAny_pure ?_))))
 dsimp only
 repeat (first | with_reducible refine wpAny_loadPart_at he ?_ | with_reducible refine wpAny_loadPart_at hC ?_ | (with_reducible refine wpAny_isSubtype_exc hC ?_; rw [hcB]) | wp_step)
 have he0 : hp.get? e = some ⟨.ref C, some a, .fields #[.ref t, .none, .none, .none, .bool false, .none], #[]⟩ := he
 have e1 : (hp.update e (Obj.mapFields fun x => x.setIfInBounds 3 Value.none)).get? e = some ⟨.ref C, some a, .fields #[.ref t, .none, .none, .none, .bool false, .none], #[]⟩ := Heap.get?_update_self (Obj.mapFields fun x => x.setIfInBounds 3 Value.none) he0 rfl
 have e2 : ((hp.update e (Obj.mapFields fun x => x.setIfInBounds 3 Value.none)).update e (Obj.mapFields fun x => x.setIfInBounds 4 (Value.bool true))).get? e = some ⟨.ref C, some a, .fields #[.ref t, .none, .none, .none, .bool true, .none], #[]⟩ := Heap.get?_update_self (Obj.mapFields fun x => x.setIfInBounds 4 (Value.bool true)) e1 rfl
 have ot : ∀ b, b ≠ e -> ((hp.update e (Obj.mapFields fun x => x.setIfInBounds 3 Value.none)).update e (Obj.mapFields fun x => x.setIfInBounds 4 (Value.bool true))).get? b = hp.get? b := fun b n => by
  rw [Heap.get?_update_other _ _ (Ne.symm n), Heap.get?_update_other _ _ (Ne.symm n)]
 refine raiseNew_held (a := a) (t := t) (c := .ref C) hh hne ((ot ea hne).trans hea) hd h2 e2 (hE _ ?_ fun b n => ?_)
 ·exact Heap.get?_update_self (Obj.mapFields fun x => x.setIfInBounds 2 (Value.ref ea)) e2 rfl
 ·show (Heap.update _ e _).get? b = hp.get? b
  rw [Heap.get?_update_other _ _ (Ne.symm n)]
  exact ot b n
theorem raise_exec_from {s : Shared} {ex : Expr} {j : Nat} {p2 pos : Pos} {ea : Addr} {Q : Flow -> Shared -> Prop} (hbase : bm.contains (.type "BaseException") = true) (hh : A.handled = some (.ref ea))
  (h : wpAny (model prog w) A (eval ex env) (fun v s₁ => ∃ e a t oe vs, v = .ref e /\ s₁.heap.get? C = some (excClassObj nm q C N bs bm hdct sn sub ab col dd k0 k1 k2 k3 k5 newId) /\ s₁.heap.get? e = some ⟨.ref C, some a, .fields #[.ref t, .none, .none, .none, .bool false, .none], #[]⟩ /\ ea ≠ e /\ C ≠ e /\
   s₁.heap.get? ea = some oe /\ oe.data = .fields vs /\ vs[2]? = some .none /\ ∀ h', h'.get? e = some ⟨.ref C, some a, .fields #[.ref t, .none, .ref ea, .none, .bool true, .none], #[]⟩ -> (∀ b, b ≠ e -> h'.get? b = s₁.heap.get? b) -> E (.ref e) { s₁ with heap := h' }) E s) :
  wpAny (model prog w) A (exec (.Raise (some ex) (some (.Constant .none j p2)) pos) env) Q E s := by
 rw [arm_exec_Raise]
 simp only [evalOpt, Option.map]
 refine wpAny_bind (wpAny_standAt (raise_from (C := C) (nm := nm) (q := q) (N := N) (bs := bs) (bm := bm) (hdct := hdct) (sn := sn) (sub := sub) (ab := ab) (col := col) (dd := dd) (k0 := k0) (k1 := k1) (k2 := k2) (k3 := k3) (k5 := k5) (newId := newId) hbase hh (fun s1 Q' hq => ?_)
  (wpAny_bind (wpAny_mono h (fun v s₃ h₃ => wpAny_bind (wpAny_standAt (wpAny_pure h₃))) fun _ _ x => x))))
 exact wpAny_bind (Constant_none (wpAny_bind (wpAny_standAt (wpAny_pure hq))))
end
section
variable {X : Cx}
abbrev heldX (X : Cx) (pn : List (Addr × Obj)) (e : Addr) : Cx := { X with A := X.A.mark (some (.ref e)), calm := false, pn := pn }
theorem Inv.heldX {pins : List (Addr × Obj)} {σ : L2.St} {H : Hp} {s : Shared} {e : Addr} {oe : Obj} (I : L2.Inv X pins σ H s) (he : s.heap.get? e = some oe /\ H e = none /\ e ≠ X.env.locals /\ e ∉ X.fs /\ ∀ v, oe.data ≠ .cell v) : L2.Inv (XF.heldX X (X.pn ++ pins ++ [(e, oe)]) e) [] σ H s :=
 ⟨⟨I.ok.mod, I.ok.kind, I.ok.glob, I.ok.blt, I.ok.above, I.ok.inj, I.ok.has, I.ok.cab, (fun z => nomatch z), I.ok.frames, I.ok.stk, I.ok.exf, I.ok.bs, I.ok.bsz, I.ok.noex, I.ok.exfs, I.ok.funs, I.ok.frf⟩,
  I.os, I.bare, I.base, I.loc, I.cell, I.free, I.freeC, fun p hp => by
   have hp : p ∈ (X.pn ++ pins ++ [(e, oe)]) ++ [] := hp
   rw [List.append_nil] at hp
   rcases List.mem_append.mp hp with hp | hp
   ·exact I.pin p hp
   ·rw [List.mem_singleton.mp hp]; exact he, I.hok, I.len⟩
theorem Inv.unheldX {pn pins pins' : List (Addr × Obj)} {σ : L2.St} {H : Hp} {s : Shared} {e : Addr} (hd : X.calm = true -> X.A.handled = none) (hpn : ∀ p ∈ X.pn ++ pins, p ∈ pn) (I : L2.Inv (XF.heldX X pn e) pins' σ H s) : L2.Inv X pins σ H s :=
 ⟨⟨I.ok.mod, I.ok.kind, I.ok.glob, I.ok.blt, I.ok.above, I.ok.inj, I.ok.has, I.ok.cab, hd, I.ok.frames, I.ok.stk, I.ok.exf, I.ok.bs, I.ok.bsz, I.ok.noex, I.ok.exfs, I.ok.funs, I.ok.frf⟩,
  I.os, I.bare, I.base, I.loc, I.cell, I.free, I.freeC, fun p hp => I.pin p (List.mem_append_left _ (hpn p hp)), I.hok, I.len⟩
theorem ps_raiseH {k : Nat} {x fl : Str} {C f ea : Addr} {oe : Obj} {vs : Array Value} {pn : List (Addr × Obj)} {fd : FuncData} {ps : List Str} {Eh : Option Addr -> Hp -> Prop} {np cpos pos p2 : Pos} {j : Nat} {e : Expr} {ta : TA} (hR : RaisesF X C Eh) (M : XInit X.K C f) (F : FnH X.prog X.w X.K X.mg X.base k f fd ps (spXI C fl)) (hlp : ps.length = 2) (hr : Room (k + 1) X.A) (hb : L2.Binds X.K fd ps [])
  (hpn : ∀ p ∈ X.pn, p ∈ pn) (hin : (ea, oe) ∈ pn) (hod : oe.data = .fields vs) (ho2 : vs[2]? = some .none)
  (hg : Gl X x) (hm : X.mg x = some (.ref C)) (ha : PA (XF.heldX X pn ea) [e] ta) (hdb : (x == ("__debug__" : Str)) = false := by decide)
  (he : starEach [e] X.env = (false, eval e X.env) :: starEach [] X.env := by rfl) :
  PS (XF.heldX X pn ea) (.Raise (some (.Call (.Name x np) [e] [] cpos)) (some (.Constant .none j p2)) pos) (fun _ σ H => ta σ H fun vs H1 => ∃ i, vs = [.int i] /\ XI i /\ ∀ a, H1 a = none -> Eh (some a) (upd H1 a (.xd [(fl, .int i)]))) := by
 intro pins s σ H D I h
 obtain ⟨bm, N, nm, qn, bs, hdct, sn, sub, ab, col, dd, k0, k1, k2, k3, k5, hC, T⟩ := exc_obj1 I.ok.mod.kin M.ex
 have hhd : (XF.heldX X pn ea).A.handled = some (.ref ea) := rfl
 refine raise_exec_from (C := C) (nm := nm) (q := qn) (N := N) (bs := bs) (bm := bm) (hdct := hdct) (sn := sn) (sub := sub) (ab := ab) (col := col) (dd := dd) (k0 := k0) (k1 := k1) (k2 := k2) (k3 := k3) (k5 := k5) (newId := "ValueError.__new__") (T.hasType PySem.F.excBase_ValueError.hasBase) hhd ?_
 refine wpAny_Call_Name_kw (ld_glob I hg hm ?_ hdb)
 refine PySem.W.callWith_K (h₀ := X.base) I.ok.mod.kin M.kp (thn (ha cpos pins s σ H _ I h) fun us s1 ⟨vs', H1, I1, r, i, ev, hx, q⟩ => ⟨I1.kIn, ?_⟩) he rfl
 subst ev
 obtain ⟨u, rfl, ru⟩ := vals1 r
 have J1 : L2.Inv X [] σ H1 s1 := Inv.unheldX (fun _ => hr.hd) (fun p hp => hpn p (by simpa using hp)) I1
 refine madeH_run (X := XF.heldX X pn ea) (A0 := X.A) (hv := .ref ea) rfl M F hlp hr hb I1 ru hx fun e2 a t s2 hsz ha0 I2 hge hn => ?_
 have J2 : L2.Inv X [] σ (upd H1 a (.xd [(fl, .int i)])) s2 := Inv.unheldX (fun _ => hr.hd) (fun p hp => hpn p (by simpa using hp)) I2
 have new : s1.heap.get? e2 = none := Heap.get?_none_of_le hsz
 have lt : ∀ {b : Addr} {o : Obj}, s1.heap.get? b = some o -> b ≠ e2 := fun {b o} z w => by rw [w, new] at z; cases z
 have p1 := (I1.pin (ea, oe) (List.mem_append_left _ hin)).1
 have p2' := (I2.pin (ea, oe) (List.mem_append_left _ hin)).1
 refine ⟨e2, a, t, oe, vs, rfl, I2.bk _ _ hC, hge, lt p1, lt (I1.bk _ _ hC), p2', hod, ho2, fun h' z k => ?_⟩
 have ne : ∀ {b : Addr} {u : HO}, upd H1 a (.xd [(fl, .int i)]) b = some u -> b ≠ e2 := fun z w => by rw [w, hn] at z; cases z
 have J3 : L2.Inv X [] σ (upd H1 a (.xd [(fl, .int i)])) { s2 with heap := h' } := J2.call' (ch := [e2]) rfl
  ⟨fun b o q _ _ hx => (k b fun w => hx (w ▸ List.mem_singleton_self _)).trans q, fun b o q _ _ hx => ⟨o.slots, (k b fun w => hx (w ▸ List.mem_singleton_self _)).trans q⟩, fun b o q n _ => n, fun b o q hx => ⟨o, (k b fun w => hx (w ▸ List.mem_singleton_self _)).trans q⟩, fun b xs q => q, fun b o u q => q, fun b ps q => ⟨#[], by rw [Array.append_empty]; exact q⟩⟩
  (fun b o q => (J2.hok b o q).stay (fun c v hc r => (k c (by
   rcases hc with rfl | hc
   ·exact ne q
   ·exact ne hc)).trans r) (fun _ r => r) fun _ _ r => r) J2.bare fun b hb' => by
   rw [List.mem_singleton.mp hb']
   refine ⟨.inr (Nat.le_trans J1.sz hsz), ?_, fun y c q => ?_, fun p hp => ?_⟩
   ·obtain ⟨m, ⟨o, _, _, ho, _⟩, _⟩ := J1.loc
    exact Ne.symm (lt ho)
   ·obtain ⟨v, o, ho, _⟩ := J1.cell y c q
    exact lt ho
   ·exact lt (J1.pin p hp).1
 exact hR [] σ H1 _ s1 _ e2 t _ _ J1 new J3 z rfl rfl rfl rfl (fun w => nomatch w) hn (q a ha0)
end
end XF
namespace XF
open PySem PySem.Spec PySem.W PySem.Calls PyProof.Rows L2
section
variable {X : Cx} {E : XK} {e o : Expr} {es : List Expr} {pos apos : Pos}
def XP (X : Cx) (E : XK) (pins : List (Addr × Obj)) (σ : L2.St) : Value -> Shared -> Prop := fun x s' => ∃ H1 s1, L2.Inv X pins σ H1 s1 /\ CXE X.prog X.w X.stack H1 s1 E x s'
def PEx (X : Cx) (E : XK) (e : Expr) (t : TE) : Prop := ∀ (pins : List (Addr × Obj)) (s : Shared) (σ : L2.St) (H : Hp) (Q : L2.VK), L2.Inv X pins σ H s -> t σ H Q -> wpAny (model X.prog X.w) X.A (eval e X.env) (L2.EP X pins σ Q) (XP X E pins σ) s
def PAx (X : Cx) (E : XK) (es : List Expr) (t : TA) : Prop := ∀ (pos : Pos) (pins : List (Addr × Obj)) (s : Shared) (σ : L2.St) (H : Hp) (Q : List V -> Hp -> Prop), L2.Inv X pins σ H s -> t σ H Q ->
 wpAny (model X.prog X.w) X.A (spliced (backTo pos (starEach es X.env))) (fun us s' => ∃ xs H', L2.Inv X pins σ H' s' /\ Vals xs us /\ Q xs H') (XP X E pins σ) s
theorem pex_of {t : TE} (h : PE X.nox e t) : PEx X E e t := fun pins s σ H Q I hq =>
 wpAny_mono (h pins s σ H Q (I.wish _) hq) (fun v s' ⟨x, H', I', r, q⟩ => ⟨x, H', I'.unwish, r, q⟩) fun _ _ z => (show False from z).elim
theorem pax_nil : PAx X E [] tNil := fun _ _ _ _ H Q I h => Calls.spliced_nil ⟨[], H, I, .nil, h⟩
theorem pax_cons {te : TE} {t : TA} (ha : PEx X E e te) (hr : PAx X E es t) (hs : starEach (e :: es) X.env = (false, eval e X.env) :: starEach es X.env := by rfl) : PAx X E (e :: es) (tCons te t) := by
 intro pos pins s σ H Q I h
 rw [hs]
 show wpAny _ _ (spliced ((false, eval e X.env) :: backTo pos (starEach es X.env))) _ _ s
 refine Calls.spliced_cons (thn (ha pins s σ H _ I h) fun u s1 ⟨x, H1, I1, r1, q1⟩ => ?_)
 exact thn (hr pos pins s1 σ H1 _ I1 q1) fun us s2 ⟨xs, H2, I2, r2, q2⟩ => ⟨x :: xs, H2, I2, .cons r1 r2, q2⟩
theorem pex_tup {x1} {t : TA} (h : PAx X E es t) : PEx X E (.Tuple es x1 pos) (tTup t) := by
 intro pins s σ H Q I hq
 refine wpAny_Tuple_spliced (thn (h pos pins s σ H _ I hq) fun us s1 ⟨xs, H1, I1, r, z, q⟩ => ⟨by rw [<- r.length]; exact z, ?_⟩)
 have hf : H1 s1.heap.objs.size = none := I1.hok.fresh (Nat.le_refl _)
 refine ⟨.ref s1.heap.objs.size, upd H1 s1.heap.objs.size (.tup xs), I1.laid (t' := s1.toks) (fun b u e => Heap.get?_push_of_some _ e) (Nat.le_refl _) ?_, rfl, q _ hf⟩
 exact ⟨z, us, r, ⟨_, Heap.get?_push_size _ rfl, rfl, _, rfl⟩⟩
theorem pex_meth {pl : Sem Bool} {k : Nat} {C f : Addr} {m : Str} {fd : FuncData} {ps : List Str} {sp : Sp} {ta : TE} {t : TA} (he : PE X.nox o ta) (c : Cls X.K C) (hm : Meth X.K C m f) (F : FnOk X.prog X.w X.K X.mg X.base (CXE X.prog X.w) k f fd ps sp) (hr : Room k X.A) (hb : L2.Binds X.K fd ps []) (ha : PA X.nox (e :: es) t)
  (hst : starEach (e :: es) X.env = (false, eval e X.env) :: starEach es X.env := by rfl) (hpl : (backTo pos (starEach es X.env)).any (·.1) = false := by rfl)
  (ht : eval (.Call (.Attribute o m apos) (e :: es) [] pos) X.env = (do
   let ov <- eval o X.env
   standAt apos.atName
   let (f, first) <- holding [ov] (getMethod ov m pl)
   callWith pos f first (backTo pos (starEach (e :: es) X.env)) (backToKw pos (keywordEach [] X.env))) := by rfl) :
  PEx X E (.Call (.Attribute o m apos) (e :: es) [] pos) (tMeth C m sp [] E ta t) := by
 intro pins s σ H Q I h
 refine PySem.W.methodCall_KW (pl := pl) (wpAny_mono (he pins s σ H _ (I.wish _) h) (fun u s1 ⟨x, H1, I1, rx, a, dx, fs, ex, ea, l, q⟩ => ?_) fun _ _ z => (show False from z).elim) ht
 subst ex
 obtain rfl : u = Value.ref a := rx
 refine getmeth_ok I1.unwish ea c hm l ?_
 refine PySem.W.callWith_K (first := [.ref a]) (h₀ := X.base) I.ok.mod.kin hm.kp (wpAny_mono (ha pos pins s1 σ H1 _ I1 q) (fun us s2 ⟨vs, H2, I2', r, q2⟩ => ⟨I2'.kIn, ?_⟩) fun _ _ z => (show False from z).elim) hst hpl
 have I2 := I2'.unwish
 have r2 : Vals (V.ref a :: (vs ++ [])) (Value.ref a :: (us ++ [])) := .cons rfl (by rw [List.append_nil, List.append_nil]; exact r)
 have hl : (Value.ref a :: us ++ []).length = ps.length := by
  have := r2.length
  rw [F.len _ _ _ _ q2] at this
  exact this.symm
 refine wpAny_call (codeAny_mono (F.run X.A X.stack s2 H2 ⟨Value.ref a :: us, []⟩ (Value.ref a :: (us ++ [])) _ Q E hr I2.env0 (show BindsTo s2 fd ⟨Value.ref a :: us, []⟩ (ps.zip (Value.ref a :: (us ++ []))) from hb s2 (Value.ref a :: us) I2.kIn hl) r2 q2) fun r s' hq => ?_)
 cases r with
 | error e => exact ⟨H2, s2, I2, hq⟩
 | ok fl =>
  cases fl with
  | ret u => exact I2.after hq
  | next => exact False.elim hq
  | brk => exact False.elim hq
  | cont => exact False.elim hq
theorem pex_el {t1 t2 : TE} (h1 : PEx X E e t1) (h2 : PEx X E e t2) : PEx X E e (fun σ H Q => t1 σ H Q \/ t2 σ H Q) := fun pins s σ H Q I h => h.elim (h1 pins s σ H Q I) (h2 pins s σ H Q I)
def tCanX (X : Cx) (E : XK) (e : Expr) : TE := fun σ H Q => ∃ t, PEx X E e t /\ t σ H Q
theorem pex_can : PEx X E e (tCanX X E e) := fun pins s σ H Q I ⟨_, p, h⟩ => p pins s σ H Q I h
def tTryA (X : Cx) (C : Addr) (i : Nat) (e : Expr) (suite : List Stmt) : TS := fun D σ H => ∃ Ex : XK,
 tCanX X Ex e σ H (fun v H1 => D.nx (σ.set i (some v)) H1) /\
 ∀ c d H', Ex c d H' -> c = .ref C /\ d = none /\ ∀ pn ea oe vs, (∀ p ∈ X.pn, p ∈ pn) -> (ea, oe) ∈ pn -> oe.data = .fields vs -> vs[2]? = some .none -> tCan (heldX X pn ea) suite D σ H'
theorem ps_try_asg {x n : Str} {C : Addr} {i : Nat} {e : Expr} {suite : List Stmt} {b0 : Stmt} {np hp pos xp apos : Pos} (hK : excIn1 X.K C VE "ValueError.__new__" = true)
  (hown : ∀ ea, PassesOwnAt (model X.prog X.w) (X.A.mark (some (.ref ea))) X.A X.env X.xe) (hcalm : X.calm = true)
  (hst : X.stack = X.env :: X.outer) (hfr : X.env.frame = some X.env.locals) (hg : Gl X x) (hm : X.mg x = some (.ref C)) (hN : X.N.Nodup) (hi : X.N[i]? = some n) (hx : Loc X.env.scope n)
  (hs : swapsWith e (some (.Name n xp)) apos.line X.env = pure false := by rfl) (hf : X.fn n = true \/ X.env.scope.names.lookup n = some .local := by first | exact .inl rfl | exact .inr rfl | assumption) (hd : (x == ("__debug__" : Str)) = false := by decide) :
  PS X (.Try [.Assign [.Name n xp] e apos] [.ExceptHandler (some (.Name x np)) none (b0 :: suite) hp] [] [] pos) (tTryA X C i e (b0 :: suite)) := by
 intro pins s σ H D I ⟨Ex, hb, hsu⟩
 refine wpAny_Try_except ?_
 have hw : wpAny (model X.prog X.w) X.A (execs [.Assign [.Name n xp] e apos] X.env) (fun f s' => f = .next /\ ∃ σ' H', L2.Inv X pins σ' H' s' /\ D.nx σ' H') (XP X Ex pins σ) s := by
  refine wpAny_execs_cons (wpAny_Assign_Name (wpAny_mono (pex_can pins s σ H _ I hb) (fun v s1 ⟨y, H1, I1, r1, q1⟩ => ?_) fun _ _ z => z) hs)
  exact store_ok I1 hN hi hx r1 (fun s2 I2 => wpAny_execs_nil ⟨rfl, _, H1, I2, q1⟩) hf
 refine wpAny_mono hw (fun f s1 h1 => ?_) (fun e s1 h1 => ?_)
 ·obtain ⟨rfl, σ', H', I', q⟩ := h1
  exact wpAny_execs_nil (show SP X pins D .next s1 from ⟨σ', H', I', q⟩)
 ·obtain ⟨H1, s0, I0, ea, C', t, dx, H', B0, rfl, F⟩ := h1
  obtain ⟨hc, hdn, hsuite⟩ := hsu _ _ _ F.wish
  cases hc
  subst hdn
  obtain ⟨flv, fl⟩ := F.fl
  rw [hst] at fl
  refine looks_on (I.ok.frames.trans (by rw [hst])) hfr fl F.dict fun h4 hheld4 dd4 hsm4 => ?_
  refine lands (s := { s1 with heap := h4 }) hheld4 dd4 fun h5 hheld5 dd5 hsm5 => ?_
  have key : ∀ {h6 : Heap}, FlyF B0 (X.env :: X.outer) ea (.ref C) (.ref t) .none h6 -> DictIs h6 ea none -> s1.heap.UpToSlots h6 -> ∃ oe vs, oe.cls = .ref C /\ h6.get? ea = some oe /\ oe.data = .fields vs /\ vs[2]? = some .none /\ L2.Inv (heldX X (X.pn ++ pins ++ [(ea, oe)]) ea) [] σ H' { s1 with heap := h6 } := by
   intro h6 hfl6 dd6 hsm6
   have I6 := fly_on I0 F hfl6.1 hsm6
   obtain ⟨oe, vs, hoe, hoec, hoed, _⟩ := hfl6.first
   obtain ⟨o2, vs2, q2, _, q4, q5⟩ := dd6
   rw [hoe] at q2; cases q2
   rw [hoed] at q4; cases q4
   refine ⟨oe, vs, hoec, hoe, hoed, q5 rfl, Inv.heldX I6 ⟨hoe, ?_, ?_, ?_, fun v z => by rw [hoed] at z; cases z⟩⟩
   ·cases e : H' ea with
    | none => rfl
    | some o =>
     obtain ⟨ob, q⟩ := F.trk _ _ e
     rw [hfl6.2.1] at q; cases q
   ·rintro rfl
    obtain ⟨m, ⟨o', es, ep, ho', hd', _⟩, _⟩ := I6.loc
    have ho' : h6.get? X.env.locals = some o' := ho'
    rw [hoe] at ho'; cases ho'; rw [hoed] at hd'; cases hd'
   ·intro hb'
    obtain ⟨_, o', ho', hd'⟩ := I6.funs.mem hb'
    have ho' : h6.get? ea = some o' := ho'
    rw [hoe] at ho'; cases ho'
    exact hd' _ hoed
  obtain ⟨ob, _, hobc, hob, _, _, I5⟩ := key hheld5 dd5 (hsm4.trans hsm5)
  obtain ⟨tl, N, nm, q, bs, hdct, sn, sub, ab, col, dd, k0, k1, k2, k3, k5, hC, T⟩ := exc_obj1 I.ok.mod.kin hK
  refine wpAny_handleBy_cons (codeAny_handlers_test (ld_glob I5 hg hm ?_ hd)) (by intro q; cases q)
  refine wpAny_excMatches_sub_self (I5.bk _ _ hC) hob hobc (T.hasType PySem.F.excBase_ValueError.hasBase) (codeAny_handlers_suite ?_)
  refine lands (s := { s1 with heap := h5 }) hheld5 dd5 fun h6 hfl6 dd6 hsm6 => ?_
  obtain ⟨oe, vs, hoec, hoe, hoed, ho2, I6⟩ := key hfl6 dd6 ((hsm4.trans hsm5).trans hsm6)
  refine wpAny_mono (pss_can [] _ _ H' D I6 (hsuite _ ea oe vs (fun p hp => by simp [hp]) (by simp) hoed ho2)) (fun f s10 z => ?_) (fun x s' z => hown ea x s' z)
  have un : ∀ {σ' : L2.St} {H2 : Hp}, L2.Inv (heldX X (X.pn ++ pins ++ [(ea, oe)]) ea) [] σ' H2 s10 -> L2.Inv X pins σ' H2 s10 := fun J => Inv.unheldX I.ok.hd (fun p hp => List.mem_append_left _ hp) J
  cases f with
  | next => obtain ⟨σ', H2, J, q⟩ := z; exact ⟨σ', H2, un J, q⟩
  | brk => obtain ⟨σ', H2, J, q⟩ := z; exact ⟨σ', H2, un J, q⟩
  | cont => obtain ⟨σ', H2, J, q⟩ := z; exact ⟨σ', H2, un J, q⟩
  | ret u => obtain ⟨v, σ', H2, J, r, q⟩ := z; exact ⟨v, σ', H2, un J, r, q⟩
end
end XF
namespace DL
open PySem PySem.Spec PyProof.Rows L2
def PDx (X : Cx) (E : XK) (e : Expr) (f : DS -> M D) : Prop :=
 ∃ t, XF.PEx X E e t /\ ∀ {Hr : Hp} (δ : DS) (O : List Addr) (σ : St) (H : Hp) (Q : VK), Ev X.K Hr O H σ δ -> ok (GS (GX X.mg E) Hr) (f δ) (fun d => ∀ v H', Same H H' -> Rep X.K O H' v d -> Q v H') -> t σ H Q
def PDAx (X : Cx) (E : XK) (es : List Expr) (f : DS -> M (List D)) : Prop :=
 (∀ δ ds, f δ = some (.ok ds) -> ds.length = es.length) /\ ∃ t, XF.PAx X E es t /\ ∀ {Hr : Hp} (δ : DS) (O : List Addr) (σ : St) (H : Hp) (Q : List V -> Hp -> Prop), Ev X.K Hr O H σ δ -> ok (GS (GX X.mg E) Hr) (f δ) (fun ds => ∀ vs H', Same H H' -> Reps X.K O H' vs ds -> Q vs H') -> t σ H Q
section
variable {X : Cx} {E : XK} {e o : Expr} {es : List Expr} {f g : DS -> M D} {fa : DS -> M (List D)} {pos apos : Pos}
theorem pdx_of (h : PD X.nox (fun _ _ => False) e f) : PDx X E e (nX f) := by
 obtain ⟨t, p, h⟩ := h
 exact ⟨t, XF.pex_of p, fun δ O σ H Q E0 k => h δ O σ H Q E0 (ok_GS0 (ok_nX k))⟩
theorem pdax_nil : PDAx X E [] dNil := ⟨fun δ ds h => by cases h; rfl, _, XF.pax_nil, fun δ O σ H Q E0 k => k [] H (Same.refl H) .nil⟩
theorem pdax_cons (ha : PDx X E e f) (hr : PDAx X E es fa) (hs : starEach (e :: es) X.env = (false, eval e X.env) :: starEach es X.env := by rfl) : PDAx X E (e :: es) (dCons f fa) := by
 obtain ⟨t, p, ha⟩ := ha
 obtain ⟨hl, u, q, hr⟩ := hr
 refine ⟨fun δ ds h => ?_, _, XF.pax_cons p q hs, fun δ O σ H Q E0 k => ?_⟩
 ·unfold dCons at h
  match e1 : f δ, h with
  | some (.ok x), h =>
   match e2 : fa δ, h with
   | some (.ok xs), h =>
    rw [thn_some, thn_some] at h
    cases h
    rw [List.length_cons, List.length_cons, hl δ xs e2]
 ·refine ha δ O σ H _ E0 (a0j (a0o k) fun d z v H1 s1 r => ?_)
  exact hr δ O σ H1 _ (E0.same s1) (a0j (a0o z) fun ds y vs H2 s2 rs => y (v :: vs) H2 (s1.trans s2) (.cons (r.same s2) rs))
theorem pdx_tup {x1} (h : PDAx X E es fa) : PDx X E (.Tuple es x1 pos) (dTup fa) := by
 obtain ⟨_, t, p, h⟩ := h
 refine ⟨_, XF.pex_tup p, fun δ O σ H Q E0 k => ?_⟩
 refine h δ O σ H _ E0 (a0j (a0o k) fun ds z vs H1 s1 rs => ?_)
 by_cases hz : small ds.length = true
 ·rw [if_pos hz] at z
  exact ⟨by rw [rs.length]; exact a1e hz, fun p hp => z _ _ (s1.trans (a1h hp)) (rep_newT hp rs)⟩
 ·rw [if_neg hz] at z
  exact z.elim
theorem pdx_el (h1 : PDx X E e f) (h2 : PDx X E e g) : PDx X E e (dEl f g) := by
 obtain ⟨t1, p1, h1⟩ := h1
 obtain ⟨t2, p2, h2⟩ := h2
 refine ⟨_, XF.pex_el p1 p2, fun δ O σ H Q E0 k => ?_⟩
 cases hf : f δ with
 | none =>
  have e : dEl f g δ = g δ := by unfold dEl; rw [hf]
  rw [e] at k
  exact .inr (h2 δ O σ H Q E0 k)
 | some r =>
  have e : dEl f g δ = f δ := by unfold dEl; rw [hf]
  rw [e] at k
  exact .inl (h1 δ O σ H Q E0 k)
theorem pdx_meth {pl : Sem Bool} {k n : Nat} {nm m : Str} {F : List D -> M D} (h : DefMX X.prog X.w X.K X.mg X.base k nm m n F) (hr : Room k X.A) (hn : (e :: es).length + 1 = n) (ho : PD X.nox (fun _ _ => False) o f) (ha : PDA X.nox (fun _ _ => False) (e :: es) fa)
  (hst : starEach (e :: es) X.env = (false, eval e X.env) :: starEach es X.env := by rfl) (hpl : (backTo pos (starEach es X.env)).any (·.1) = false := by rfl)
  (ht : eval (.Call (.Attribute o m apos) (e :: es) [] pos) X.env = (do
   let ov <- eval o X.env
   standAt apos.atName
   let (f, first) <- holding [ov] (getMethod ov m pl)
   callWith pos f first (backTo pos (starEach (e :: es) X.env)) (backToKw pos (keywordEach [] X.env))) := by rfl) :
  PDx X E (.Call (.Attribute o m apos) (e :: es) [] pos) (dMe nm m F (nX f) (fun δ => noX (fa δ))) := by
 obtain ⟨C, f0, fd, ps, hN, c, hm, F1, hb⟩ := h.ex
 obtain ⟨t, p, ho⟩ := ho
 obtain ⟨hl, ta, pa, ha⟩ := ha
 refine ⟨_, XF.pex_meth (pl := pl) p c hm F1 hr hb pa hst hpl ht, @fun Hr δ O σ H Q E0 k => ?_⟩
 refine ho δ O σ H _ E0 (ok_GS0 (a0j (ok_nX (a0o k)) fun x z v H1 s1 rx => ?_))
 cases hat : attrs nm x with
 | none => rw [hat] at z; exact z.elim
 | some r =>
  rw [hat] at z
  have z1 : ok _ (if noFld m r = true then (noX (fa δ)).thn fun ds => F (x :: ds) else none) _ := z
  clear z
  by_cases hf : noFld m r = true
  ·rw [if_pos hf] at z1
   obtain ⟨a, C', dx, fs, es', rfl, rfl, hN', h1, hn1, hk, rr⟩ := attrs_inv rx hat
   have hC : C' = C := by
    have := hN'.symm.trans hN
    simp at this
    exact this
   subst hC
   refine ⟨a, dx, fs, rfl, h1, noFld_look hk hf, ?_⟩
   have k1 := ok_noX (a0o z1)
   refine ha δ O σ H1 _ (E0.same s1) ?_
   cases e1 : fa δ with
   | none => rw [e1] at k1; exact k1.elim
   | some r =>
    rw [e1] at k1
    cases r with
    | error y => exact k1.elim
    | ok ds =>
     refine fun vs H2 s2 rs => ?_
     refine ⟨O, _ :: ds, ?_, ((E0.same s1).same s2).oo, .cons (rx.same s2) (by rw [List.append_nil]; exact rs), ok_weak (a0j k1 fun d z v H3 s3 r => z v H3 ((s1.trans s2).trans s3) r) fun y q H3 s3 => q H3 (((E0.same s1).same s2).root.trans s3)⟩
     rw [List.append_nil, List.length_cons, rs.length, hl δ ds e1]
     exact hn
  ·rw [if_neg hf] at z1; exact z1.elim
end
structure XDefH (P : Program) (w : World) (K : PySem.W.Frag) (mg : Str -> Option Value) (base : Heap) (k : Nat) (x fl : Str) (C : Addr) : Prop where
 ok : ∃ (f : Addr) (fd : FuncData) (ps : List Str), XF.XInit K C f /\ FnOk P w K mg base CX0 k f fd ps (XF.spXI C fl) /\ XF.FnH P w K mg base k f fd ps (XF.spXI C fl) /\ ps.length = 2 /\ L2.Binds K fd ps []
theorem XDefH.x {P : Program} {w : World} {K : PySem.W.Frag} {mg : Str -> Option Value} {base : Heap} {k : Nat} {x fl : Str} {C : Addr} (h : XDefH P w K mg base k x fl C) : XDef P w K mg base k x fl C := by
 obtain ⟨f, fd, ps, a, b, _, _, c⟩ := h.ok
 exact ⟨f, fd, ps, a, b, c⟩
def gTryA (x : Str) (i : Nat) (f : DS -> M D) (gs : DS -> M Out) : DS -> M Out := fun δ => match f δ with
 | none => none
 | some (.ok d) => M.ret (.nx (δ.set i (.vl d)))
 | some (.error y) => match y.flds with
  | [] => if y.cls = x then gs δ else none
  | _ => none
section
variable {X : Cx} {G : XD -> Hp -> Prop} {e : Expr} {fa : DS -> M (List D)} {f : DS -> M D} {pos : Pos}
theorem pd_raiseH {k : Nat} {x fl : Str} {C ea : Addr} {oe : Obj} {vs : Array Value} {pn : List (Addr × Obj)} {np cpos p2 : Pos} {j : Nat} {E : XK} (h : XDefH X.prog X.w X.K X.mg X.base k x fl C) (hR : XF.RaisesF X C (fun d H => E (.ref C) d H)) (hG : ∀ x H, G x H -> GX X.mg E x H) (hr : Room (k + 1) X.A)
  (hpn : ∀ p ∈ X.pn, p ∈ pn) (hin : (ea, oe) ∈ pn) (hod : oe.data = .fields vs) (ho2 : vs[2]? = some .none)
  (hg : Gl X x) (hm : X.mg x = some (.ref C)) (ha : PDA (XF.heldX X pn ea) G [e] fa) (hdb : (x == ("__debug__" : Str)) = false := by decide)
  (he : starEach [e] X.env = (false, eval e X.env) :: starEach [] X.env := by rfl) :
  PDS (XF.heldX X pn ea) G (.Raise (some (.Call (.Name x np) [e] [] cpos)) (some (.Constant .none j p2)) pos) (gRaiseF x fl fa) := by
 obtain ⟨f, fd, ps, M1, _, FH, hlp, hb⟩ := h.ok
 obtain ⟨_, t, pa, ha⟩ := ha
 refine ⟨_, XF.ps_raiseH hR M1 FH hlp hr hb hpn hin hod ho2 hg hm pa hdb he, @fun Hr R0 P0 H0 δ O σ H Dn E1 k => ?_⟩
 refine ha δ O σ H _ E1.ev (a0j (a0o k) fun ds z vs H1 s1 rs => ?_)
 match ds, z, rs with
 | [.int i], z, rs =>
  by_cases hz : okXI i = true
  ·have z : ok (GS G Hr) (if okXI i = true then some (.error ⟨x, [(fl, .int i)]⟩) else none) (Fin X.K Hr R0 P0 H0 Dn) := z
   rw [if_pos hz] at z
   obtain ⟨v, rfl, rv⟩ := reps1 rs
   cases rv
   exact ⟨i, rfl, okXI_iff hz, fun a ha => hG _ _ (z H1 (E1.ev.root.trans s1)) C hm a ha⟩
  ·have z : ok (GS G Hr) (if okXI i = true then some (.error ⟨x, [(fl, .int i)]⟩) else none) (Fin X.K Hr R0 P0 H0 Dn) := z
   rw [if_neg hz] at z
   exact z.elim
 | [], z, _ => exact z.elim
 | [.none], z, _ => exact z.elim
 | [.bool _], z, _ => exact z.elim
 | [.str _], z, _ => exact z.elim
 | [.list _], z, _ => exact z.elim
 | [.tuple _], z, _ => exact z.elim
 | [.dict _], z, _ => exact z.elim
 | d1 :: d2 :: r, z, _ => cases d1 <;> exact z.elim
theorem pd_try_asg {x n : Str} {C : Addr} {i : Nat} {suite : List Stmt} {b0 : Stmt} {np hp xp apos : Pos} {gs : DS -> M Out} (hK : XF.excIn1 X.K C XF.VE "ValueError.__new__" = true)
  (hown : ∀ ea, PassesOwnAt (model X.prog X.w) (X.A.mark (some (.ref ea))) X.A X.env X.xe) (hcalm : X.calm = true)
  (hst : X.stack = X.env :: X.outer) (hfr : X.env.frame = some X.env.locals) (hg : Gl X x) (hm : X.mg x = some (.ref C)) (hN : X.N.Nodup) (hi : X.N[i]? = some n) (hx : Loc X.env.scope n)
  (he : ∀ E, PDx X E e f) (hsu : ∀ pn ea oe vs, (∀ p ∈ X.pn, p ∈ pn) -> (ea, oe) ∈ pn -> oe.data = .fields vs -> vs[2]? = some .none -> PDSs (XF.heldX X pn ea) G (b0 :: suite) gs)
  (hs : swapsWith e (some (.Name n xp)) apos.line X.env = pure false := by rfl) (hf : X.fn n = true \/ X.env.scope.names.lookup n = some .local := by first | exact .inl rfl | exact .inr rfl | assumption) (hd : (x == ("__debug__" : Str)) = false := by decide) :
  PDS X G (.Try [.Assign [.Name n xp] e apos] [.ExceptHandler (some (.Name x np)) none (b0 :: suite) hp] [] [] pos) (gTryA x i f gs) := by
 refine ⟨_, XF.ps_try_asg hK hown hcalm hst hfr hg hm hN hi hx hs hf hd, @fun Hr R0 P0 H0 δ O σ H Dn E1 k => ?_⟩
 unfold gTryA at k
 cases e1 : f δ with
 | none => rw [e1] at k; exact k.elim
 | some r =>
  rw [e1] at k
  cases r with
  | ok d =>
   obtain ⟨t, p, h⟩ := he E0
   refine ⟨E0, ⟨t, p, h δ O σ H _ E1.ev ?_⟩, fun c d H' z => z.elim⟩
   rw [e1]
   exact fun v H1 s1 r => k O _ H1 ((E1.same s1).set r)
  | error y =>
   obtain ⟨yc, yf⟩ := y
   match yf, k, e1 with
   | [], k, e1 =>
    have k2 : ok (GS G Hr) (if yc = x then gs δ else none) (Fin X.K Hr R0 P0 H0 Dn) := k
    clear k
    have Er : Ev X.K H O H σ δ := ⟨Same.refl H, E1.ev.oo, E1.ev.len, E1.ev.at_, E1.ev.dis⟩
    by_cases hy : yc = x
    ·rw [if_pos hy] at k2
     subst hy
     obtain ⟨t, p, h⟩ := he (fun c d H' => c = .ref C /\ d = none /\ Same H H')
     refine ⟨_, ⟨t, p, h δ O σ H _ Er ?_⟩, fun c d H' z => ⟨z.1, z.2.1, fun pn ea oe vs i1 i2 i3 i4 => ?_⟩⟩
     ·rw [e1]
      intro H' s C' hC'
      rw [hm] at hC'
      exact ⟨Option.some.inj hC'.symm ▸ rfl, rfl, s⟩
     ·obtain ⟨t2, p2, hB⟩ := hsu pn ea oe vs i1 i2 i3 i4
      exact ⟨t2, p2, hB R0 P0 H0 δ O σ H' Dn (E1.same z.2.2) k2⟩
    ·rw [if_neg hy] at k2
     exact k2.elim
   | _ :: _, k, e1 => exact (show False from k).elim
end
section
variable {δ : DS} {x : Str} {i : Nat} {f : DS -> M D} {gs : DS -> M Out} {d : D} {r : M Out}
theorem ev_tryA_ok (h : f δ = M.ret d) : gTryA x i f gs δ = M.ret (.nx (δ.set i (.vl d))) := by unfold gTryA; rw [h]; rfl
theorem ev_tryA_x (h : f δ = some (.error ⟨x, []⟩)) (h2 : gs δ = r) : gTryA x i f gs δ = r := by
 unfold gTryA
 rw [h]
 show (if x = x then gs δ else none) = r
 rw [if_pos rfl, h2]
end
end DL
namespace L2
open PySem PySem.Spec PyProof.Rows PySem.Builtin PySem.Builtin.Str
section
variable {X : Cx}
end
end L2
namespace DL
open PySem PySem.Spec PyProof.Rows L2
section
variable {X : Cx}
end
end DL
namespace FM
structure Nb (b l e : Int) : Prop where
 b1 : 1 <= b
 b2 : b <= 999
 l1 : 0 <= l
 l2 : l < b
 e1 : 1 <= e
 e2 : e <= 60
structure Ok (b l e m o : Int) : Prop where
 m0 : 0 <= m
 o0 : 0 <= o
 o1 : o < 60 * b
 g : m % e ≠ 0 -> l <= o
def fr (b l e m o : Int) : Int := m * (60 * b) + o - l * (m - m / e)
def len (b l e : Int) : Int := 60 * b + (e - 1) * (60 * b - l)
def gaps (b l e f : Int) : Int := if f % len b l e < 60 * b then f / len b l e * (e - 1) else f / len b l e * (e - 1) + 1 + (f % len b l e - 60 * b) / (60 * b - l)
theorem divq {q e k : Int} (h0 : 0 <= k) (h1 : k < e) : (q * e + k) / e = q := by
 rw [Int.add_comm, Int.add_mul_ediv_right _ _ (by omega), Int.ediv_eq_zero_of_lt h0 h1]; omega
theorem modq {q e k : Int} (h0 : 0 <= k) (h1 : k < e) : (q * e + k) % e = k := by
 rw [Int.add_comm, Int.add_mul_emod_self_right, Int.emod_eq_of_lt h0 h1]
theorem len_pos {b l e : Int} (h : Nb b l e) : 60 * b <= len b l e /\ len b l e <= 3596400 := by
 unfold len
 have h1 : 0 <= (e - 1) * (60 * b - l) := Int.mul_nonneg (by have := h.e1; omega) (by have := h.l2; have := h.b1; omega)
 have h2 : (e - 1) * (60 * b - l) <= 59 * (60 * b - l) := Int.mul_le_mul_of_nonneg_right (by have := h.e2; omega) (by have := h.l2; have := h.b1; omega)
 have := h.b2
 have := h.l1
 omega
theorem place {b l e f : Int} (h : Nb b l e) (hf : 0 <= f) : ∃ m o, Ok b l e m o /\ f + l * gaps b l e f = m * (60 * b) + o /\ f = fr b l e m o := by
 have hL := len_pos h
 have hLp : 0 < len b l e := by have := h.b1; omega
 have h1 := Int.emod_nonneg f (show len b l e ≠ 0 by omega)
 have h2 := Int.emod_lt_of_pos f hLp
 have h3 := Int.mul_ediv_add_emod f (len b l e)
 have hq : 0 <= f / len b l e := Int.ediv_nonneg hf (by omega)
 unfold gaps
 generalize f / len b l e = q at *
 generalize f % len b l e = r at *
 have hb1 := h.b1
 have hl1 := h.l1
 have hl2 := h.l2
 have he1 := h.e1
 by_cases hr : r < 60 * b
 ·refine ⟨q * e + 0, r, ⟨?_, h1, hr, fun z => ?_⟩, ?_, ?_⟩
  ·have := Int.mul_nonneg hq (show 0 <= e by omega); omega
  ·rw [modq (by omega) (by omega)] at z; omega
  ·rw [if_pos hr, <- h3]; unfold len; grind
  ·unfold fr; rw [divq (by omega) (by omega), <- h3]; unfold len; grind
 ·have hS : 0 < 60 * b - l := by omega
  have t0 := Int.emod_nonneg (r - 60 * b) (show 60 * b - l ≠ 0 by omega)
  have t1 := Int.emod_lt_of_pos (r - 60 * b) hS
  have t2 := Int.mul_ediv_add_emod (r - 60 * b) (60 * b - l)
  have k0 : 0 <= (r - 60 * b) / (60 * b - l) := Int.ediv_nonneg (by omega) (by omega)
  have k1 : (r - 60 * b) / (60 * b - l) < e - 1 := by
   apply Int.ediv_lt_of_lt_mul hS
   have : len b l e = 60 * b + (e - 1) * (60 * b - l) := rfl
   omega
  rw [if_neg hr]
  generalize (r - 60 * b) / (60 * b - l) = k at *
  generalize (r - 60 * b) % (60 * b - l) = t at *
  refine ⟨q * e + (1 + k), t + l, ⟨?_, by omega, by omega, fun z => by omega⟩, ?_, ?_⟩
  ·have := Int.mul_nonneg hq (show 0 <= e by omega); omega
  ·rw [<- h3]; unfold len; grind
  ·unfold fr; rw [divq (by omega) (by omega), <- h3]; unfold len; grind
theorem ceil_mono {e m m' : Int} (he : 1 <= e) (h : m <= m') : m / e <= m' / e := Int.ediv_le_ediv (by omega) h
theorem div_succ {e m : Int} (he : 1 <= e) : (m + 1) / e = m / e + (if (m + 1) % e = 0 then 1 else 0) := by
 have h1 := Int.mul_ediv_add_emod m e
 have h2 := Int.emod_nonneg m (show e ≠ 0 by omega)
 have h3 := Int.emod_lt_of_pos m (show 0 < e by omega)
 by_cases hz : m % e + 1 = e
 ·have e1 : m + 1 = (m / e + 1) * e + 0 := by grind
  rw [e1, divq (by omega) (by omega), modq (by omega) (by omega), if_pos rfl]
 ·have e1 : m + 1 = (m / e) * e + (m % e + 1) := by grind
  have e2 : (m + 1) / e = m / e := by rw [e1, divq (by omega) (by omega)]
  have e3 : (m + 1) % e = m % e + 1 := by rw [e1, modq (by omega) (by omega)]
  rw [e2, e3, if_neg (by omega)]; omega
theorem fr_lt_m {b l e m o m' o' : Int} (h : Nb b l e) (k : Ok b l e m o) (k' : Ok b l e m' o') (hm : m < m') : fr b l e m o < fr b l e m' o' := by
 have hb1 := h.b1
 have hl1 := h.l1
 have hl2 := h.l2
 have he1 := h.e1
 have o1 := k.o1
 have o0' := k'.o0
 unfold fr
 have hs := div_succ (m := m' - 1) he1
 rw [show m' - 1 + 1 = m' by omega] at hs
 have hc := ceil_mono (m := m) (m' := m' - 1) he1 (by omega)
 have low : - (l * (m' - 1 - (m' - 1) / e)) <= o' - l * (m' - m' / e) := by
  by_cases hz : m' % e = 0
  ·rw [if_pos hz] at hs
   have : m' - m' / e = m' - 1 - (m' - 1) / e := by omega
   rw [this]; omega
  ·rw [if_neg hz] at hs
   have hg := k'.g hz
   have : m' - m' / e = m' - 1 - (m' - 1) / e + 1 := by omega
   rw [this, Int.mul_add]; omega
 have h1 : l * (m' - 1 - (m' - 1) / e) <= l * (m' - 1 - m / e) := Int.mul_le_mul_of_nonneg_left (by omega) hl1
 have h2 : l * (m' - 1 - m / e) = l * (m' - 1 - m) + l * (m - m / e) := by grind
 have h3 : l * (m' - 1 - m) <= (60 * b) * (m' - 1 - m) := Int.mul_le_mul_of_nonneg_right (by omega) (by omega)
 have h4 : m' * (60 * b) = (60 * b) * (m' - 1 - m) + m * (60 * b) + 60 * b := by grind
 omega
theorem fr_lt {b l e m o m' o' : Int} (h : Nb b l e) (k : Ok b l e m o) (k' : Ok b l e m' o') : fr b l e m o < fr b l e m' o' ↔ (m < m' \/ (m = m' /\ o < o')) := by
 rcases Int.lt_trichotomy m m' with hm | hm | hm
 ·exact ⟨fun _ => .inl hm, fun _ => fr_lt_m h k k' hm⟩
 ·subst hm
  unfold fr
  constructor
  ·intro z; exact .inr ⟨rfl, by omega⟩
  ·intro z; rcases z with z | z <;> omega
 ·have := fr_lt_m h k' k hm
  exact ⟨fun z => by omega, fun z => by omega⟩
theorem fr_inj {b l e m o m' o' : Int} (h : Nb b l e) (k : Ok b l e m o) (k' : Ok b l e m' o') (q : fr b l e m o = fr b l e m' o') : m = m' /\ o = o' := by
 have h1 := fr_lt h k k'
 have h2 := fr_lt h k' k
 omega
theorem lab {b m o : Int} (hb : 1 <= b) (o0 : 0 <= o) (o1 : o < 60 * b) : (m * (60 * b) + o) / b = 60 * m + o / b /\ 0 <= o / b /\ o / b < 60 /\ (m * (60 * b) + o) % b = o % b /\ 0 <= o % b /\ o % b < b /\ o = b * (o / b) + o % b := by
 have e1 : m * (60 * b) + o = o + (60 * m) * b := by grind
 refine ⟨?_, Int.ediv_nonneg o0 (by omega), Int.ediv_lt_of_lt_mul (by omega) o1, ?_, Int.emod_nonneg o (by omega), Int.emod_lt_of_pos o (by omega), (Int.mul_ediv_add_emod o b).symm⟩
 ·rw [e1, Int.add_mul_ediv_right _ _ (by omega)]; omega
 ·rw [e1, Int.add_mul_emod_self_right]
theorem fr_nonneg {b l e m o : Int} (h : Nb b l e) (k : Ok b l e m o) : 0 <= fr b l e m o := by
 have hb1 := h.b1
 have hl1 := h.l1
 have hl2 := h.l2
 have he1 := h.e1
 have m0 := k.m0
 have o0 := k.o0
 unfold fr
 have h1 : 0 <= m / e := Int.ediv_nonneg m0 (by omega)
 have h2 : l * (m - m / e) <= l * m := Int.mul_le_mul_of_nonneg_left (by omega) hl1
 have h3 : l * m <= (60 * b) * m := Int.mul_le_mul_of_nonneg_right (by omega) m0
 have h4 : m * (60 * b) = (60 * b) * m := Int.mul_comm _ _
 omega
end FM
namespace CT
open PySem PySem.Spec L2 DL
noncomputable def g_show_parts : DS -> M Out := (gSeq (gAsg (dMeth sZfill (dCB oStr (dCons (d2 oIx (dVar 0) (dC (.int 0))) dNil)) (dCons (dC (.int 2)) dNil)) (tgN 3))
  (gSeq (gAsg (dMeth sZfill (dCB oStr (dCons (d2 oIx (dVar 0) (dC (.int 1))) dNil)) (dCons (dC (.int 2)) dNil)) (tgN 4))
  (gSeq (gAsg (dMeth sZfill (dCB oStr (dCons (d2 oIx (dVar 0) (dC (.int 2))) dNil)) (dCons (dC (.int 2)) dNil)) (tgN 5))
  (gSeq (gAsg (dMeth sZfill (dCB oStr (dCons (d2 oIx (dVar 0) (dC (.int 3))) dNil)) (dCons (dVar 2) dNil)) (tgN 6))
  (gRet (joinD ((dFV (dVar 3)) :: ((dC (.str ":")) :: ((dFV (dVar 4)) :: ((dC (.str ":")) :: ((dFV (dVar 5)) :: ((dFV (dVar 1)) :: ((dFV (dVar 6)) :: []))))))) Str.empty))))))
noncomputable def F_show_parts : List D -> M D := run 7 g_show_parts
noncomputable def g_show_moment : DS -> M Out := (gSeq (gAsg (d2 oDiv (dVar 0) (dC (.int 1000))) (tgN 1))
  (gSeq (gAsg (d2 oDiv (dVar 1) (dC (.int 60))) (tgN 2))
  (gRet (dCall (fun ds => noX (F_show_parts ds)) (dCons (dTup (dCons (d2 oDiv (dVar 2) (dC (.int 60))) (dCons (d2 oMod (dVar 2) (dC (.int 60))) (dCons (d2 oMod (dVar 1) (dC (.int 60))) (dCons (d2 oMod (dVar 0) (dC (.int 1000))) dNil))))) (dCons (dC (.str ".")) (dCons (dC (.int 3)) dNil)))))))
noncomputable def F_show_moment : List D -> M D := run 3 g_show_moment
noncomputable def g_Thousandths_show : DS -> M Out := (gRet (dCall (fun ds => noX (F_show_moment ds)) (dCons (dVar 1) dNil)))
noncomputable def a1l : List D -> M D := run 2 g_Thousandths_show
noncomputable def g_are_figures : DS -> M Out := (gRet (dAndV (d2 oNe (dVar 0) (dC (.str ""))) (dCB oAll (dCons (dCompG 1 [] (tgN 0) (dAny (dVar 0)) dYes (d2 oInS (dVar 0) (dC (.str "0123456789")))) dNil))))
noncomputable def a2n : List D -> M D := run 1 g_are_figures
noncomputable def g_has_figures : DS -> M Out := (gRet (dAndV (d2 oEq (dCB oLen (dCons (dVar 0) dNil)) (dVar 1)) (dCall (fun ds => noX (a2n ds)) (dCons (dVar 0) dNil))))
noncomputable def a1q : List D -> M D := run 2 g_has_figures
noncomputable def g_are_hours : DS -> M Out := (gSeq (gIf (dB (dCall (fun ds => noX (a1q ds)) (dCons (dVar 0) (dCons (dC (.int 2)) dNil)))) (gRet (dC (.bool true))) gNext)
  (gRet (dAndV (dChain oLeD oLeD (dC (.int 3)) (dCB oLen (dCons (dVar 0) dNil)) (dC (.int 20))) (dAndV (dCall (fun ds => noX (a2n ds)) (dCons (dVar 0) dNil)) (d2 oNe (d2 oIx (dVar 0) (dC (.int 0))) (dC (.str "0")))))))
noncomputable def F_are_hours : List D -> M D := run 1 g_are_hours
noncomputable def g_are_sixtieths : DS -> M Out := (gRet (dAndV (dCall (fun ds => noX (a1q ds)) (dCons (dVar 0) (dCons (dC (.int 2)) dNil))) (d2 oLt (dCB oIntS (dCons (dVar 0) dNil)) (dC (.int 60)))))
noncomputable def a2g : List D -> M D := run 1 g_are_sixtieths
noncomputable def g_read_parts : DS -> M Out := (gSeq (gIf (dNot (dB (dIs "str" (dVar 0)))) (gRaise "NoTime" (dCons (dC (.str "this is no text")) dNil)) gNext)
  (gSeq (gAsg (dMeth sPartition (dVar 0) (dCons (dC (.str ":")) dNil)) (tgN 3))
  (gSeq (gAsg (dMeth sPartition (d2 oIx (dVar 3) (dC (.int 2))) (dCons (dC (.str ":")) dNil)) (tgN 4))
  (gSeq (gAsg (dMeth sPartition (d2 oIx (dVar 4) (dC (.int 2))) (dCons (dVar 1) dNil)) (tgN 5))
  (gSeq (gIf (dNot (dAnd (dB (dCall (fun ds => noX (F_are_hours ds)) (dCons (d2 oIx (dVar 3) (dC (.int 0))) dNil))) (dAnd (dB (dCall (fun ds => noX (a2g ds)) (dCons (d2 oIx (dVar 4) (dC (.int 0))) dNil))) (dB (dCall (fun ds => noX (a2g ds)) (dCons (d2 oIx (dVar 5) (dC (.int 0))) dNil)))))) (gRaise "NoTime" (dCons (dC (.str "these are no hours, minutes and seconds")) dNil)) gNext)
  (gSeq (gIf (dNot (dB (dCall (fun ds => noX (a1q ds)) (dCons (d2 oIx (dVar 5) (dC (.int 2))) (dCons (dVar 2) dNil))))) (gRaise "NoTime" (dCons (dC (.str "the figures behind the seconds are none, too few or too many")) dNil)) gNext)
  (gRet (dTup (dCons (dCB oIntS (dCons (d2 oIx (dVar 3) (dC (.int 0))) dNil)) (dCons (dCB oIntS (dCons (d2 oIx (dVar 4) (dC (.int 0))) dNil)) (dCons (dCB oIntS (dCons (d2 oIx (dVar 5) (dC (.int 0))) dNil)) (dCons (dCB oIntS (dCons (d2 oIx (dVar 5) (dC (.int 2))) dNil)) dNil))))))))))))
noncomputable def a2i : List D -> M D := run 6 g_read_parts
noncomputable def g_read_moment : DS -> M Out := (gSeq (gAsg (dCall a2i (dCons (dVar 0) (dCons (dC (.str ".")) (dCons (dC (.int 3)) dNil)))) (tgN 1))
  (gSeq (gAsg (d2 oAdd (d2 oMul (dC (.int 60)) (d2 oAdd (d2 oMul (dC (.int 60)) (d2 oIx (dVar 1) (dC (.int 0)))) (d2 oIx (dVar 1) (dC (.int 1))))) (d2 oIx (dVar 1) (dC (.int 2)))) (tgN 2))
  (gRet (d2 oAdd (d2 oMul (dC (.int 1000)) (dVar 2)) (d2 oIx (dVar 1) (dC (.int 3)))))))
noncomputable def F_read_moment : List D -> M D := run 3 g_read_moment
noncomputable def a1w : DS -> M Out := (gRet (dCall F_read_moment (dCons (dVar 1) dNil)))
noncomputable def a1m : List D -> M D := run 2 a1w
noncomputable def a2k : DS -> M Out := (gSeq (gAsg (d2 oMul (dC (.int 60)) (d2 oIx (dVar 0) (dC (.int 0)))) (tgN 2))
  (gSeq (gAsg (d2 oSub (dVar 2) (d2 oIx (dVar 0) (dC (.int 1)))) (tgN 3))
  (gSeq (gAsg (d2 oSub (d2 oIx (dVar 0) (dC (.int 2))) (dC (.int 1))) (tgN 4))
  (gSeq (gAsg (d2 oAdd (dVar 2) (d2 oMul (dVar 4) (dVar 3))) (tgN 5))
  (gSeq (gAsg (d2 oMul (d2 oDiv (dVar 1) (dVar 5)) (dVar 4)) (tgN 6))
  (gSeq (gAsg (d2 oMod (dVar 1) (dVar 5)) (tgN 7))
  (gSeq (gIf (dB (d2 oLt (dVar 7) (dVar 2))) (gRet (dVar 6)) gNext)
  (gRet (d2 oAdd (d2 oAdd (dVar 6) (dC (.int 1))) (d2 oDiv (d2 oSub (dVar 7) (dVar 2)) (dVar 3)))))))))))
noncomputable def a1t : List D -> M D := run 8 a2k
noncomputable def g_label_of : DS -> M Out := (gSeq (gAsg (d2 oIx (dVar 0) (dC (.int 0))) (tgN 2))
  (gSeq (gAsg (d2 oAdd (dVar 1) (d2 oMul (d2 oIx (dVar 0) (dC (.int 1))) (dCall (fun ds => noX (a1t ds)) (dCons (dVar 0) (dCons (dVar 1) dNil))))) (tgN 3))
  (gSeq (gAsg (d2 oDiv (dVar 3) (dVar 2)) (tgN 4))
  (gSeq (gAsg (d2 oDiv (dVar 4) (dC (.int 60))) (tgN 5))
  (gRet (dTup (dCons (d2 oDiv (dVar 5) (dC (.int 60))) (dCons (d2 oMod (dVar 5) (dC (.int 60))) (dCons (d2 oMod (dVar 4) (dC (.int 60))) (dCons (d2 oMod (dVar 3) (dVar 2)) dNil))))))))))
noncomputable def F_label_of : List D -> M D := run 6 g_label_of
noncomputable def g_frame_sign : DS -> M Out := (gRet (dIf (dB (d2 oGt (d2 oIx (dVar 0) (dC (.int 1))) (dC (.int 0)))) (dC (.str ";")) (dC (.str ":"))))
noncomputable def a1y : List D -> M D := run 1 g_frame_sign
noncomputable def g_frame_figures : DS -> M Out := (gRet (dCB oMax (dCons (dC (.int 2)) (dCons (dCB oLen (dCons (dCB oStr (dCons (d2 oSub (d2 oIx (dVar 0) (dC (.int 0))) (dC (.int 1))) dNil)) dNil)) dNil))))
noncomputable def a1g : List D -> M D := run 1 g_frame_figures
noncomputable def g_show_frame : DS -> M Out := (gRet (dCall (fun ds => noX (F_show_parts ds)) (dCons (dCall (fun ds => noX (F_label_of ds)) (dCons (dVar 0) (dCons (dVar 1) dNil))) (dCons (dCall (fun ds => noX (a1y ds)) (dCons (dVar 0) dNil)) (dCons (dCall (fun ds => noX (a1g ds)) (dCons (dVar 0) dNil)) dNil)))))
noncomputable def F_show_frame : List D -> M D := run 2 g_show_frame
noncomputable def g_Frames_show : DS -> M Out := (gRet (dCall (fun ds => noX (F_show_frame ds)) (dCons (d1 (oFld "Frames" "numbering") (dVar 0)) (dCons (dVar 1) dNil))))
noncomputable def F_Frames_show : List D -> M D := run 2 g_Frames_show
noncomputable def g_is_whole : DS -> M Out := (gRet (dAndV (dIs "int" (dVar 0)) (dNotV (dIs "bool" (dVar 0)))))
noncomputable def a2f : List D -> M D := run 1 g_is_whole
noncomputable def g_has_form : DS -> M Out := (gSeq (gIf (dOr (dNot (dB (dIs "tuple" (dVar 1)))) (dB (d2 oNe (dCB oLen (dCons (dVar 1) dNil)) (dC (.int 4))))) (gRet (dC (.bool false))) gNext)
  (gSeq (gIf (dNot (dB (dCB oAll (dCons (dCompG 1 [] (tgN 0) (dAny (dVar 1)) dYes (dAndV (dCall (fun ds => noX (a2f ds)) (dCons (dVar 0) dNil)) (d2 oGe (dVar 0) (dC (.int 0))))) dNil)))) (gRet (dC (.bool false))) gNext)
  (gRet (dAndV (d2 oLt (d2 oIx (dVar 1) (dC (.int 1))) (dC (.int 60))) (dAndV (d2 oLt (d2 oIx (dVar 1) (dC (.int 2))) (dC (.int 60))) (d2 oLt (d2 oIx (dVar 1) (dC (.int 3))) (d2 oIx (dVar 0) (dC (.int 0)))))))))
noncomputable def F_has_form : List D -> M D := run 2 g_has_form
noncomputable def g_minute_of : DS -> M Out := (gRet (d2 oAdd (d2 oMul (dC (.int 60)) (d2 oIx (dVar 0) (dC (.int 0)))) (d2 oIx (dVar 0) (dC (.int 1)))))
noncomputable def F_minute_of : List D -> M D := run 1 g_minute_of
noncomputable def g_is_left_out : DS -> M Out := (gSeq (gIf (dB (d2 oEq (d2 oMod (dCall (fun ds => noX (F_minute_of ds)) (dCons (dVar 1) dNil)) (d2 oIx (dVar 0) (dC (.int 2)))) (dC (.int 0)))) (gRet (dC (.bool false))) gNext)
  (gRet (dAndV (d2 oEq (d2 oIx (dVar 1) (dC (.int 2))) (dC (.int 0))) (d2 oLt (d2 oIx (dVar 1) (dC (.int 3))) (d2 oIx (dVar 0) (dC (.int 1)))))))
noncomputable def F_is_left_out : List D -> M D := run 2 g_is_left_out
noncomputable def g_is_label : DS -> M Out := (gRet (dAndV (dCall (fun ds => noX (F_has_form ds)) (dCons (dVar 0) (dCons (dVar 1) dNil))) (dNotV (dCall (fun ds => noX (F_is_left_out ds)) (dCons (dVar 0) (dCons (dVar 1) dNil))))))
noncomputable def F_is_label : List D -> M D := run 2 g_is_label
noncomputable def g_frame_of : DS -> M Out := (gSeq (gIf (dNot (dB (dCall (fun ds => noX (F_is_label ds)) (dCons (dVar 0) (dCons (dVar 1) dNil))))) gNever gNext)
  (gSeq (gAsg (dCall (fun ds => noX (F_minute_of ds)) (dCons (dVar 1) dNil)) (tgN 2))
  (gSeq (gAsg (d2 oAdd (d2 oMul (d2 oAdd (d2 oMul (dC (.int 60)) (dVar 2)) (d2 oIx (dVar 1) (dC (.int 2)))) (d2 oIx (dVar 0) (dC (.int 0)))) (d2 oIx (dVar 1) (dC (.int 3)))) (tgN 3))
  (gSeq (gAsg (d2 oSub (dVar 2) (d2 oDiv (dVar 2) (d2 oIx (dVar 0) (dC (.int 2))))) (tgN 4))
  (gRet (d2 oSub (dVar 3) (d2 oMul (d2 oIx (dVar 0) (dC (.int 1))) (dVar 4))))))))
noncomputable def F_frame_of : List D -> M D := run 5 g_frame_of
noncomputable def g_read_frame : DS -> M Out := (gSeq (gAsg (dCall a2i (dCons (dVar 1) (dCons (dCall (fun ds => noX (a1y ds)) (dCons (dVar 0) dNil)) (dCons (dCall (fun ds => noX (a1g ds)) (dCons (dVar 0) dNil)) dNil)))) (tgN 2))
  (gSeq (gIf (dNot (dB (dCall (fun ds => noX (F_is_label ds)) (dCons (dVar 0) (dCons (dVar 2) dNil))))) (gRaise "NoTime" (dCons (dC (.str "the numbering has no such label")) dNil)) gNext)
  (gRet (dCall (fun ds => noX (F_frame_of ds)) (dCons (dVar 0) (dCons (dVar 2) dNil))))))
noncomputable def F_read_frame : List D -> M D := run 3 g_read_frame
noncomputable def g_Frames_read : DS -> M Out := (gRet (dCall F_read_frame (dCons (d1 (oFld "Frames" "numbering") (dVar 0)) (dCons (dVar 1) dNil))))
noncomputable def F_Frames_read : List D -> M D := run 2 g_Frames_read
noncomputable def g_is_name : DS -> M Out := (gSeq (gIf (dOr (dNot (dB (dIs "str" (dVar 0)))) (dNot (dB (dChain oLeD oLeD (dC (.int 1)) (dCB oLen (dCons (dVar 0) dNil)) (dC (.int 8)))))) (gRet (dC (.bool false))) gNext)
  (gRet (dCB oAll (dCons (dCompG 1 [] (tgN 0) (dAny (dVar 0)) dYes (dChain oLeD oLeD (dC (.str "a")) (dVar 0) (dC (.str "z")))) dNil))))
noncomputable def F_is_name : List D -> M D := run 1 g_is_name
noncomputable def g_is_word_sign : DS -> M Out := (gRet (dAndV (dChain oLeD oLeD (dC (.str "!")) (dVar 0) (dC (.str "~"))) (d2 oNe (dCB oOrd (dCons (dVar 0) dNil)) (dC (.int 37)))))
noncomputable def F_is_word_sign : List D -> M D := run 1 g_is_word_sign
noncomputable def g_is_word : DS -> M Out := (gRet (dAndV (dChain oLeD oLeD (dC (.int 1)) (dCB oLen (dCons (dVar 0) dNil)) (dC (.int 30))) (dCB oAll (dCons (dCompG 1 [] (tgN 0) (dAny (dVar 0)) dYes (dCall (fun ds => noX (F_is_word_sign ds)) (dCons (dVar 0) dNil))) dNil))))
noncomputable def F_is_word : List D -> M D := run 1 g_is_word
noncomputable def g_are_words : DS -> M Out := (gRet (dAndV (dIs "str" (dVar 0)) (dCB oAll (dCons (dCompG 1 [] (tgN 0) (dAny (dMeth sSplit (dVar 0) (dCons (dC (.str " ")) dNil))) dYes (dCall (fun ds => noX (F_is_word ds)) (dCons (dVar 0) dNil))) dNil))))
noncomputable def F_are_words : List D -> M D := run 1 g_are_words
noncomputable def g_is_cue : DS -> M Out := (gSeq (gIf (dOr (dNot (dB (dIs "tuple" (dVar 0)))) (dB (d2 oNe (dCB oLen (dCons (dVar 0) dNil)) (dC (.int 4))))) (gRet (dC (.bool false))) gNext)
  (gSeq (gIf (dOr (dNot (dB (dCall (fun ds => noX (a2f ds)) (dCons (d2 oIx (dVar 0) (dC (.int 0))) dNil)))) (dNot (dB (dCall (fun ds => noX (a2f ds)) (dCons (d2 oIx (dVar 0) (dC (.int 1))) dNil))))) (gRet (dC (.bool false))) gNext)
  (gRet (dAndV (dChain oLeD oLt (dC (.int 0)) (d2 oIx (dVar 0) (dC (.int 0))) (d2 oIx (dVar 0) (dC (.int 1)))) (dAndV (dCall (fun ds => noX (F_is_name ds)) (dCons (d2 oIx (dVar 0) (dC (.int 2))) dNil)) (dCall (fun ds => noX (F_are_words ds)) (dCons (d2 oIx (dVar 0) (dC (.int 3))) dNil)))))))
noncomputable def F_is_cue : List D -> M D := run 1 g_is_cue
noncomputable def g_show_row : DS -> M Out := (gRet (dMeth sJoin (dC (.str " ")) (dCons (dLst (dCons (dEl (dMe "Thousandths" "show" (fun ds => noX (a1l ds)) (dVar 0) (dCons (d2 oIx (dVar 1) (dC (.int 0))) dNil)) (dMe "Frames" "show" (fun ds => noX (F_Frames_show ds)) (dVar 0) (dCons (d2 oIx (dVar 1) (dC (.int 0))) dNil))) (dCons (dEl (dMe "Thousandths" "show" (fun ds => noX (a1l ds)) (dVar 0) (dCons (d2 oIx (dVar 1) (dC (.int 1))) dNil)) (dMe "Frames" "show" (fun ds => noX (F_Frames_show ds)) (dVar 0) (dCons (d2 oIx (dVar 1) (dC (.int 1))) dNil))) (dCons (d2 oIx (dVar 1) (dC (.int 2))) (dCons (d2 oIx (dVar 1) (dC (.int 3))) dNil))))) dNil)))
noncomputable def F_show_row : List D -> M D := run 2 g_show_row
noncomputable def g_show_cues : DS -> M Out := (gRet (dMeth sJoin (dC (.str "\n")) (dCons (dCompG 1 [0] (tgN 0) (dAny (dVar 1)) dYes (dCall (fun ds => noX (F_show_row ds)) (dCons (dVar 1) (dCons (dVar 0) dNil)))) dNil)))
noncomputable def F_show_cues : List D -> M D := run 2 g_show_cues
noncomputable def g_read_row : DS -> M Out := (gSeq (gAsg (dMeth sSplitN (dVar 1) (dCons (dC (.str " ")) (dCons (dC (.int 3)) dNil))) (tgN 3))
  (gSeq (gIf (dB (d2 oNe (dCB oLen (dCons (dVar 3) dNil)) (dC (.int 4)))) (gRaiseF "NoCue" "row" (dCons (dVar 2) dNil)) gNext)
  (gSeq (gTryA "NoTime" 4 (dTup (dCons (dEl (dMe "Thousandths" "read" a1m (nX (dVar 0)) (fun δ => noX ((dCons (d2 oIx (dVar 3) (dC (.int 0))) dNil) δ))) (dMe "Frames" "read" F_Frames_read (nX (dVar 0)) (fun δ => noX ((dCons (d2 oIx (dVar 3) (dC (.int 0))) dNil) δ)))) (dCons (dEl (dMe "Thousandths" "read" a1m (nX (dVar 0)) (fun δ => noX ((dCons (d2 oIx (dVar 3) (dC (.int 1))) dNil) δ))) (dMe "Frames" "read" F_Frames_read (nX (dVar 0)) (fun δ => noX ((dCons (d2 oIx (dVar 3) (dC (.int 1))) dNil) δ)))) (dCons (nX (d2 oIx (dVar 3) (dC (.int 2)))) (dCons (nX (d2 oIx (dVar 3) (dC (.int 3)))) dNil))))) (gRaiseF "NoCue" "row" (dCons (dVar 2) dNil)))
  (gSeq (gIf (dNot (dB (dCall (fun ds => noX (F_is_cue ds)) (dCons (dVar 4) dNil)))) (gRaiseF "NoCue" "row" (dCons (dVar 2) dNil)) gNext)
  (gRet (dVar 4))))))
noncomputable def a2e : List D -> M D := run 5 g_read_row
noncomputable def g_rows_of : DS -> M Out := (gRet (dIf (dTr (dVar 0)) (dMeth sSplit (dVar 0) (dCons (dC (.str "\n")) dNil)) (dLst dNil)))
noncomputable def F_rows_of : List D -> M D := run 1 g_rows_of
noncomputable def b_read_cues_0 : DS -> M Out := (gSeq (gAsg (dCall a2e (dCons (dVar 0) (dCons (dVar 4) (dCons (dVar 3) dNil)))) (tgN 5))
  (gSeq (gIf (dLendT 2 (dAnd (dTr (dVar 2)) (dB (d2 oLt (d2 oIx (dVar 5) (dC (.int 0))) (d2 oIx (d2 oIx (dVar 2) (d1 oNeg (dC (.int 1)))) (dC (.int 0))))))) (gRaiseF "NoCue" "row" (dCons (dVar 3) dNil)) gNext)
  (gApp 2 (dVar 5))))
noncomputable def g_read_cues : DS -> M Out := (gSeq (gIf (dNot (dB (dIs "str" (dVar 1)))) (gRaiseF "NoCue" "row" (dCons (dC (.int 1)) dNil)) gNext)
  (gSeq (gNewL 2 (nLst dNil))
  (gSeq (gForI (dEnumK (dCons (dCall (fun ds => noX (F_rows_of ds)) (dCons (dVar 1) dNil)) dNil)) (tgTup 2 (tgCons (tgN 3) (tgCons (tgN 4) tgNil))) b_read_cues_0)
  (gRetO 2))))
noncomputable def a1s : List D -> M D := run 6 g_read_cues
end CT
open PySem PySem.Spec L2 DL
local macro_rules | `(tactic| walk_at "call") => `(tactic| fail)
local macro_rules | `(tactic| walk_at "cond") => `(tactic| first | rfl | omega | (simp only [Bool.or_eq_false_iff, Bool.and_eq_false_iff, Bool.or_eq_true, Bool.and_eq_true, Bool.not_eq_false', Bool.not_eq_true', decide_eq_false_iff_not, decide_eq_true_eq, Bool.not_true, Bool.not_false, Bool.false_or, Bool.true_and, Bool.false_and, Bool.true_or, isD, tyD]; omega) | (simp [isD, tyD]; done) | (simp [isD, tyD]; omega))
local macro_rules | `(tactic| walk_at "side") => `(tactic| first | assumption | omega | decide | exact bMul_l (by omega) (by omega) | exact bMul_r (by omega) (by omega) | exact bDiv_of (by omega) (by omega) | rfl)
local macro_rules | `(tactic| walk_at "ev1") => `(tactic| (first
 | with_reducible assumption | with_reducible exact ev_c | exact a0d rfl | with_reducible exact a0g | with_reducible exact ev_next | with_reducible exact ev_nopart
 | with_reducible apply ev_2 | with_reducible apply a0b | with_reducible apply ev_1
 | with_reducible exact o_add | with_reducible exact o_sub | with_reducible exact o_lt | with_reducible exact o_ltD | with_reducible exact o_le | with_reducible exact o_gt | with_reducible exact o_ge | with_reducible exact o_eq | with_reducible exact o_ne
 | (with_reducible refine o_mul ?_; walk_at "side") | (with_reducible refine o_div ?_; walk_at "side") | (with_reducible refine o_mod ?_; walk_at "side")
 | ((with_reducible show oIx _ (PyData.int (OfNat.ofNat _)) = some _); exact rfl) | with_reducible exact o_pow6 | with_reducible exact o_pow9 | with_reducible exact o_pow15 | with_reducible exact o_pow18 | with_reducible exact o_pow4 | with_reducible exact o_pow7 | with_reducible exact o_pow8 | with_reducible exact o_pow10 | with_reducible exact o_pow12 | with_reducible exact o_pow19 | with_reducible exact o_pow20 | with_reducible exact o_pow24 | ((with_reducible show tgTup _ _ _ _ = some _); exact rfl) | ((with_reducible show oNeg _ = some _); exact rfl)
 | ((with_reducible show small _ = true); exact rfl) | with_reducible apply a2l | with_reducible exact o_max | with_reducible exact o_min | with_reducible exact o_lenL | with_reducible exact o_lenT | with_reducible exact o_intI | with_reducible exact o_intB
 | with_reducible apply a0k | walk_at "call"
 | (with_reducible refine a1p ?_ ?_ ?_) | with_reducible apply ev_seqIf | with_reducible apply ev_seqN | (with_reducible apply a0p; with_reducible apply a0y) | with_reducible apply a0z | (with_reducible apply ev_seqR; with_reducible apply a0z)
 | with_reducible apply a0y | (with_reducible apply a0p; with_reducible apply ev_asgT) | with_reducible apply ev_par | (with_reducible apply a0p; with_reducible apply ev_par)
 | with_reducible apply ev_b | with_reducible apply a1x | with_reducible apply ev_notV | with_reducible apply ev_is
 | with_reducible apply ev_tup | with_reducible apply ev_lst | with_reducible apply ev_cut | with_reducible apply ev_part
 | with_reducible apply ev_pass1 | with_reducible apply ev_ifS
 | with_reducible apply ev_or | with_reducible apply ev_and | with_reducible apply ev_orV | with_reducible apply ev_andV | with_reducible apply ev_if
 | ((with_reducible show (_ : Bool) = false); walk_at "cond")
 | ((with_reducible show (if _ = true then _ else _) = _); first | (refine ite_F rfl ?_) | (refine ite_T rfl ?_) | (refine ite_t (by omega) ?_) | (refine ite_f (by omega) ?_) | (refine ite_F (by walk_at "cond") ?_) | (refine ite_T (by walk_at "cond") ?_))))
local macro_rules | `(tactic| walk_at "ev") => `(tactic| repeat (walk_at "ev1"))
open PySem PySem.Spec L2 DL NumText
namespace TX
def S (l : List Nat) : Str := ⟨l.toArray⟩
theorem L_S (l : List Nat) : (S l).cps.toList = l := by unfold S; simp
theorem S_L (x : Str) : S x.cps.toList = x := by unfold S; simp
theorem S_app (a b : List Nat) : S a ++ S b = S (a ++ b) := by
 have : (S a ++ S b).cps = (S (a ++ b)).cps := by
  show a.toArray ++ b.toArray = (a ++ b).toArray
  simp
 cases h1 : S a ++ S b
 cases h2 : S (a ++ b)
 rw [h1, h2] at this
 cases this
 rfl
theorem S_len (l : List Nat) : (S l).length = l.length := by unfold S; show l.toArray.size = _; simp
theorem S_inj {a b : List Nat} (h : S a = S b) : a = b := by rw [<- L_S a, h, L_S]
theorem S_one (c : Nat) : S [c] = ⟨#[c]⟩ := rfl
theorem S_nil : S [] = Str.empty := rfl
theorem S_cons (c : Nat) (l : List Nat) : (⟨#[c]⟩ : Str) ++ S l = S (c :: l) := by rw [<- S_one, S_app]; rfl
def digs (n : Nat) : List Nat := if h : n = 0 then [] else digs (n / 10) ++ [48 + n % 10]
decreasing_by omega
theorem digs_zero : digs 0 = [] := by unfold digs; rfl
theorem digs_pos {n : Nat} (h : n ≠ 0) : digs n = digs (n / 10) ++ [48 + n % 10] := by
 rw [digs]
 simp [h]
def fg (k n : Nat) : List Nat := List.replicate (k - (digs n).length) 48 ++ digs n
theorem fg_step {k n : Nat} (h : 0 < n \/ 0 < k) : fg k n = fg (k - 1) (n / 10) ++ [48 + n % 10] := by
 unfold fg
 by_cases hn : n = 0
 ·subst hn
  rw [digs_zero]
  have hk : 0 < k := by omega
  obtain ⟨k, rfl⟩ : ∃ j, k = j + 1 := ⟨k - 1, by omega⟩
  simp only [Nat.zero_div, Nat.zero_mod, digs_zero, List.append_nil, List.length_nil, Nat.sub_zero, Nat.add_sub_cancel, Nat.add_zero]
  rw [List.replicate_succ']
 ·rw [digs_pos hn, List.length_append]
  have e : k - ((digs (n / 10)).length + [48 + n % 10].length) = k - 1 - (digs (n / 10)).length := by
   show k - ((digs (n / 10)).length + 1) = _
   omega
  rw [e, List.append_assoc]
theorem fg_zero : fg 0 0 = [] := by unfold fg; rw [digs_zero]; rfl
theorem digs_digits (n : Nat) : ∀ c ∈ digs n, 48 <= c /\ c <= 57 := by
 induction n using Nat.strongRecOn with
 | _ n ih =>
  by_cases h : n = 0
  ·subst h; rw [digs_zero]; intro c hc; cases hc
  ·rw [digs_pos h]
   intro c hc
   rcases List.mem_append.mp hc with hc | hc
   ·exact ih (n / 10) (by omega) c hc
   ·rw [List.mem_singleton] at hc
    omega
theorem fg_digits (k n : Nat) : ∀ c ∈ fg k n, 48 <= c /\ c <= 57 := by
 intro c hc
 unfold fg at hc
 rcases List.mem_append.mp hc with hc | hc
 ·have := List.eq_of_mem_replicate hc
  omega
 ·exact digs_digits n c hc
theorem digs_len (j : Nat) : ∀ n, n < 10 ^ j -> (digs n).length <= j := by
 induction j with
 | zero =>
  intro n hn
  have : n = 0 := by simpa using hn
  subst this
  rw [digs_zero]
  exact Nat.le_refl _
 | succ j ih =>
  intro n hn
  by_cases h : n = 0
  ·subst h; rw [digs_zero]; exact Nat.zero_le _
  ·rw [digs_pos h, List.length_append]
   have h1 : n / 10 < 10 ^ j := by
    rw [Nat.pow_succ] at hn
    omega
   have := ih (n / 10) h1
   show _ + 1 <= _
   omega
theorem fg_len {k n : Nat} (h : n < 10 ^ k) : (fg k n).length = k := by
 unfold fg
 have := digs_len k n h
 rw [List.length_append, List.length_replicate]
 omega
theorem digs_len_ge (j : Nat) : ∀ n, 10 ^ j <= n -> j + 1 <= (digs n).length := by
 induction j with
 | zero =>
  intro n hn
  have h : n ≠ 0 := by
   have : 10 ^ 0 = 1 := rfl
   omega
  rw [digs_pos h, List.length_append]
  show 0 + 1 <= _ + 1
  omega
 | succ j ih =>
  intro n hn
  have p := Nat.pow_pos (n := j) (show 0 < 10 by decide)
  rw [Nat.pow_succ] at hn
  have h : n ≠ 0 := by omega
  have := ih (n / 10) (by omega)
  rw [digs_pos h, List.length_append]
  show _ <= _ + 1
  omega
theorem toDig (n : Nat) : (Nat.toDigits 10 n).map Char.toNat = if n = 0 then [48] else digs n := by
 have one : ∀ d : Nat, d < 10 -> (Nat.digitChar d).toNat = 48 + d := by decide
 induction n using Nat.strongRecOn with
 | _ n ih =>
  by_cases h : n < 10
  ·rw [Nat.toDigits_of_lt_base h]
   show [(Nat.digitChar n).toNat] = _
   rw [one n h]
   by_cases hz : n = 0
   ·subst hz; rfl
   ·rw [if_neg hz, digs_pos hz, show n / 10 = 0 by omega, digs_zero, show n % 10 = n by omega]
    rfl
  ·have hm : n % 10 < 10 := Nat.mod_lt n (by decide)
   have t : Nat.toDigits 10 (n / 10) ++ Nat.toDigits 10 (n % 10) = Nat.toDigits 10 (10 * (n / 10) + n % 10) := Nat.toDigits_append_toDigits (by decide) (by omega) hm
   rw [Nat.div_add_mod] at t
   rw [<- t, List.map_append, ih (n / 10) (by omega), if_neg (by omega), if_neg (by omega), Nat.toDigits_of_lt_base hm, digs_pos (n := n) (by omega)]
   show _ ++ [(Nat.digitChar (n % 10)).toNat] = _
   rw [one _ hm]
theorem str_num (n : Nat) : Str.ofString (toString ((n : Nat) : Int)) = S (if n = 0 then [48] else digs n) := by
 rw [<- toDig, <- PySem.W.KIN.signs_num, S_L]
theorem zfill_num {n k : Nat} (hk : 1 <= k) : Txt.zfill (Str.ofString (toString ((n : Nat) : Int))) (k : Int) = S (fg k n) := by
 rw [str_num]
 have hd : ∀ c ∈ (if n = 0 then [48] else digs n), 48 <= c /\ c <= 57 := by
  by_cases h : n = 0
  ·rw [if_pos h]; intro c hc; rw [List.mem_singleton] at hc; omega
  ·rw [if_neg h]; exact digs_digits n
 have hf : fg k n = List.replicate (k - (if n = 0 then [48] else digs n).length) 48 ++ (if n = 0 then [48] else digs n) := by
  by_cases h : n = 0
  ·subst h
   rw [if_pos rfl]
   unfold fg
   rw [digs_zero]
   show List.replicate (k - 0) 48 ++ [] = List.replicate (k - 1) 48 ++ [48]
   rw [List.append_nil, <- List.replicate_succ']
   congr 1
   omega
  ·rw [if_neg h]
   rfl
 rw [hf]
 generalize (if n = 0 then [48] else digs n) = l at *
 unfold Txt.zfill
 rw [S_len]
 by_cases hl : (k : Int) <= (l.length : Nat)
 ·rw [if_pos hl]
  have : k - l.length = 0 := by omega
  rw [this]
  rfl
 ·rw [if_neg hl]
  have e : ((k : Int)).toNat - l.length = k - l.length := by omega
  rw [e]
  have hp : zfilled (S l) (k - l.length) = Builtin.Str.padded (S l) (k - l.length) 0 48 := by
   unfold zfilled
   cases l with
   | nil => rfl
   | cons c r =>
    have hc := hd c List.mem_cons_self
    have h0 : (S (c :: r)).cps[0]? = some c := rfl
    rw [h0]
    split
    ·rename_i z
     cases z
     omega
    ·rename_i z
     cases z
     omega
    ·rfl
  rw [hp]
  unfold Builtin.Str.padded S
  simp
theorem val_snoc (cs : List Nat) (c : Nat) : digitsVal (cs ++ [c]) = digitsVal cs * 10 + (c - 48) := digitsVal_snoc cs c
theorem val_digs (n : Nat) : digitsVal (digs n) = n := by
 induction n using Nat.strongRecOn with
 | _ n ih =>
  by_cases h : n = 0
  ·subst h; rw [digs_zero]; rfl
  ·rw [digs_pos h, val_snoc, ih (n / 10) (by omega)]
   omega
theorem val_zeros (j : Nat) (l : List Nat) : digitsVal (List.replicate j 48 ++ l) = digitsVal l := by
 induction j with
 | zero => rfl
 | succ j ih =>
  rw [List.replicate_succ, List.cons_append]
  show digitsVal (48 :: _) = _
  rw [digitsVal_zero]
  exact ih
theorem val_fg (k n : Nat) : digitsVal (fg k n) = n := by
 unfold fg
 rw [val_zeros, val_digs]
theorem int_digits {l : List Nat} (h : ∀ c ∈ l, 48 <= c /\ c <= 57) (h1 : l ≠ []) (h2 : l.length <= 640) : oIntS [.str (S l)] = some (.int ((digitsVal l : Nat) : Int)) := by
 have e := intText_digits (x := S l) (by rw [L_S]; exact h) (by rw [L_S]; exact h1) (by rw [S_len]; omega)
 rw [L_S] at e
 show (match PySem.intText? (S l) with | some n => if (S l).length <= 640 then some (PyData.int n) else none | none => none) = _
 rw [e]
 show (if (S l).length <= 640 then _ else _) = _
 rw [S_len, if_pos h2]
theorem at_one (l : List Nat) (c i : Nat) : StrLaws.At (S l) ⟨#[c]⟩ (S l).length i ↔ l[i]? = some c := by
 have := StrLaws.subAt_one (S l) c i
 rw [L_S] at this
 exact this
theorem part_at {u v : List Nat} {c : Nat} (hc : c ∉ u) : Txt.partition (S (u ++ c :: v)) ⟨#[c]⟩ = (S u, ⟨#[c]⟩, S v) := by
 have hu : (u ++ c :: v)[u.length]? = some c := by rw [List.getElem?_append_right (Nat.le_refl _)]; simp
 unfold Txt.partition
 rcases StrLaws.occ_head (S (u ++ c :: v)) ⟨#[c]⟩ 1 (Nat.le_refl 1) with ⟨_, hn⟩ | ⟨i, r, h0, hi, hn⟩
 ·exact absurd ((at_one _ c _).mpr hu) (hn u.length)
 ·have e : i = u.length := by
   rcases Nat.lt_trichotomy i u.length with h | h | h
   ·exfalso
    have h1 := (at_one _ c i).mp hi
    rw [List.getElem?_append_left h] at h1
    exact hc (List.mem_of_getElem? h1)
   ·exact h
   ·exact absurd ((at_one _ c _).mpr hu) (hn u.length h)
  subst e
  rw [h0]
  show (Builtin.Str.strSub _ 0 u.length, _, Builtin.Str.strSub _ (u.length + 1) _) = _
  have s1 : Builtin.Str.strSub (S (u ++ c :: v)) 0 u.length = S u := by
   rw [<- S_L (Builtin.Str.strSub _ _ _), StrLaws.strSub_toList, L_S]
   simp
  have s2 : Builtin.Str.strSub (S (u ++ c :: v)) (u.length + 1) (S (u ++ c :: v)).length = S v := by
   rw [<- S_L (Builtin.Str.strSub _ _ _), StrLaws.strSub_toList, L_S, S_len]
   have e : u ++ c :: v = (u ++ [c]) ++ v := by simp
   have l1 : u.length + 1 = (u ++ [c]).length := by simp
   rw [e, l1, List.drop_left]
   congr 1
   refine List.take_of_length_le ?_
   rw [List.length_append]
   omega
  rw [s1, s2]
theorem part_no {u : List Nat} {c : Nat} (hc : c ∉ u) : Txt.partition (S u) ⟨#[c]⟩ = (S u, Str.empty, Str.empty) := by
 unfold Txt.partition
 rcases StrLaws.occ_head (S u) ⟨#[c]⟩ 1 (Nat.le_refl 1) with ⟨h0, _⟩ | ⟨i, r, h0, hi, hn⟩
 ·rw [h0]
 ·exact absurd (List.mem_of_getElem? ((at_one _ c i).mp hi)) hc
end TX
namespace DL
open PySem PySem.Spec L2
section
variable {δ : DS} {f g k : DS -> M D} {fa : DS -> M (List D)} {x d : D}
theorem a2a {h : Str -> List D -> Option D} {z : Str} {xs : List D} (h1 : f δ = M.ret (.str z)) (h2 : fa δ = M.ret xs) (h3 : h z xs = some d) : dMeth h f fa δ = M.ret d := by
 unfold dMeth
 rw [h1]
 show (fa δ).thn _ = _
 rw [h2]
 show M.lift (h z xs) = _
 rw [h3]
 rfl
theorem ev_fv {z : Str} (h1 : f δ = M.ret (.str z)) (hz : small z.length = true) : dFV f δ = M.ret (.str z) := by
 unfold dFV
 rw [h1]
 show (match txtOf (.str z) with | some z => M.ret (PyData.str z) | none => none) = _
 unfold txtOf
 dsimp only
 rw [if_pos hz]
theorem ev_join0 {out : Str} (hz : small out.length = true) : joinD [] out δ = M.ret (.str out) := by unfold joinD; rw [if_pos hz]
theorem ev_joinC {fs : List (DS -> M D)} {out z y : Str} (h1 : f δ = M.ret (.str z)) (hz : small (out ++ z).length = true) (h2 : joinD fs (out ++ z) δ = M.ret (.str y)) : joinD (f :: fs) out δ = M.ret (.str y) := by
 show (f δ).thn _ = _
 rw [h1]
 show (if small (out ++ z).length = true then _ else _) = _
 rw [if_pos hz, h2]
theorem ev_chain {h h' : D -> D -> Option D} {y w : D} {b1 b2 : Bool} (h1 : f δ = M.ret x) (h2 : g δ = M.ret y) (h3 : h x y = some (.bool b1)) (h4 : k δ = M.ret w) (h5 : h' y w = some (.bool b2)) : dChain h h' f g k δ = M.ret (.bool (b1 && b2)) := by
 unfold dChain
 rw [h1, a0t, h2, a0t, h3, lift_some, a0t]
 cases b1
 ·rfl
 ·show (k δ).thn _ = _
  rw [h4, a0t, h5]
  rfl
theorem ev_cutS {fl fh : DS -> M (Option Int)} {lo hi : Option Int} (h1 : f δ = M.ret x) (h2 : fl δ = M.ret lo) (h3 : fh δ = M.ret hi) (h4 : oCutS lo hi x = some d) : dCutS f fl fh δ = M.ret d := by
 unfold dCutS; rw [h1, a0t, h2, a0t, h3, a0t, h4]; rfl
theorem o_leD {i j : Int} : oLeD (.int i) (.int j) = some (.bool (decide (i <= j))) := rfl
theorem o_neS {a b : Str} (ha : PyData.strOk a = true) (hb : PyData.strOk b = true) : oNe (.str a) (.str b) = some (.bool (!(a == b))) := by
 unfold oNe flat
 simp [PyData.canLay0, PyData.depth, PyData.eqv, ha, hb]
end
end DL
namespace TX
open PySem PySem.Spec L2 DL NumText
theorem S_beq (a b : List Nat) : (S a == S b) = decide (a = b) := by
 by_cases h : a = b
 ·subst h
  rw [decide_eq_true rfl]
  exact beq_self_eq_true _
 ·rw [decide_eq_false h]
  refine beq_eq_false_iff_ne.mpr fun e => h (S_inj e)
def isF (c : Nat) : Bool := decide (48 <= c /\ c <= 57)
def isFig (l : List Nat) : Bool := !decide (l = []) && l.all isF
def hasF (k : Nat) (l : List Nat) : Bool := decide (l.length = k) && isFig l
def hrs (l : List Nat) : Bool := hasF 2 l || (decide (3 <= l.length /\ l.length <= 20) && (isFig l && !decide (l.head? = some 48)))
def six (l : List Nat) : Bool := hasF 2 l && decide (digitsVal l < 60)
theorem isFig_of {l : List Nat} (h0 : l ≠ []) (h : ∀ c ∈ l, 48 <= c /\ c <= 57) : isFig l = true := by
 unfold isFig
 rw [decide_eq_false h0, Bool.not_false, Bool.true_and, List.all_eq_true]
 exact fun c hc => decide_eq_true (h c hc)
theorem isFig_ne {l : List Nat} (h : isFig l = true) : l ≠ [] := by
 unfold isFig at h
 rw [Bool.and_eq_true] at h
 simpa using h.1
theorem isFig_mem {l : List Nat} (h : isFig l = true) : ∀ c ∈ l, 48 <= c /\ c <= 57 := by
 unfold isFig at h
 rw [Bool.and_eq_true, List.all_eq_true] at h
 exact fun c hc => of_decide_eq_true (h.2 c hc)
def pre (c : Nat) (l : List Nat) : List Nat := l.takeWhile (· != c)
def post (c : Nat) (l : List Nat) : List Nat := (l.dropWhile (· != c)).drop 1
theorem pre_mem (c : Nat) (l : List Nat) : c ∉ pre c l := by
 induction l with
 | nil => intro h; cases h
 | cons a r ih =>
  unfold pre at ih ⊢
  by_cases h : a = c
  ·subst h
   rw [List.takeWhile_cons_of_neg (by simp)]
   intro h; cases h
  ·rw [List.takeWhile_cons_of_pos (by simpa using h)]
   intro hm
   rcases List.mem_cons.mp hm with e | e
   ·exact h e.symm
   ·exact ih e
theorem pre_app {c : Nat} {u v : List Nat} (h : c ∉ u) : pre c (u ++ c :: v) = u /\ post c (u ++ c :: v) = v := by
 induction u with
 | nil =>
  unfold pre post
  rw [List.nil_append, List.takeWhile_cons_of_neg (by simp), List.dropWhile_cons_of_neg (by simp)]
  exact ⟨rfl, rfl⟩
 | cons a r ih =>
  have ha : a ≠ c := fun e => h (e ▸ List.mem_cons_self)
  have ih := ih (fun e => h (List.mem_cons_of_mem _ e))
  unfold pre post at ih ⊢
  rw [List.cons_append, List.takeWhile_cons_of_pos (by simpa using ha), List.dropWhile_cons_of_pos (by simpa using ha), ih.1, ih.2]
  exact ⟨rfl, rfl⟩
theorem pre_no {c : Nat} {u : List Nat} (h : c ∉ u) : pre c u = u /\ post c u = [] := by
 induction u with
 | nil => exact ⟨rfl, rfl⟩
 | cons a r ih =>
  have ha : a ≠ c := fun e => h (e ▸ List.mem_cons_self)
  have ih := ih (fun e => h (List.mem_cons_of_mem _ e))
  unfold pre post at ih ⊢
  rw [List.takeWhile_cons_of_pos (by simpa using ha), List.dropWhile_cons_of_pos (by simpa using ha), ih.1, ih.2]
  exact ⟨rfl, rfl⟩
theorem cut_or (c : Nat) (l : List Nat) : (c ∉ l /\ pre c l = l /\ post c l = []) \/ l = pre c l ++ c :: post c l := by
 by_cases h : c ∈ l
 ·right
  induction l with
  | nil => cases h
  | cons a r ih =>
   by_cases ha : a = c
   ·subst ha
    have := pre_app (c := a) (u := []) (v := r) (by simp)
    rw [List.nil_append] at this
    rw [this.1, this.2]
    rfl
   ·have hr : c ∈ r := by
     rcases List.mem_cons.mp h with e | e
     ·exact absurd e.symm ha
     ·exact e
    have ih := ih hr
    unfold pre post at ih ⊢
    rw [List.takeWhile_cons_of_pos (by simpa using ha), List.dropWhile_cons_of_pos (by simpa using ha), List.cons_append, <- ih]
 ·exact .inl ⟨h, pre_no h⟩
theorem part_any (c : Nat) (l : List Nat) : ∃ w, Txt.partition (S l) ⟨#[c]⟩ = (S (pre c l), w, S (post c l)) := by
 rcases cut_or c l with ⟨h, e1, e2⟩ | e
 ·rw [e1, e2]
  exact ⟨_, part_no h⟩
 ·have := part_at (c := c) (v := post c l) (pre_mem c l)
  rw [<- e] at this
  exact ⟨_, this⟩
theorem pre_len (c : Nat) (l : List Nat) : (pre c l).length <= l.length /\ (post c l).length <= l.length := by
 rcases cut_or c l with ⟨h, e1, e2⟩ | e
 ·rw [e1, e2]
  exact ⟨Nat.le_refl _, Nat.zero_le _⟩
 ·have := congrArg List.length e
  rw [List.length_append, List.length_cons] at this
  omega
theorem o_part {c : Nat} {l : List Nat} (hl : l.length <= 1000) : ∃ w, sPartition (S l) [.str ⟨#[c]⟩] = some (.tuple [.str (S (pre c l)), .str w, .str (S (post c l))]) := by
 obtain ⟨w, e⟩ := part_any c l
 refine ⟨w, ?_⟩
 unfold sPartition
 dsimp only
 rw [if_pos, e]
 rw [Bool.and_eq_true]
 refine ⟨rfl, ?_⟩
 rw [S_len]
 exact a1a (by omega)
theorem ix_sign {l : List Nat} {i : Int} {c : Nat} (hl : l.length <= 1000) (h0 : 0 <= i) (h : l[i.toNat]? = some c) : oIx (.str (S l)) (.int i) = some (.str ⟨#[c]⟩) := by
 show (if small (S l).length = true then _ else _) = _
 rw [if_pos (by rw [S_len]; exact a1a (by omega)), L_S]
 have e := L2.atI_nat h
 rw [Int.toNat_of_nonneg h0] at e
 rw [e]
 rfl
end TX
open PySem PySem.Spec L2 DL CT TX NumText
namespace TX
theorem ok_S {l : List Nat} (h : ∀ c ∈ l, c < 1114112) : PyData.strOk (S l) = true := by
 unfold PyData.strOk S
 rw [<- Array.all_toList]
 simpa using h
theorem o_neT {a b : List Nat} (ha : ∀ c ∈ a, c < 1114112) (hb : ∀ c ∈ b, c < 1114112) : oNe (.str (S a)) (.str (S b)) = some (.bool (!decide (a = b))) := by rw [o_neS (ok_S ha) (ok_S hb), S_beq]
def Uc (l : List Nat) : Prop := ∀ c ∈ l, c < 1114112
theorem lenT {l : List Nat} (h : l.length <= 1000) : oLen [.str (S l)] = some (.int ((l.length : Nat) : Int)) := by
 show (if small (S l).length = true then _ else _) = _
 rw [S_len, if_pos (a1a (by omega))]
theorem bools_mapN (l : List Nat) (p : Nat -> Bool) : bools (l.map fun c => PyData.bool (p c)) = some (l.map p) := by
 induction l with
 | nil => rfl
 | cons a r ih =>
  show (bools (r.map fun c => PyData.bool (p c))).map _ = _
  rw [ih]
  rfl
end TX
namespace CT
theorem in_figs (c : Nat) : oInS (.str ⟨#[c]⟩) (.str "0123456789") = some (.bool (isF c)) := by
 show some (PyData.bool _) = _
 rw [StrLaws.found_one]
 congr 2
 unfold isF
 have : ("0123456789" : Str).cps.toList = [48, 49, 50, 51, 52, 53, 54, 55, 56, 57] := by decide
 rw [this]
 refine decide_eq_decide.mpr ?_
 simp only [List.mem_cons, List.not_mem_nil, or_false]
 omega
theorem are_figures_ev {l : List Nat} (hl : l.length <= 1000) (hu : Uc l) : a2n [.str (S l)] = M.ret (.bool (isFig l)) := by
 refine a0x (a0z ?_)
 have h1 : oNe (.str (S l)) (.str "") = some (.bool (!decide (l = []))) := o_neT (b := []) hu (fun _ h => nomatch h)
 refine ev_andV (ev_2 (a0d rfl) ev_c h1) ?_
 refine a2l (a0b (ev_compG (ds := signsD (S l)) (ys := l.map fun c => .bool (isF c)) (ev_any (x := .str (S l)) (a0d rfl) rfl) ?_ ?_) a0g) ?_
 ·unfold signsD
  rw [List.length_map, L_S]
  exact a1a (by omega)
 ·have := ev_compM (t := tgN 0) (f := d2 oInS (dVar 0) (dC (.str "0123456789"))) (h := fun d => match d with | .str z => .bool (z.cps.toList.all isF) | _ => .none) (fun δ => ∃ x, δ = [x]) (signsD (S l)) [.un] ⟨_, rfl⟩ (fun d hd δ hδ => by
   obtain ⟨x, rfl⟩ := hδ
   unfold signsD at hd
   obtain ⟨c, _, rfl⟩ := List.mem_map.mp hd
   refine ⟨[.vl (.str ⟨#[c]⟩)], rfl, ?_, _, rfl⟩
   refine ev_2 (a0d rfl) ev_c ?_
   rw [in_figs]
   simp)
  refine Eq.trans this ?_
  unfold signsD
  rw [List.map_map, L_S]
  congr 1
  refine List.map_congr_left fun c _ => ?_
  show PyData.bool _ = _
  simp
 ·show (bools _).map _ = _
  rw [bools_mapN]
  show some (PyData.bool _) = _
  rw [List.all_map]
  rfl
theorem has_figures_ev {l : List Nat} {k : Nat} (hl : l.length <= 1000) (hu : Uc l) : a1q [.str (S l), .int (k : Nat)] = M.ret (.bool (hasF k l)) := by
 have h1 := are_figures_ev hl hu
 have h2 := lenT hl
 refine a0x (a0z ?_)
 unfold hasF
 refine ev_andV (ev_2 (a2l (by walk_at "ev") h2) (a0d rfl) ?_) (by walk_at "ev")
 rw [o_eq]
 congr 2
 refine decide_eq_decide.mpr ?_
 omega
theorem are_sixtieths_ev {l : List Nat} (hl : l.length <= 1000) (hu : Uc l) : a2g [.str (S l)] = M.ret (.bool (six l)) := by
 have h1 := has_figures_ev (k := 2) hl hu
 refine a0x (a0z ?_)
 unfold six
 by_cases h : hasF 2 l = true
 ·rw [h, Bool.true_and]
  rw [h] at h1
  refine ev_andV_t (a0k (ds := [.str (S l), .int 2]) (by walk_at "ev") h1) ?_
  have h2 := h
  unfold hasF at h2
  rw [Bool.and_eq_true, decide_eq_true_eq] at h2
  have h3 := int_digits (isFig_mem h2.2) (isFig_ne h2.2) (by omega)
  refine ev_2 (a2l (a0b (a0d rfl) a0g) h3) ev_c ?_
  first | rw [o_lt] | rw [o_ltD]
  congr 2
  refine decide_eq_decide.mpr ?_
  omega
 ·have h := Bool.not_eq_true _ ▸ h
  rw [h, Bool.false_and]
  rw [h] at h1
  exact ev_andV_f (a0k (ds := [.str (S l), .int 2]) (by walk_at "ev") h1)
theorem are_hours_ev {l : List Nat} (hl : l.length <= 1000) (hu : Uc l) : F_are_hours [.str (S l)] = M.ret (.bool (hrs l)) := by
 have h1 := has_figures_ev (k := 2) hl hu
 have h2 := are_figures_ev hl hu
 refine a0x ?_
 unfold hrs g_are_hours
 by_cases h : hasF 2 l = true
 ·rw [h, Bool.true_or]
  rw [h] at h1
  refine ev_seqIf (b := true) (ev_b (a0k (ds := [.str (S l), .int 2]) (by walk_at "ev") h1)) (ite_T rfl (ev_seqR (a0z ev_c)))
 ·have h := Bool.not_eq_true _ ▸ h
  rw [h, Bool.false_or]
  rw [h] at h1
  refine ev_seqIf (b := false) (ev_b (a0k (ds := [.str (S l), .int 2]) (by walk_at "ev") h1)) (ite_F rfl (ev_seqN (a0z ?_)))
  have h3 := lenT hl
  have hc : dChain oLeD oLeD (dC (.int 3)) (dCB oLen (dCons (dVar 0) dNil)) (dC (.int 20)) (startD 1 [.str (S l)]) = M.ret (.bool (decide (3 <= l.length /\ l.length <= 20))) := by
   have := ev_chain (h := oLeD) (h' := oLeD) (f := dC (.int 3)) (g := dCB oLen (dCons (dVar 0) dNil)) (k := dC (.int 20)) (δ := startD 1 [.str (S l)]) ev_c (a2l (a0b (a0d rfl) a0g) h3) o_leD ev_c o_leD
   rw [this]
   congr 2
   rw [<- Bool.decide_and]
   refine decide_eq_decide.mpr ?_
   omega
  cases hb : isFig l with
  | false =>
   rw [hb] at h2
   refine ev_andV hc ?_
   rw [Bool.false_and]
   exact ev_andV_f (a0k (ds := [.str (S l)]) (by walk_at "ev") h2)
  | true =>
   rw [hb] at h2
   refine ev_andV hc (ev_andV (a0k (ds := [.str (S l)]) (by walk_at "ev") h2) ?_)
   cases l with
   | nil => exact absurd rfl (isFig_ne hb)
   | cons c r =>
    refine ev_2 (ev_2 (a0d rfl) ev_c (ix_sign (c := c) hl (by decide) rfl)) ev_c ?_
    have : oNe (.str (S [c])) (.str (S [48])) = some (.bool (!decide ([c] = [48]))) := o_neT (fun d hd => hu d (by rw [List.mem_singleton] at hd; rw [hd]; exact List.mem_cons_self)) (by decide)
    refine Eq.trans this ?_
    congr 3
    refine decide_eq_decide.mpr ?_
    simp
end CT
open PySem PySem.Spec L2 DL CT TX NumText
namespace TX
theorem Uc_pre {l : List Nat} (c : Nat) (h : Uc l) : Uc (pre c l) := fun x hx => h x ((List.takeWhile_sublist _).subset hx)
theorem Uc_post {l : List Nat} (c : Nat) (h : Uc l) : Uc (post c l) := fun x hx => h x ((List.dropWhile_sublist _).subset (List.mem_of_mem_drop hx))
def pH (l : List Nat) : List Nat := pre 58 l
def pM (l : List Nat) : List Nat := pre 58 (post 58 l)
def pS (sg : Nat) (l : List Nat) : List Nat := pre sg (post 58 (post 58 l))
def pT (sg : Nat) (l : List Nat) : List Nat := post sg (post 58 (post 58 l))
def good (sg k : Nat) (l : List Nat) : Bool := hrs (pH l) && (six (pM l) && six (pS sg l)) && hasF k (pT sg l)
theorem hasF_get {k : Nat} {l : List Nat} (h : hasF k l = true) : l.length = k /\ isFig l = true := by
 unfold hasF at h
 rw [Bool.and_eq_true, decide_eq_true_eq] at h
 exact h
theorem six_get {l : List Nat} (h : six l = true) : l.length = 2 /\ isFig l = true /\ digitsVal l < 60 := by
 unfold six at h
 rw [Bool.and_eq_true, decide_eq_true_eq] at h
 exact ⟨(hasF_get h.1).1, (hasF_get h.1).2, h.2⟩
theorem hrs_get {l : List Nat} (h : hrs l = true) : l.length <= 20 /\ isFig l = true := by
 unfold hrs at h
 simp only [Bool.or_eq_true, Bool.and_eq_true, decide_eq_true_eq] at h
 rcases h with h | h
 ·have := hasF_get h
  exact ⟨by omega, this.2⟩
 ·exact ⟨h.1.2, h.2.1⟩
theorem int_fig {l : List Nat} (h : isFig l = true) (hl : l.length <= 100) : oIntS [.str (S l)] = some (.int ((digitsVal l : Nat) : Int)) := int_digits (isFig_mem h) (isFig_ne h) (by omega)
end TX
namespace CT
theorem ev_isStr {δ : DS} {f : DS -> M D} {z : Str} (h : f δ = M.ret (.str z)) : dIs "str" f δ = M.ret (.bool true) := by
 rw [ev_is h]
 simp [isD, tyD]
theorem read_parts_ev {l : List Nat} {sg k : Nat} (hl : l.length <= 900) (hu : Uc l) (hk : k <= 100) (hg : good sg k l = true) :
  a2i [.str (S l), .str ⟨#[sg]⟩, .int (k : Nat)] = M.ret (.tuple [.int (digitsVal (pH l) : Nat), .int (digitsVal (pM l) : Nat), .int (digitsVal (pS sg l) : Nat), .int (digitsVal (pT sg l) : Nat)]) := by
 have hg0 := hg
 unfold good at hg0
 rw [Bool.and_eq_true, Bool.and_eq_true, Bool.and_eq_true] at hg0
 obtain ⟨⟨g1, g2, g3⟩, g4⟩ := hg0
 obtain ⟨w1, p1⟩ := o_part (c := 58) (l := l) (by omega)
 have l1 := pre_len 58 l
 obtain ⟨w2, p2⟩ := o_part (c := 58) (l := post 58 l) (by omega)
 have l2 := pre_len 58 (post 58 l)
 obtain ⟨w3, p3⟩ := o_part (c := sg) (l := post 58 (post 58 l)) (by omega)
 have l3 := pre_len sg (post 58 (post 58 l))
 have e1 := are_hours_ev (l := pH l) (by unfold pH; omega) (Uc_pre _ hu)
 have e2 := are_sixtieths_ev (l := pM l) (by unfold pM; omega) (Uc_pre _ (Uc_post _ hu))
 have e3 := are_sixtieths_ev (l := pS sg l) (by unfold pS; omega) (Uc_pre _ (Uc_post _ (Uc_post _ hu)))
 have e4 := has_figures_ev (l := pT sg l) (k := k) (by unfold pT; omega) (Uc_post _ (Uc_post _ (Uc_post _ hu)))
 rw [g1] at e1
 rw [g2] at e2
 rw [g3] at e3
 rw [g4] at e4
 have i1 := int_fig (hrs_get g1).2 (by have := (hrs_get g1).1; omega)
 have i2 := int_fig (six_get g2).2.1 (by have := (six_get g2).1; omega)
 have i3 := int_fig (six_get g3).2.1 (by have := (six_get g3).1; omega)
 have i4 := int_fig (hasF_get g4).2 (by have := (hasF_get g4).1; omega)
 refine a0x ?_
 unfold g_read_parts
 refine a1p (b := false) (a1x (b := true) (ev_b (ev_isStr (a0d rfl)))) rfl ?_
 refine a0p (a0y (a2a (a0d rfl) (a0b ev_c a0g) p1)) ?_
 refine a0p (a0y (a2a (ev_2 (a0d rfl) ev_c rfl) (a0b ev_c a0g) p2)) ?_
 refine a0p (a0y (a2a (ev_2 (a0d rfl) ev_c rfl) (a0b (a0d rfl) a0g) p3)) ?_
 refine a1p (b := false) (a1x (b := true) (ev_and (b1 := true) (ev_b (a0k (a0b (ev_2 (a0d rfl) ev_c rfl) a0g) e1)) (ev_and (b1 := true) (b2 := true) (ev_b (a0k (a0b (ev_2 (a0d rfl) ev_c rfl) a0g) e2)) (ev_b (a0k (a0b (ev_2 (a0d rfl) ev_c rfl) a0g) e3))))) rfl ?_
 refine a1p (b := false) (a1x (b := true) (ev_b (a0k (a0b (ev_2 (a0d rfl) ev_c rfl) (a0b (a0d rfl) a0g)) e4))) rfl ?_
 refine a0z (ev_tup (a0b (a2l (a0b (ev_2 (a0d rfl) ev_c rfl) a0g) i1) (a0b (a2l (a0b (ev_2 (a0d rfl) ev_c rfl) a0g) i2) (a0b (a2l (a0b (ev_2 (a0d rfl) ev_c rfl) a0g) i3) (a0b (a2l (a0b (ev_2 (a0d rfl) ev_c rfl) a0g) i4) a0g)))) rfl)
end CT
namespace TX
end TX
open PySem PySem.Spec L2 DL CT TX NumText
namespace TX
theorem o_strN {v : Int} (h : v.natAbs < 1267650600228229401496703205376) : oStr [.int v] = some (.str (Str.ofString (toString v))) := by
 refine if_pos ?_
 by_cases hz : v.natAbs = 0
 ·rw [hz]; decide
 ·have : v.natAbs.log2 < 100 := (Nat.log2_lt hz).mpr (by
   have e : (2 : Nat) ^ 100 = 1267650600228229401496703205376 := by decide
   omega)
  omega
theorem o_divN {n k m : Nat} (hk : 0 < k) (hk2 : k < 1267650600228229401496703205376) (h : n / k = m) : oDiv (.int (n : Nat)) (.int (k : Nat)) = some (.int (m : Nat)) := by
 rw [o_div (bDiv_of (by omega) (by omega)), <- h]
 rfl
theorem o_modN {n k m : Nat} (hk : 0 < k) (h : n % k = m) : oMod (.int (n : Nat)) (.int (k : Nat)) = some (.int (m : Nat)) := by
 rw [o_mod (by omega), <- h]
 rfl
theorem fg_le {k n j : Nat} (h : n < 10 ^ j) : (fg k n).length <= k + j := by
 unfold fg
 have := digs_len j n h
 rw [List.length_append, List.length_replicate]
 omega
theorem pads : ∀ k : Nat, k <= 100 -> PadOk (k : Nat) = true := fun k hk => (show ∀ k : Nat, k < 101 -> PadOk (k : Nat) = true by decide +kernel) k (by omega)
theorem S_zfill {n k : Nat} (hk : 1 <= k) (hk2 : k <= 100) : sZfill (Str.ofString (toString ((n : Nat) : Int))) [.int (k : Nat)] = some (.str (S (fg k n))) := by
 unfold sZfill
 dsimp only
 rw [if_pos (pads k hk2), zfill_num hk]
def txt (sg k h m s t : Nat) : List Nat := fg 2 h ++ 58 :: (fg 2 m ++ 58 :: (fg 2 s ++ sg :: fg k t))
end TX
open PySem PySem.Spec L2 DL TX NumText
namespace TX
theorem digs_head {n : Nat} (h : n ≠ 0) : ∃ c r, digs n = c :: r /\ c ≠ 48 := by
 induction n using Nat.strongRecOn with
 | _ n ih =>
  rw [digs_pos h]
  by_cases hz : n / 10 = 0
  ·rw [hz, digs_zero]
   exact ⟨_, _, rfl, by omega⟩
  ·obtain ⟨c, r, e, hc⟩ := ih (n / 10) (by omega) hz
   rw [e]
   exact ⟨c, _, rfl, hc⟩
theorem fg_ne {k n : Nat} (hk : 1 <= k) : fg k n ≠ [] := by
 rw [fg_step (.inr (by omega))]
 simp
theorem hrs_fg {h : Nat} (hh : h < 10 ^ 20) : hrs (fg 2 h) = true := by
 have hf := isFig_of (fg_ne (k := 2) (n := h) (by decide)) (fg_digits 2 h)
 unfold hrs hasF
 by_cases h2 : h < 100
 ·rw [fg_len (k := 2) (by omega), hf]
  rfl
 ·have l1 := digs_len_ge 2 h (by omega)
  have l2 := digs_len 20 h hh
  have e : fg 2 h = digs h := by
   unfold fg
   rw [show 2 - (digs h).length = 0 by omega]
   rfl
  obtain ⟨c, r, e2, hc⟩ := digs_head (n := h) (by omega)
  rw [hf, e]
  rw [decide_eq_true (show 3 <= (digs h).length /\ (digs h).length <= 20 by omega), e2, decide_eq_false (show ¬ (List.head? (c :: r) = some 48) by simpa using hc)]
  simp
theorem six_fg {m : Nat} (hm : m < 60) : six (fg 2 m) = true := by
 unfold six hasF
 rw [fg_len (k := 2) (by omega), isFig_of (fg_ne (by decide)) (fg_digits 2 m), val_fg, decide_eq_true hm]
 rfl
theorem hasF_fg {k t : Nat} (hk : 1 <= k) (ht : t < 10 ^ k) : hasF k (fg k t) = true := by
 unfold hasF
 rw [fg_len ht, isFig_of (fg_ne hk) (fg_digits k t), decide_eq_true rfl]
 rfl
theorem no_fig {k n c : Nat} (hc : c < 48 \/ 57 < c) : c ∉ fg k n := fun h => by
 have := fg_digits k n c h
 omega
theorem parts_txt {sg k h m s t : Nat} (hsg : sg < 48 \/ 57 < sg) : pH (txt sg k h m s t) = fg 2 h /\ pM (txt sg k h m s t) = fg 2 m /\ pS sg (txt sg k h m s t) = fg 2 s /\ pT sg (txt sg k h m s t) = fg k t := by
 unfold pH pM pS pT txt
 have e1 := pre_app (c := 58) (u := fg 2 h) (v := fg 2 m ++ 58 :: (fg 2 s ++ sg :: fg k t)) (no_fig (by omega))
 have e2 := pre_app (c := 58) (u := fg 2 m) (v := fg 2 s ++ sg :: fg k t) (no_fig (by omega))
 have e3 := pre_app (c := sg) (u := fg 2 s) (v := fg k t) (no_fig hsg)
 rw [e1.1, e1.2, e2.1, e2.2, e3.1, e3.2]
 exact ⟨rfl, rfl, rfl, rfl⟩
theorem good_txt {sg k h m s t : Nat} (hsg : sg < 48 \/ 57 < sg) (hh : h < 10 ^ 20) (hm : m < 60) (hs : s < 60) (hk : 1 <= k) (ht : t < 10 ^ k) : good sg k (txt sg k h m s t) = true := by
 obtain ⟨e1, e2, e3, e4⟩ := parts_txt (sg := sg) (k := k) (h := h) (m := m) (s := s) (t := t) hsg
 unfold good
 rw [e1, e2, e3, e4, hrs_fg hh, six_fg hm, six_fg hs, hasF_fg hk ht]
 rfl
theorem Uc_txt {sg k h m s t : Nat} (hsg : sg < 200) : Uc (txt sg k h m s t) := by
 intro c hc
 unfold txt at hc
 simp only [List.mem_append, List.mem_cons] at hc
 rcases hc with hc | rfl | hc | rfl | hc | rfl | hc
 ·have := fg_digits _ _ c hc; omega
 ·omega
 ·have := fg_digits _ _ c hc; omega
 ·omega
 ·have := fg_digits _ _ c hc; omega
 ·omega
 ·have := fg_digits _ _ c hc; omega
theorem txt_len {sg k h m s t : Nat} (hh : h < 10 ^ 30) (hm : m < 10 ^ 2) (hs : s < 10 ^ 2) (ht : t < 10 ^ k) : (txt sg k h m s t).length <= 39 + k := by
 have l1 := fg_le (k := 2) hh
 have l2 := fg_len hm
 have l3 := fg_len hs
 have l4 := fg_len ht
 unfold txt
 simp only [List.length_append, List.length_cons]
 omega
end TX
open PySem PySem.Spec L2 DL TX NumText
namespace TX
end TX
open PySem PySem.Spec L2 DL
namespace DL
section
variable {δ δ' : DS} {c : DS -> M Bool} {f : DS -> M D} {t : D -> DS -> Option DS} {y d : D} {ds ys : List D}
end
end DL
namespace DL
theorem forD_cons {body : D -> DS -> M Out} {d : D} {ds : List D} {δ δ' : DS} {r : M Out} (h1 : body d δ = M.ret (.nx δ')) (h2 : forD body ds δ' = r) : forD body (d :: ds) δ = r := by
 show (body d δ).thn _ = _
 rw [h1]
 exact h2
end DL
namespace DL
section
variable {f fi : DS -> M D} {δ : DS} {ds es : List D} {d : D} {i j m : Nat} {k n a : Int}
end
end DL
namespace DL
end DL
open PySem PySem.Spec L2 DL CT TX NumText
namespace CT
def jn (c : Nat) : List (List Nat) -> List Nat
 | [] => []
 | [a] => a
 | a :: b :: r => a ++ c :: jn c (b :: r)
theorem jn_cons (c : Nat) (a : List Nat) {r : List (List Nat)} (h : r ≠ []) : jn c (a :: r) = a ++ c :: jn c r := by
 cases r with
 | nil => exact absurd rfl h
 | cons b r => rfl
theorem join_S (c : Nat) : ∀ ts : List (List Nat), (S [c]).join (ts.map S) = S (jn c ts)
 | [] => rfl
 | [a] => rfl
 | a :: b :: r => by
  have ih := join_S c (b :: r)
  show S a ++ S [c] ++ (S [c]).join ((b :: r).map S) = _
  rw [ih, S_app, S_app, List.append_assoc]
  rfl
def tot : List (List Nat) -> Nat
 | [] => 0
 | a :: r => a.length + 1 + tot r
theorem jn_len (c : Nat) : ∀ {ts : List (List Nat)}, ts ≠ [] -> (jn c ts).length + 1 = tot ts
 | [], h => absurd rfl h
 | [a], _ => rfl
 | a :: b :: r, _ => by
  have ih := jn_len c (ts := b :: r) (by simp)
  rw [jn_cons c a (by simp), List.length_append, List.length_cons, tot]
  omega
theorem strsOf_S (ts : List (List Nat)) : strsOf (ts.map fun l => PyData.str (S l)) = some (ts.map S) := by
 induction ts with
 | nil => rfl
 | cons a r ih => show (strsOf (r.map _)).map _ = _; rw [ih]; rfl
theorem joinOk_S {c : Nat} {ts : List (List Nat)} (h : tot ts <= 1000000) : JoinOk (S [c]) (ts.map S) = true := by
 have main : ∀ (ts : List (List Nat)) (a : Nat), (ts.map S).foldl (fun x1 x2 => x1 + x2.length + (S [c]).length) a = a + tot ts := by
  intro ts
  induction ts with
  | nil => intro a; rfl
  | cons t r ih =>
   intro a
   rw [List.map_cons, List.foldl_cons, ih, S_len, S_len, tot]
   show a + t.length + 1 + tot r = _
   omega
 unfold JoinOk
 have e := main ts 0
 rw [show Array.foldl (fun x1 x2 => x1 + x2.length + (S [c]).length) 0 (ts.map S).toArray = tot ts by rw [List.foldl_toArray' (h := rfl), e]; omega]
 show (!decide (tot ts > sizeLine)) = true
 rw [sizeLine_eq, decide_eq_false (by omega)]
 rfl
theorem o_join {c : Nat} {ts : List (List Nat)} (h : tot ts <= 1000000) : sJoin (S [c]) [.list (ts.map fun l => .str (S l))] = some (.str (S (jn c ts))) := by
 show (match strsOf (ts.map fun l => PyData.str (S l)) with | some ts => if JoinOk (S [c]) ts then some (PyData.str (Txt.join (S [c]) ts)) else none | none => none) = _
 rw [strsOf_S]
 show (if JoinOk (S [c]) (ts.map S) = true then some (PyData.str (Builtin.Str.glued (S [c]) (ts.map S))) else none) = _
 rw [if_pos (joinOk_S h), StrLaws.glued_eq_join, join_S]
theorem jn_inj {c : Nat} : ∀ {ts us : List (List Nat)}, ts ≠ [] -> us ≠ [] -> (∀ t ∈ ts, c ∉ t) -> (∀ t ∈ us, c ∉ t) -> jn c ts = jn c us -> ts = us
 | [], _, h, _, _, _, _ => absurd rfl h
 | _, [], _, h, _, _, _ => absurd rfl h
 | [a], [b], _, _, _, _, e => by rw [show a = b from e]
 | [a], b :: b' :: us, _, _, h1, _, e => by
  have e : a = b ++ c :: jn c (b' :: us) := e
  exact absurd (by rw [e]; simp : c ∈ a) (h1 a List.mem_cons_self)
 | a :: a' :: ts, [b], _, _, _, h2, e => by
  have e : a ++ c :: jn c (a' :: ts) = b := e
  exact absurd (by rw [<- e]; simp : c ∈ b) (h2 b List.mem_cons_self)
 | a :: a' :: ts, b :: b' :: us, _, _, h1, h2, e => by
  have e : a ++ c :: jn c (a' :: ts) = b ++ c :: jn c (b' :: us) := e
  have p1 := pre_app (v := jn c (a' :: ts)) (h1 a List.mem_cons_self)
  have p2 := pre_app (v := jn c (b' :: us)) (h2 b List.mem_cons_self)
  rw [e] at p1
  have q1 : b = a := p2.1.symm.trans p1.1
  have q2 : jn c (b' :: us) = jn c (a' :: ts) := p2.2.symm.trans p1.2
  have ih := jn_inj (ts := a' :: ts) (us := b' :: us) (by simp) (by simp) (fun t ht => h1 t (List.mem_cons_of_mem _ ht)) (fun t ht => h2 t (List.mem_cons_of_mem _ ht)) q2.symm
  rw [q1, ih]
theorem split_ne (x y : Str) : Txt.split x y ≠ [] := by
 unfold Txt.split
 split
 ·simp
 ·split
  ·simp
  ·intro z
   have := congrArg List.length z
   rw [length_partsBetween] at this
   simp at this
theorem split_is {c : Nat} {ts : List (List Nat)} (h0 : ts ≠ []) (h : ∀ t ∈ ts, c ∉ t) : Txt.split (S (jn c ts)) (S [c]) = ts.map S := by
 have e1 := StrLaws.join_split (S (jn c ts)) (S [c])
 have e2 : ∀ p, p ∈ Txt.split (S (jn c ts)) (S [c]) -> ¬ c ∈ p.cps.toList := fun p => StrLaws.split_free (S (jn c ts)) c p
 have e3 := split_ne (S (jn c ts)) (S [c])
 generalize Txt.split (S (jn c ts)) (S [c]) = ps at *
 have hp : ps = (ps.map fun p => p.cps.toList).map S := by
  rw [List.map_map]
  conv => lhs; rw [<- List.map_id ps]
  exact List.map_congr_left fun p _ => (S_L p).symm
 rw [hp, join_S] at e1
 have e4 := S_inj e1
 have := jn_inj (by simpa using e3) h0 (fun t ht => by
  obtain ⟨p, hp, rfl⟩ := List.mem_map.mp ht
  exact e2 p hp) h e4
 rw [hp, this]
theorem len_tot : ∀ ts : List (List Nat), ts.length <= tot ts
 | [] => Nat.zero_le _
 | a :: r => by have := len_tot r; rw [List.length_cons, tot]; omega
theorem o_split {c : Nat} {ts : List (List Nat)} (h0 : ts ≠ []) (h : ∀ t ∈ ts, c ∉ t) (hz : tot ts <= 1000000) : sSplit (S (jn c ts)) [.str (S [c])] = some (.list (ts.map fun l => .str (S l))) := by
 have hl := jn_len c h0
 show (if splitOk (S (jn c ts)) (S [c]) = true then some (PyData.list ((Txt.split (S (jn c ts)) (S [c])).map PyData.str)) else none) = _
 have ok : splitOk (S (jn c ts)) (S [c]) = true := by
  unfold splitOk
  have h1 : ((S [c]).length == 0) == false := by rw [S_len]; rfl
  have h2 : small (S (jn c ts)).length = true := a1a (by rw [S_len]; omega)
  have hts := len_tot ts
  have h3 : small (Txt.split (S (jn c ts)) (S [c])).length = true := a1a (by rw [split_is h0 h, List.length_map]; omega)
  have h4 : small (Builtin.Str.partsBetween (S (jn c ts)) (Builtin.Str.occurrences (S (jn c ts)) (S [c]) 0 (S (jn c ts)).length ((S (jn c ts)).length + 1)) (S [c]).length).length = true := a1a (by
   rw [length_partsBetween]
   have := StrLaws.occ_length_le (S (jn c ts)) (S [c]) 0 (S (jn c ts)).length ((S (jn c ts)).length + 1)
   rw [S_len] at this ⊢
   omega)
  rw [h1, h2, h3, h4]
  rfl
 rw [if_pos ok, split_is h0 h, List.map_map]
 rfl
end CT
open PySem PySem.Spec L2 DL CT TX NumText
namespace CT
theorem show_parts_ev {sg k h m s t : Nat} (k1 : 1 <= k) (k2 : k <= 100) (hh : h < 10 ^ 30) (hm : m < 10 ^ 30) (hs : s < 10 ^ 30) (ht : t < 10 ^ 30) :
  F_show_parts [.tuple [.int (h : Nat), .int (m : Nat), .int (s : Nat), .int (t : Nat)], .str (S [sg]), .int (k : Nat)] = M.ret (.str (S (txt sg k h m s t))) := by
 have st : ∀ n : Nat, n < 10 ^ 30 -> oStr [.int (n : Nat)] = some (.str (Str.ofString (toString ((n : Nat) : Int)))) := fun n hn => o_strN (by omega)
 have l1 := fg_le (k := 2) hh
 have l2 := fg_le (k := 2) hm
 have l3 := fg_le (k := 2) hs
 have l4 := fg_le (k := k) ht
 refine a0x ?_
 unfold g_show_parts
 refine a0p (a0y (a2a (a2l (a0b (ev_2 (a0d rfl) ev_c rfl) a0g) (st h hh)) (a0b ev_c a0g) (S_zfill (k := 2) (by decide) (by decide)))) ?_
 refine a0p (a0y (a2a (a2l (a0b (ev_2 (a0d rfl) ev_c rfl) a0g) (st m hm)) (a0b ev_c a0g) (S_zfill (k := 2) (by decide) (by decide)))) ?_
 refine a0p (a0y (a2a (a2l (a0b (ev_2 (a0d rfl) ev_c rfl) a0g) (st s hs)) (a0b ev_c a0g) (S_zfill (k := 2) (by decide) (by decide)))) ?_
 refine a0p (a0y (a2a (a2l (a0b (ev_2 (a0d rfl) ev_c rfl) a0g) (st t ht)) (a0b (a0d rfl) a0g) (S_zfill k1 k2))) ?_
 have sm : ∀ l : List Nat, l.length <= 1000 -> small (S l).length = true := fun l hl => by rw [S_len]; exact a1a (by omega)
 have ap : ∀ (a b : List Nat), S a ++ S b = S (a ++ b) := S_app
 refine a0z (Eq.trans (ev_joinC (z := S (fg 2 h)) (y := S (((((([] ++ fg 2 h) ++ [58]) ++ fg 2 m) ++ [58]) ++ fg 2 s) ++ [sg] ++ fg k t)) (ev_fv (a0d rfl) (sm _ (by omega))) ?_ ?_) ?_)
 ·rw [<- S_nil, S_app]
  exact sm _ (by simp only [List.length_append, List.length_nil]; omega)
 rw [<- S_nil, S_app]
 refine ev_joinC (z := S [58]) ev_c ?_ ?_
 ·rw [S_app]
  exact sm _ (by simp only [List.length_append, List.length_nil, List.length_singleton]; omega)
 rw [S_app]
 refine ev_joinC (z := S (fg 2 m)) (ev_fv (a0d rfl) (sm _ (by omega))) ?_ ?_
 ·rw [S_app]
  exact sm _ (by simp only [List.length_append, List.length_nil, List.length_singleton]; omega)
 rw [S_app]
 refine ev_joinC (z := S [58]) ev_c ?_ ?_
 ·rw [S_app]
  exact sm _ (by simp only [List.length_append, List.length_nil, List.length_singleton]; omega)
 rw [S_app]
 refine ev_joinC (z := S (fg 2 s)) (ev_fv (a0d rfl) (sm _ (by omega))) ?_ ?_
 ·rw [S_app]
  exact sm _ (by simp only [List.length_append, List.length_nil, List.length_singleton]; omega)
 rw [S_app]
 refine ev_joinC (z := S [sg]) (ev_fv (a0d rfl) rfl) ?_ ?_
 ·rw [S_app]
  exact sm _ (by simp only [List.length_append, List.length_nil, List.length_singleton]; omega)
 rw [S_app]
 refine ev_joinC (z := S (fg k t)) (ev_fv (a0d rfl) (sm _ (by omega))) ?_ ?_
 ·rw [S_app]
  exact sm _ (by simp only [List.length_append, List.length_nil, List.length_singleton]; omega)
 rw [S_app]
 refine ev_join0 (sm _ (by simp only [List.length_append, List.length_nil, List.length_singleton]; omega))
 ·unfold txt
  simp
end CT
open PySem PySem.Spec L2 DL CT TX NumText
namespace CT
theorem show_moment_ev {n : Nat} (hn : n < 10 ^ 30) : F_show_moment [.int (n : Nat)] = M.ret (.str (S (txt 46 3 (n / 3600000) (n / 60000 % 60) (n / 1000 % 60) (n % 1000)))) := by
 have h1 := show_parts_ev (sg := 46) (k := 3) (h := n / 3600000) (m := n / 60000 % 60) (s := n / 1000 % 60) (t := n % 1000) (by decide) (by decide) (by omega) (by omega) (by omega) (by omega)
 have q1 : oDiv (.int (n : Nat)) (.int 1000) = some (.int ((n / 1000 : Nat) : Int)) := o_divN (k := 1000) (by decide) (by decide) rfl
 have q2 : oDiv (.int ((n / 1000 : Nat) : Int)) (.int 60) = some (.int ((n / 60000 : Nat) : Int)) := o_divN (k := 60) (by decide) (by decide) (by omega)
 have q3 : oDiv (.int ((n / 60000 : Nat) : Int)) (.int 60) = some (.int ((n / 3600000 : Nat) : Int)) := o_divN (k := 60) (by decide) (by decide) (by omega)
 have q4 : oMod (.int ((n / 60000 : Nat) : Int)) (.int 60) = some (.int ((n / 60000 % 60 : Nat) : Int)) := o_modN (k := 60) (by decide) rfl
 have q5 : oMod (.int ((n / 1000 : Nat) : Int)) (.int 60) = some (.int ((n / 1000 % 60 : Nat) : Int)) := o_modN (k := 60) (by decide) rfl
 have q6 : oMod (.int (n : Nat)) (.int 1000) = some (.int ((n % 1000 : Nat) : Int)) := o_modN (k := 1000) (by decide) rfl
 refine a0x ?_
 unfold g_show_moment
 refine a0p (a0y (ev_2 (a0d rfl) ev_c q1)) ?_
 refine a0p (a0y (ev_2 (a0d rfl) ev_c q2)) ?_
 exact a0z (a0k (a0b (ev_tup (a0b (ev_2 (a0d rfl) ev_c q3) (a0b (ev_2 (a0d rfl) ev_c q4) (a0b (ev_2 (a0d rfl) ev_c q5) (a0b (ev_2 (a0d rfl) ev_c q6) a0g)))) rfl) (a0b ev_c (a0b ev_c a0g))) h1)
end CT
open PySem PySem.Spec L2 DL CT TX NumText
namespace CT
theorem read_moment_ev {l : List Nat} (hl : l.length <= 900) (hu : Uc l) (hg : good 46 3 l = true) :
  F_read_moment [.str (S l)] = M.ret (.int (1000 * (60 * (60 * (digitsVal (pH l) : Nat) + (digitsVal (pM l) : Nat)) + (digitsVal (pS 46 l) : Nat)) + (digitsVal (pT 46 l) : Nat))) := by
 have h1 := read_parts_ev hl hu (by decide) hg
 refine a0x ?_
 unfold g_read_moment
 refine a0p (a0y (by first | exact a0k (a0b (a0d rfl) (a0b ev_c (a0b ev_c a0g))) h1 | exact ev_callX (a0b (a0d rfl) (a0b ev_c (a0b ev_c a0g))) h1)) ?_
 clear h1
 obtain ⟨a, ha⟩ : ∃ a : Int, a = ((digitsVal (pH l) : Nat) : Int) := ⟨_, rfl⟩
 obtain ⟨b, hb⟩ : ∃ a : Int, a = ((digitsVal (pM l) : Nat) : Int) := ⟨_, rfl⟩
 obtain ⟨c, hc⟩ : ∃ a : Int, a = ((digitsVal (pS 46 l) : Nat) : Int) := ⟨_, rfl⟩
 obtain ⟨d, hd⟩ : ∃ a : Int, a = ((digitsVal (pT 46 l) : Nat) : Int) := ⟨_, rfl⟩
 rw [<- ha, <- hb, <- hc, <- hd]
 walk_at "ev"
end CT
open PySem PySem.Spec L2 DL CT TX NumText
namespace TX
end TX
namespace CT
theorem read_parts_bad {l : List Nat} {sg k : Nat} (hl : l.length <= 900) (hu : Uc l) (hg : good sg k l = false) :
  a2i [.str (S l), .str ⟨#[sg]⟩, .int (k : Nat)] = some (.error ⟨"NoTime", []⟩) := by
 unfold good at hg
 obtain ⟨w1, p1⟩ := o_part (c := 58) (l := l) (by omega)
 have l1 := pre_len 58 l
 obtain ⟨w2, p2⟩ := o_part (c := 58) (l := post 58 l) (by omega)
 have l2 := pre_len 58 (post 58 l)
 obtain ⟨w3, p3⟩ := o_part (c := sg) (l := post 58 (post 58 l)) (by omega)
 have l3 := pre_len sg (post 58 (post 58 l))
 have e1 := are_hours_ev (l := pH l) (by unfold pH; omega) (Uc_pre _ hu)
 have e2 := are_sixtieths_ev (l := pM l) (by unfold pM; omega) (Uc_pre _ (Uc_post _ hu))
 have e3 := are_sixtieths_ev (l := pS sg l) (by unfold pS; omega) (Uc_pre _ (Uc_post _ (Uc_post _ hu)))
 have e4 := has_figures_ev (l := pT sg l) (k := k) (by unfold pT; omega) (Uc_post _ (Uc_post _ (Uc_post _ hu)))
 refine er_run ?_
 unfold g_read_parts
 refine a1p (b := false) (a1x (b := true) (ev_b (ev_isStr (a0d rfl)))) rfl ?_
 refine a0p (a0y (a2a (a0d rfl) (a0b ev_c a0g) p1)) ?_
 refine a0p (a0y (a2a (ev_2 (a0d rfl) ev_c rfl) (a0b ev_c a0g) p2)) ?_
 refine a0p (a0y (a2a (ev_2 (a0d rfl) ev_c rfl) (a0b (a0d rfl) a0g) p3)) ?_
 by_cases hc : (hrs (pH l) && (six (pM l) && six (pS sg l))) = true
 ·rw [hc, Bool.true_and] at hg
  rw [hg] at e4
  refine a1p (b := false) (a1x (b := true) (Eq.trans (ev_and (ev_b (a0k (a0b (ev_2 (a0d rfl) ev_c rfl) a0g) e1)) (ev_and (ev_b (a0k (a0b (ev_2 (a0d rfl) ev_c rfl) a0g) e2)) (ev_b (a0k (a0b (ev_2 (a0d rfl) ev_c rfl) a0g) e3)))) (by rw [hc]))) rfl ?_
  exact er_seq (er_if_t (a1x (b := false) (ev_b (a0k (a0b (ev_2 (a0d rfl) ev_c rfl) (a0b (a0d rfl) a0g)) e4))) (ev_raise (a0b ev_c a0g) rfl))
 ·have hc := Bool.not_eq_true _ ▸ hc
  exact er_seq (er_if_t (a1x (b := false) (Eq.trans (ev_and (ev_b (a0k (a0b (ev_2 (a0d rfl) ev_c rfl) a0g) e1)) (ev_and (ev_b (a0k (a0b (ev_2 (a0d rfl) ev_c rfl) a0g) e2)) (ev_b (a0k (a0b (ev_2 (a0d rfl) ev_c rfl) a0g) e3)))) (by rw [hc]))) (ev_raise (a0b ev_c a0g) rfl))
theorem er_asg {δ : DS} {f : DS -> M D} {t : D -> DS -> Option DS} {y : XD} (h : f δ = some (.error y)) : gAsg f t δ = some (.error y) := by unfold gAsg; rw [h]; rfl
end CT
open PySem PySem.Spec L2 DL CT TX NumText
namespace CT
theorem read_moment_bad {l : List Nat} (hl : l.length <= 900) (hu : Uc l) (hg : good 46 3 l = false) : F_read_moment [.str (S l)] = some (.error ⟨"NoTime", []⟩) := by
 refine er_run ?_
 unfold g_read_moment
 exact er_seq (er_asg (er_callX (a0b (a0d rfl) (a0b ev_c (a0b ev_c a0g))) (read_parts_bad hl hu hg)))
end CT
open PySem PySem.Spec L2 DL CT FM
namespace CT
abbrev nb (b l e : Int) : D := .tuple [.int b, .int l, .int e]
abbrev lt (h m s g : Int) : D := .tuple [.int h, .int m, .int s, .int g]
def okP : D -> Bool
 | .int i => decide (0 <= i)
 | _ => false
theorem is_whole_int (i : Int) : a2f [.int i] = M.ret (.bool true) := rfl
theorem part_ev (i : Int) : (dAndV (dCall (fun ds => noX (a2f ds)) (dCons (dVar 0) dNil)) (d2 oGe (dVar 0) (dC (.int 0)))) [.vl (.int i)] = M.ret (.bool (okP (.int i))) := ev_andV_t (a0k (ds := [.int i]) (by walk_at "ev") (is_whole_int i)) (ev_2 (a0d rfl) ev_c o_ge)
theorem bools_map (g : D -> Bool) (ds : List D) : bools (ds.map fun d => PyData.bool (g d)) = some (ds.map g) := by
 induction ds with
 | nil => rfl
 | cons d ds ih =>
  show (bools (ds.map fun d => PyData.bool (g d))).map (g d :: ·) = _
  rw [ih]
  rfl
theorem o_all_map (g : D -> Bool) (ds : List D) : oAll [.list (ds.map fun d => PyData.bool (g d))] = some (.bool (ds.all g)) := by
 show (bools (ds.map fun d => PyData.bool (g d))).map (fun bs => PyData.bool (bs.all id)) = _
 rw [bools_map]
 show some (PyData.bool ((ds.map g).all id)) = _
 rw [List.all_map]
 rfl
theorem has_form_tup {b l e : Int} {ds : List D} (hi : ∀ d ∈ ds, ∃ i, d = PyData.int i) (h4 : ds.length = 4) {r : D} (hr : ds.all okP = true -> (dAndV (d2 oLt (d2 oIx (dVar 1) (dC (.int 1))) (dC (.int 60))) (dAndV (d2 oLt (d2 oIx (dVar 1) (dC (.int 2))) (dC (.int 60))) (d2 oLt (d2 oIx (dVar 1) (dC (.int 3))) (d2 oIx (dVar 0) (dC (.int 0)))))) [.vl (nb b l e), .vl (.tuple ds)] = M.ret r) (hn : ds.all okP = false -> r = .bool false) :
  F_has_form [nb b l e, .tuple ds] = M.ret r := by
 refine a0x ?_
 unfold g_has_form
 refine a1p (b := false) (ev_or_f (a1x (b := true) (ev_b (ev_is (d := .tuple ds) (a0d rfl)))) ?_) rfl ?_
 ·refine ev_b (ev_2 (a2l (ds := [.tuple ds]) (by walk_at "ev") o_lenT) ev_c ?_)
  rw [o_ne, decide_eq_true (by omega)]
  rfl
 have hc : dCB oAll (dCons (dCompG 1 [] (tgN 0) (dAny (dVar 1)) dYes (dAndV (dCall (fun ds => noX (a2f ds)) (dCons (dVar 0) dNil)) (d2 oGe (dVar 0) (dC (.int 0))))) dNil) (startD 2 [nb b l e, .tuple ds]) = M.ret (.bool (ds.all okP)) := by
  refine a2l (a0b (ev_compG (ev_any (x := .tuple ds) (a0d rfl) rfl) (a1a (by omega)) (ev_compM (h := fun d => .bool (okP d)) (fun δ => ∃ s, δ = [s]) _ _ ⟨_, rfl⟩ fun d hd δ hδ => ?_)) a0g) (o_all_map okP ds)
  obtain ⟨s, rfl⟩ := hδ
  obtain ⟨i, rfl⟩ := hi d hd
  exact ⟨[.vl (.int i)], rfl, part_ev i, _, rfl⟩
 cases ha : ds.all okP with
 | true =>
  rw [ha] at hc
  exact a1p (b := false) (a1x (b := true) (ev_b hc)) rfl (a0z (hr ha))
 | false =>
  rw [ha] at hc
  rw [hn ha]
  exact ev_seqIf (b := true) (a1x (b := false) (ev_b hc)) (ite_T rfl (ev_seqR (a0z ev_c)))
theorem minute_ev (h m : Int) (s g : D) : F_minute_of [.tuple [.int h, .int m, s, g]] = M.ret (.int (60 * h + m)) := by
 refine a0x ?_
 unfold g_minute_of
 walk_at "ev"
theorem has_form_yes {b l e h m s g : Int} (h0 : 0 <= h) (m0 : 0 <= m) (s0 : 0 <= s) (g0 : 0 <= g) (m1 : m < 60) (s1 : s < 60) (g1 : g < b) : F_has_form [nb b l e, lt h m s g] = M.ret (.bool true) := by
 refine has_form_tup (ds := [.int h, .int m, .int s, .int g]) (fun d hd => by simp only [List.mem_cons, List.not_mem_nil, or_false] at hd; rcases hd with rfl | rfl | rfl | rfl <;> exact ⟨_, rfl⟩) rfl (fun _ => ?_) (fun z => ?_)
 ·have e1 : (decide (m < 60) && (decide (s < 60) && decide (g < b))) = true := by rw [decide_eq_true m1, decide_eq_true s1, decide_eq_true g1]; rfl
  rw [<- e1]
  walk_at "ev"
 ·exfalso
  simp [okP, h0, m0, s0, g0] at z
theorem is_left_out_ev (b l e h m s g : Int) (he : 1 <= e) (he2 : e <= 60) : F_is_left_out [nb b l e, lt h m s g] = M.ret (.bool (!decide ((60 * h + m) % e = 0) && (decide (s = 0) && decide (g < l)))) := by
 refine a0x ?_
 unfold g_is_left_out
 have hm := minute_ev h m (.int s) (.int g)
 by_cases hz : (60 * h + m) % e = 0
 ·refine ev_seqIf (b := true) ?_ (ite_T rfl ?_)
  ·walk_at "ev"
   rw [o_eq, decide_eq_true hz]
  ·rw [decide_eq_true hz, Bool.not_true, Bool.false_and]
   walk_at "ev"
 ·refine ev_seqIf (b := false) ?_ (ite_F rfl ?_)
  ·walk_at "ev"
   rw [o_eq, decide_eq_false hz]
  ·rw [decide_eq_false hz, Bool.not_false, Bool.true_and]
   walk_at "ev"
theorem is_label_at {b l e h m s g : Int} (he : 1 <= e) (he2 : e <= 60) (h0 : 0 <= h) (m0 : 0 <= m) (s0 : 0 <= s) (g0 : 0 <= g) (m1 : m < 60) (s1 : s < 60) (g1 : g < b) : F_is_label [nb b l e, lt h m s g] = M.ret (.bool (!(!decide ((60 * h + m) % e = 0) && (decide (s = 0) && decide (g < l))))) := by
 refine a0x ?_
 unfold g_is_label
 exact a0z (ev_andV_t (a0k (ds := [nb b l e, lt h m s g]) (by walk_at "ev") (has_form_yes h0 m0 s0 g0 m1 s1 g1)) (ev_notV (a0k (ds := [nb b l e, lt h m s g]) (by walk_at "ev") (is_left_out_ev b l e h m s g he he2))))
end CT
open PySem PySem.Spec L2 DL CT FM
namespace CT
abbrev lb (m o b : Int) : D := .tuple [.int (m / 60), .int (m % 60), .int (o / b), .int (o % b)]
theorem gaps_ev {b l e f : Int} (h : Nb b l e) : a1t [nb b l e, .int f] = M.ret (.int (gaps b l e f)) := by
 have hL := len_pos h
 obtain ⟨b1, b2, l1, l2, e1, e2⟩ := id h
 have hd : bDiv (60 * b + (e - 1) * (60 * b - l)) = true := bDiv_of (by unfold len at hL; omega) (by unfold len at hL; omega)
 have hp : 0 < 60 * b + (e - 1) * (60 * b - l) := by unfold len at hL; omega
 refine a0x ?_
 unfold a2k gaps len
 by_cases hc : f % (60 * b + (e - 1) * (60 * b - l)) < 60 * b
 ·rw [if_pos hc]
  walk_at "ev"
 ·rw [if_neg hc]
  walk_at "ev"
theorem label_ev {b l e f : Int} (h : Nb b l e) (hf : 0 <= f) : ∃ m o, Ok b l e m o /\ f = fr b l e m o /\ F_label_of [nb b l e, .int f] = M.ret (lb m o b) := by
 obtain ⟨m, o, k, hp, hq⟩ := place h hf
 refine ⟨m, o, k, hq, ?_⟩
 obtain ⟨b1, b2, l1, l2, e1, e2⟩ := id h
 obtain ⟨m0, o0, o1, _⟩ := id k
 obtain ⟨p1, p2, p3, p4, p5, p6, p7⟩ := lab (m := m) b1 o0 o1
 have q1 : (60 * m + o / b) / 60 = m := by omega
 have q2 : (60 * m + o / b) % 60 = o / b := by omega
 have hga := gaps_ev (f := f) h
 have main : F_label_of [nb b l e, .int f] = M.ret (.tuple [.int ((f + l * gaps b l e f) / b / 60 / 60), .int ((f + l * gaps b l e f) / b / 60 % 60), .int ((f + l * gaps b l e f) / b % 60), .int ((f + l * gaps b l e f) % b)]) := by
  refine a0x ?_
  unfold g_label_of
  walk_at "ev"
 rw [main, hp, p1, q1, q2, p4]
theorem label_at {b l e m o : Int} (h : Nb b l e) (k : Ok b l e m o) (hf : 0 <= fr b l e m o) : F_label_of [nb b l e, .int (fr b l e m o)] = M.ret (lb m o b) := by
 obtain ⟨m', o', k', hq, r⟩ := label_ev h hf
 obtain ⟨rfl, rfl⟩ := fr_inj h k k' hq
 exact r
end CT
open PySem PySem.Spec L2 DL CT FM
namespace CT
theorem is_label_lb {b l e m o : Int} (h : Nb b l e) (k : Ok b l e m o) : F_is_label [nb b l e, lb m o b] = M.ret (.bool true) := by
 obtain ⟨b1, b2, l1, l2, e1, e2⟩ := id h
 obtain ⟨m0, o0, o1, g⟩ := id k
 obtain ⟨p1, p2, p3, p4, p5, p6, p7⟩ := lab (m := m) b1 o0 o1
 refine Eq.trans (is_label_at (b := b) (l := l) (e := e) (h := m / 60) (m := m % 60) (s := o / b) (g := o % b) e1 e2 (by omega) (by omega) p2 p5 (by omega) p3 p6) ?_
 have e60 : 60 * (m / 60) + m % 60 = m := by omega
 rw [e60]
 congr 2
 by_cases z1 : m % e = 0
 ·rw [decide_eq_true z1]; rfl
 ·by_cases z2 : o / b = 0
  ·have := g z1
   have z3 : o = o % b := by
    rw [z2, Int.mul_zero] at p7
    omega
   rw [decide_eq_false (show ¬ o % b < l by omega)]
   simp
  ·rw [decide_eq_false z2]
   simp
theorem frame_of_lb {b l e m o : Int} (h : Nb b l e) (k : Ok b l e m o) : F_frame_of [nb b l e, lb m o b] = M.ret (.int (fr b l e m o)) := by
 obtain ⟨b1, b2, l1, l2, e1, e2⟩ := id h
 obtain ⟨m0, o0, o1, g⟩ := id k
 obtain ⟨p1, p2, p3, p4, p5, p6, p7⟩ := lab (m := m) b1 o0 o1
 have hl := is_label_lb h k
 have hm := minute_ev (m / 60) (m % 60) (.int (o / b)) (.int (o % b))
 have e60 : 60 * (m / 60) + m % 60 = m := by omega
 rw [e60] at hm
 have main : F_frame_of [nb b l e, lb m o b] = M.ret (.int ((60 * m + o / b) * b + o % b - l * (m - m / e))) := by
  refine a0x ?_
  unfold g_frame_of
  refine a1p (b := false) (a1x (b := true) (ev_b (a0k (ds := [nb b l e, lb m o b]) (by walk_at "ev") hl))) rfl ?_
  walk_at "ev"
 have : (60 * m + o / b) * b + o % b - l * (m - m / e) = fr b l e m o := by
  unfold fr
  have : (60 * m + o / b) * b = m * (60 * b) + b * (o / b) := by grind
  omega
 rw [main, this]
end CT
open PySem PySem.Spec L2 DL CT FM TX NumText
namespace CT
def sgn (l : Int) : Nat := if 0 < l then 59 else 58
def wide (b : Int) : Nat := if 100 < b then 3 else 2
theorem wide_or (b : Int) : wide b = 2 \/ wide b = 3 := by unfold wide; split <;> simp
theorem frame_sign_ev (b l e : Int) : a1y [nb b l e] = M.ret (.str (S [sgn l])) := by
 unfold sgn
 refine a0x (a0z (ev_if (b := decide (0 < l)) (by walk_at "ev") ?_))
 by_cases h : 0 < l
 ·rw [decide_eq_true h, if_pos rfl, if_pos h]
  exact ev_c
 ·rw [decide_eq_false h, if_neg Bool.false_ne_true, if_neg h]
  exact ev_c
theorem frame_figures_ev {b l e : Int} (b1 : 1 <= b) (b2 : b <= 999) : a1g [nb b l e] = M.ret (.int (wide b : Nat)) := by
 have hs : oStr [.int (b - 1)] = some (.str (S (if (b - 1).toNat = 0 then [48] else digs (b - 1).toNat))) := by
  rw [o_strN (by omega), <- str_num, Int.toNat_of_nonneg (by omega)]
 have hlen : ∃ j : Nat, (if (b - 1).toNat = 0 then [48] else digs (b - 1).toNat).length = j /\ max (2 : Int) (j : Int) = (wide b : Nat) := by
  refine ⟨_, rfl, ?_⟩
  unfold wide
  by_cases h0 : (b - 1).toNat = 0
  ·rw [if_pos h0, if_neg (by omega)]
   rfl
  ·rw [if_neg h0]
   by_cases h : 100 < b
   ·rw [if_pos h]
    have l1 := digs_len_ge 2 (b - 1).toNat (by omega)
    have l2 := digs_len 3 (b - 1).toNat (by omega)
    omega
   ·rw [if_neg h]
    have l2 := digs_len 2 (b - 1).toNat (by omega)
    omega
 obtain ⟨j, hj, hm⟩ := hlen
 obtain ⟨q, hq⟩ : ∃ q, q = (if (b - 1).toNat = 0 then [48] else digs (b - 1).toNat) := ⟨_, rfl⟩
 rw [<- hq] at hs hj
 have hj2 : j <= 3 := by
  have := wide_or b
  omega
 have hl := lenT (l := q) (by omega)
 rw [hj] at hl
 refine a0x (a0z ?_)
 rw [<- hm]
 refine a2l (a0b ev_c (a0b (a2l (a0b (a2l (a0b (ev_2 (ev_2 (a0d rfl) ev_c rfl) ev_c o_sub) a0g) hs) a0g) hl) a0g)) o_max
end CT
open PySem PySem.Spec L2 DL CT FM TX NumText
namespace CT
theorem read_frame_ev {b l e m o : Int} {x y s g : Nat} {t : List Nat} (h : Nb b l e) (k : Ok b l e m o) (hlb : lb m o b = .tuple [.int (x : Nat), .int (y : Nat), .int (s : Nat), .int (g : Nat)])
  (hl : t.length <= 900) (hu : Uc t) (hg : good (sgn l) (wide b) t = true) (v1 : digitsVal (pH t) = x) (v2 : digitsVal (pM t) = y) (v3 : digitsVal (pS (sgn l) t) = s) (v4 : digitsVal (pT (sgn l) t) = g) :
  F_read_frame [nb b l e, .str (S t)] = M.ret (.int (fr b l e m o)) := by
 obtain ⟨b1, b2, l1, l2, e1, e2⟩ := id h
 have h1 := read_parts_ev hl hu (by have := wide_or b; omega) hg
 rw [v1, v2, v3, v4, <- hlb] at h1
 have h2 := frame_sign_ev b l e
 have h3 := frame_figures_ev (l := l) (e := e) b1 b2
 have h4 := is_label_lb h k
 have h5 := frame_of_lb h k
 refine a0x ?_
 unfold g_read_frame
 have ha : (dCons (dVar 1) (dCons (dCall (fun ds => noX (a1y ds)) (dCons (dVar 0) dNil)) (dCons (dCall (fun ds => noX (a1g ds)) (dCons (dVar 0) dNil)) dNil))) (startD 3 [nb b l e, .str (S t)]) = M.ret [.str (S t), .str (S [sgn l]), .int (wide b : Nat)] :=
  a0b (a0d rfl) (a0b (a0k (a0b (a0d rfl) a0g) h2) (a0b (a0k (a0b (a0d rfl) a0g) h3) a0g))
 refine a0p (a0y (by first | exact a0k ha h1 | exact ev_callX ha h1)) ?_
 refine a1p (b := false) (a1x (b := true) (ev_b (a0k (a0b (a0d rfl) (a0b (a0d rfl) a0g)) h4))) rfl ?_
 exact a0z (a0k (a0b (a0d rfl) (a0b (a0d rfl) a0g)) h5)
end CT
open PySem PySem.Spec L2 DL CT FM TX NumText
namespace CT
theorem show_frame_ev {b l e m o : Int} {x y s g : Nat} (h : Nb b l e) (k : Ok b l e m o) (hlb : lb m o b = .tuple [.int (x : Nat), .int (y : Nat), .int (s : Nat), .int (g : Nat)])
  (hx : x < 10 ^ 20) (hy : y < 60) (hs : s < 60) (hg : (g : Int) < b) : F_show_frame [nb b l e, .int (fr b l e m o)] = M.ret (.str (S (txt (sgn l) (wide b) x y s g))) := by
 obtain ⟨b1, b2, l1, l2, e1, e2⟩ := id h
 have h1 := label_at h k (fr_nonneg h k)
 rw [hlb] at h1
 have h2 := frame_sign_ev b l e
 have h3 := frame_figures_ev (l := l) (e := e) b1 b2
 have h4 := show_parts_ev (sg := sgn l) (k := wide b) (h := x) (m := y) (s := s) (t := g) (by have := wide_or b; omega) (by have := wide_or b; omega) (by omega) (by omega) (by omega) (by omega)
 exact a0x (a0z (a0k (a0b (a0k (a0b (a0d rfl) (a0b (a0d rfl) a0g)) h1) (a0b (a0k (a0b (a0d rfl) a0g) h2) (a0b (a0k (a0b (a0d rfl) a0g) h3) a0g))) h4))
end CT
open PySem PySem.Spec L2 DL CT FM TX NumText
namespace CT
theorem rf_args {b l e : Int} {d : D} (n : Nb b l e) : (dCons (dVar 1) (dCons (dCall (fun ds => noX (a1y ds)) (dCons (dVar 0) dNil)) (dCons (dCall (fun ds => noX (a1g ds)) (dCons (dVar 0) dNil)) dNil))) (startD 3 [nb b l e, d]) = M.ret [d, .str (S [sgn l]), .int (wide b : Nat)] :=
 a0b (a0d rfl) (a0b (a0k (a0b (a0d rfl) a0g) (frame_sign_ev b l e)) (a0b (a0k (a0b (a0d rfl) a0g) (frame_figures_ev n.b1 n.b2)) a0g))
theorem read_frame_bad {b l e : Int} {t : List Nat} (n : Nb b l e) (hl : t.length <= 900) (hu : Uc t) (hg : good (sgn l) (wide b) t = false) : F_read_frame [nb b l e, .str (S t)] = some (.error ⟨"NoTime", []⟩) := by
 refine er_run ?_
 unfold g_read_frame
 exact er_seq (er_asg (er_callX (rf_args n) (read_parts_bad hl hu hg)))
end CT
open PySem PySem.Spec L2 DL CT TX NumText
namespace CT
theorem cut_take {α : Type} (xs : List α) (n : Nat) : cutD xs none (some (n : Int)) = xs.take n := by
 unfold cutD
 rw [HT.sIx_none, HT.sIx_nat, List.drop_zero, Nat.sub_zero]
 rcases Nat.le_total n xs.length with h | h
 ·rw [Nat.min_eq_left h]
 ·rw [Nat.min_eq_right h, List.take_length, List.take_of_length_le h]
abbrev tx (l : List Nat) : D := .str (S l)
theorem o_lenX {l : List Nat} (h : l.length <= 1000000) : oLen [.str (S l)] = some (.int ((l.length : Nat) : Int)) := by
 show (if small (S l).length = true then _ else _) = _
 rw [S_len, if_pos (a1a (by omega))]
end CT
open PySem PySem.Spec L2 DL CT TX NumText
namespace CT
end CT
open PySem PySem.Spec L2 DL CT TX NumText
namespace DL
theorem er_asgD {δ : DS} {f : DS -> M D} {t : D -> DS -> Option DS} {y : XD} (h : f δ = some (.error y)) : gAsg f t δ = some (.error y) := by unfold gAsg; rw [h]; rfl
theorem ne_selfD {d : D} (hc : d.canLay0 = true) (hd : d.depth <= 60) : oNe d d = some (.bool false) := by
 unfold oNe flat
 rw [hc, decide_eq_true (by omega : min d.depth d.depth <= 60), SeqAt.eqv_refl _ hc]
 rfl
end DL
namespace CT
def wsg (c : Nat) : Prop := 33 <= c /\ c <= 126 /\ c ≠ 37
structure Wq (w : List Nat) : Prop where
 ne : w ≠ []
 sg : ∀ c ∈ w, wsg c
 len : w.length <= 30
theorem lt_one (a b : Nat) : (([a] : List Nat) < [b]) ↔ a < b := by
 constructor
 ·intro h
  cases h with
  | rel h => exact h
  | cons h => cases h
 ·exact fun h => .rel h
theorem le_sign (a b : Nat) : oLeD (.str (S [a])) (.str (S [b])) = some (.bool (decide (a <= b))) := by
 show some (PyData.bool (!decide ((S [b]).cps.toList < (S [a]).cps.toList))) = _
 rw [L_S, L_S]
 by_cases h : a <= b
 ·rw [decide_eq_true h, decide_eq_false (by rw [lt_one]; omega)]; rfl
 ·rw [decide_eq_false h, decide_eq_true (by rw [lt_one]; omega)]; rfl
theorem o_ord (c : Nat) : oOrd [.str (S [c])] = some (.int (c : Int)) := rfl
theorem bools_mapQ (l : List Bool) : bools (l.map PyData.bool) = some l := by
 induction l with
 | nil => rfl
 | cons a r ih => show (bools (r.map PyData.bool)).map _ = _; rw [ih]; rfl
theorem signs_S (w : List Nat) : signsD (S w) = w.map fun c => .str (S [c]) := by
 unfold signsD
 rw [L_S]
 rfl
structure Hd (h : List Nat) : Prop where
 ne : h ≠ []
 sg : ∀ c ∈ h, 97 <= c /\ c <= 122
 len : h.length <= 8
def cu (b e : Int) (h w : List Nat) : D := .tuple [.int b, .int e, tx h, tx w]
theorem is_whole_ev (i : Int) : a2f [.int i] = M.ret (.bool true) := rfl
end CT
open PySem PySem.Spec L2 DL TX NumText
namespace TX
def idx (c : Nat) : List Nat -> Nat -> List Nat
 | [], _ => []
 | x :: r, k => if x = c then k :: idx c r (k + 1) else idx c r (k + 1)
theorem sub_one_sign (w : List Nat) (c i : Nat) : Builtin.Str.subAt (S w) (S [c]) i = true ↔ w[i]? = some c := by
 unfold Builtin.Str.subAt S
 rw [beq_iff_eq, <- Array.toList_inj]
 show (w.toArray.extract i (i + 1)).toList = [c] ↔ _
 rw [Array.toList_extract, List.extract_eq_drop_take]
 show ((w.drop i).take (i + 1 - i)) = [c] ↔ _
 rw [Nat.add_sub_cancel_left]
 cases h : w.drop i with
 | nil =>
  have := List.drop_eq_nil_iff.mp h
  rw [List.getElem?_eq_none this]
  simp
 | cons x r =>
  have e : w[i]? = (w.drop i)[0]? := by rw [List.getElem?_drop]; rfl
  rw [e, h]
  simp
theorem occ_run (w : List Nat) (c limit : Nat) : ∀ (n i : Nat) (st : Array Nat) (free : Nat), i + n = w.length + 1 -> free <= i -> st.size <= limit -> (forIn (List.range' i n) (st, free) (StrLaws.occBody (S w) (S [c]) w.length limit)).run.fst.toList = st.toList ++ (idx c (w.drop i) i).take (limit - st.size)
 | 0, i, st, free, e, _, _ => by
  rw [List.drop_eq_nil_of_le (by omega)]
  show st.toList = st.toList ++ (([] : List Nat).take _)
  rw [List.take_nil, List.append_nil]
 | n + 1, i, st, free, e, hf, hs => by
  rw [List.range'_succ, List.forIn_cons]
  have hl : (S [c]).length = 1 := by rw [S_len]; rfl
  have yes : ((st.size < limit /\ free <= i) /\ i + 1 <= w.length) /\ w[i]? = some c -> StrLaws.occBody (S w) (S [c]) w.length limit i (st, free) = pure (ForInStep.yield (st.push i, i + 1)) := fun z => by
   unfold StrLaws.occBody
   rw [if_pos ⟨⟨z.1.1, by rw [hl]; exact z.1.2⟩, (sub_one_sign w c i).mpr z.2⟩, hl]
  have no : ¬ (((st.size < limit /\ free <= i) /\ i + 1 <= w.length) /\ w[i]? = some c) -> StrLaws.occBody (S w) (S [c]) w.length limit i (st, free) = pure (ForInStep.yield (st, free)) := fun z => by
   unfold StrLaws.occBody
   rw [if_neg fun q => z ⟨⟨q.1.1, by have := q.1.2; rw [hl] at this; exact this⟩, (sub_one_sign w c i).mp q.2⟩]
  by_cases hi : i < w.length
  ·have hd : w.drop i = w[i] :: w.drop (i + 1) := List.drop_eq_getElem_cons hi
   rw [hd]
   by_cases hc : w[i] = c
   ·have e1 : idx c (w[i] :: w.drop (i + 1)) i = i :: idx c (w.drop (i + 1)) (i + 1) := if_pos hc
    rw [e1]
    by_cases hz : st.size < limit
    ·rw [yes ⟨⟨⟨hz, hf⟩, by omega⟩, by rw [List.getElem?_eq_getElem hi, hc]⟩]
     have ih := occ_run w c limit n (i + 1) (st.push i) (i + 1) (by omega) (Nat.le_refl _) (by rw [Array.size_push]; omega)
     refine ih.trans ?_
     rw [Array.toList_push, Array.size_push, List.append_assoc]
     obtain ⟨k, hk⟩ : ∃ k, limit - st.size = k + 1 := ⟨limit - st.size - 1, by omega⟩
     rw [hk, show limit - (st.size + 1) = k by omega, List.take_succ_cons]
     rfl
    ·rw [no (fun z => hz z.1.1.1)]
     have ih := occ_run w c limit n (i + 1) st free (by omega) (by omega) hs
     refine ih.trans ?_
     rw [show limit - st.size = 0 by omega]
     rfl
   ·rw [no (fun z => hc (by have := z.2; rw [List.getElem?_eq_getElem hi] at this; exact Option.some.inj this))]
    have e1 : idx c (w[i] :: w.drop (i + 1)) i = idx c (w.drop (i + 1)) (i + 1) := if_neg hc
    rw [e1]
    exact occ_run w c limit n (i + 1) st free (by omega) (by omega) hs
  ·rw [no (fun z => by have := z.1.2; omega)]
   rw [List.drop_eq_nil_of_le (by omega)]
   have ih := occ_run w c limit n (i + 1) st free (by omega) (by omega) hs
   rw [List.drop_eq_nil_of_le (by omega)] at ih
   exact ih
theorem occ_sign (w : List Nat) (c limit : Nat) : Builtin.Str.occurrences (S w) (S [c]) 0 (S w).length limit = (idx c w 0).take limit := by
 rw [StrLaws.occ_eq, S_len]
 exact occ_run w c limit (w.length + 1) 0 #[] 0 (by omega) (Nat.le_refl _) (Nat.zero_le _)
theorem idx_free {c : Nat} : ∀ {a : List Nat} (b : List Nat) (k : Nat), c ∉ a -> idx c (a ++ b) k = idx c b (k + a.length)
 | [], b, k, _ => rfl
 | x :: a, b, k, h => by
  have h1 : ¬ x = c := fun z => h (z ▸ List.mem_cons_self)
  show (if x = c then _ else idx c (a ++ b) (k + 1)) = _
  rw [if_neg h1, idx_free b (k + 1) fun z => h (List.mem_cons_of_mem _ z), List.length_cons]
  congr 1
  omega
theorem idx_at {c : Nat} {a : List Nat} (b : List Nat) (k : Nat) (h : c ∉ a) : idx c (a ++ c :: b) k = (k + a.length) :: idx c b (k + a.length + 1) := by
 rw [idx_free _ k h]
 exact if_pos rfl
theorem sub_S (w : List Nat) (i j : Nat) : Builtin.Str.strSub (S w) i j = S ((w.drop i).take (j - i)) := by
 rw [<- S_L (Builtin.Str.strSub _ _ _), StrLaws.strSub_toList, L_S]
theorem kind_sign {w : List Nat} {c : Nat} (h : ∀ x ∈ w, x < 128) (hc : c < 128) : (decide ((S w).length < (S [c]).length) || decide (Builtin.Str.strKind (S w) < Builtin.Str.strKind (S [c]))) = decide (w.length < 1) := by
 have k1 : Builtin.Str.strKind (S w) = 1 := by
  unfold Builtin.Str.strKind S
  rw [if_pos (by simp; intro i hi; have := h _ hi; omega)]
 have k2 : Builtin.Str.strKind (S [c]) = 1 := by
  unfold Builtin.Str.strKind S
  rw [if_pos (by simp; omega)]
 rw [k1, k2, S_len, S_len]
 simp
theorem splitMax4 {a b d e : List Nat} {c : Nat} (hc : c < 128) (ha : c ∉ a) (hb : c ∉ b) (hd : c ∉ d) (hw : ∀ x ∈ a ++ c :: (b ++ c :: (d ++ c :: e)), x < 128) : Txt.splitMax (S (a ++ c :: (b ++ c :: (d ++ c :: e)))) (S [c]) 3 = [S a, S b, S d, S e] := by
 obtain ⟨w, hwd⟩ : ∃ w, w = a ++ c :: (b ++ c :: (d ++ c :: e)) := ⟨_, rfl⟩
 have hl : w.length = a.length + (b.length + (d.length + (e.length + 1) + 1) + 1) := by rw [hwd]; simp
 have ho : Builtin.Str.occurrences (S w) (S [c]) 0 (S w).length (limitOf (S w) 3) = [a.length, a.length + 1 + b.length, a.length + 1 + b.length + 1 + d.length] := by
  rw [occ_sign, hwd, idx_at _ _ ha, idx_at _ _ hb, idx_at _ _ hd, Nat.zero_add]
  rfl
 rw [<- hwd] at hw ⊢
 unfold Txt.splitMax
 rw [kind_sign hw hc, decide_eq_false (by omega), if_neg Bool.false_ne_true, ho, if_neg (by simp)]
 unfold Builtin.Str.partsBetween
 have hc1 : (S [c]).length = 1 := by rw [S_len]; rfl
 rw [hc1]
 show [Builtin.Str.strSub (S w) 0 a.length, Builtin.Str.strSub (S w) (a.length + 1) (a.length + 1 + b.length), Builtin.Str.strSub (S w) (a.length + 1 + b.length + 1) (a.length + 1 + b.length + 1 + d.length), Builtin.Str.strSub (S w) (a.length + 1 + b.length + 1 + d.length + 1) (S w).length] = _
 rw [sub_S, sub_S, sub_S, sub_S, S_len]
 have d1 : w.drop (a.length + 1) = b ++ c :: (d ++ c :: e) := by rw [hwd, <- List.drop_drop, List.drop_left]; rfl
 have d2 : w.drop (a.length + 1 + b.length + 1) = d ++ c :: e := by rw [<- List.drop_drop, <- List.drop_drop, d1, List.drop_left]; rfl
 have d3 : w.drop (a.length + 1 + b.length + 1 + d.length + 1) = e := by rw [<- List.drop_drop, <- List.drop_drop, d2, List.drop_left]; rfl
 rw [d1, d2, d3, List.drop_zero, Nat.sub_zero, Nat.add_sub_cancel_left, Nat.add_sub_cancel_left]
 have t1 : w.take a.length = a := by rw [hwd, List.take_left]
 rw [t1, List.take_left, List.take_left, List.take_of_length_le (by omega)]
end TX
open PySem PySem.Spec L2 DL CT TX NumText
namespace TX
end TX
namespace DL
theorem ev_nX {δ : DS} {f : DS -> M D} {d : D} (h : f δ = M.ret d) : nX f δ = M.ret d := by unfold nX; rw [h]; rfl
theorem ev_nXa {δ : DS} {fa : DS -> M (List D)} {ds : List D} (h : fa δ = M.ret ds) : noX (fa δ) = M.ret ds := by rw [h]; rfl
theorem er_tup {δ : DS} {fa : DS -> M (List D)} {y : XD} (h : fa δ = some (.error y)) : dTup fa δ = some (.error y) := by unfold dTup; rw [h]; rfl
theorem er_consA {δ : DS} {f : DS -> M D} {fa : DS -> M (List D)} {y : XD} (h : f δ = some (.error y)) : dCons f fa δ = some (.error y) := by unfold dCons; rw [h]; rfl
theorem er_consB {δ : DS} {f : DS -> M D} {fa : DS -> M (List D)} {d : D} {y : XD} (h1 : f δ = M.ret d) (h : fa δ = some (.error y)) : dCons f fa δ = some (.error y) := by unfold dCons; rw [h1, a0t, h]; rfl
theorem er_me {δ : DS} {nm m : Str} {F : List D -> M D} {fo : DS -> M D} {fa : DS -> M (List D)} {x : D} {r ds : List D} {y : XD} (h1 : fo δ = M.ret x) (h2 : attrs nm x = some r) (h3 : noFld m r = true) (h4 : fa δ = M.ret ds) (h5 : F (x :: ds) = some (.error y)) : dMe nm m F fo fa δ = some (.error y) := by
 unfold dMe
 rw [h1, a0t, h2]
 show (if noFld m r = true then (fa δ).thn fun ds => F (x :: ds) else none) = _
 rw [if_pos h3, h4, a0t, h5]
theorem ev_meX {δ : DS} {nm m : Str} {F : List D -> M D} {fo : DS -> M D} {fa : DS -> M (List D)} {x d : D} {r ds : List D} (h1 : fo δ = M.ret x) (h2 : attrs nm x = some r) (h3 : noFld m r = true) (h4 : fa δ = M.ret ds) (h5 : F (x :: ds) = M.ret d) : dMe nm m F fo fa δ = M.ret d := by
 unfold dMe
 rw [h1, a0t, h2]
 show (if noFld m r = true then (fa δ).thn fun ds => F (x :: ds) else none) = _
 rw [if_pos h3, h4, a0t, h5]
theorem o_allB (bs : List Bool) : oAll [.list (bs.map PyData.bool)] = some (.bool (bs.all id)) := by
 show (bools (bs.map PyData.bool)).map _ = _
 rw [bools_mapQ]
 rfl
end DL
namespace CT
def nsg (c : Nat) : Bool := decide (97 <= c) && decide (c <= 122)
def nameB (h : List Nat) : Bool := (decide (1 <= h.length) && decide (h.length <= 8)) && h.all nsg
def wsB (c : Nat) : Bool := (decide (33 <= c) && decide (c <= 126)) && !decide (c = 37)
def wordB (w : List Nat) : Bool := (decide (1 <= w.length) && decide (w.length <= 30)) && w.all wsB
theorem all_id {α : Type} (l : List α) (p : α -> Bool) : (l.map p).all id = l.all p := by
 rw [List.all_map]
 rfl
theorem chain_len {δ : DS} {l : List Nat} {lo hi : Int} {n : Nat} (hn : hi = (n : Int)) (hlo : lo = 1) (hl : l.length <= 1000000) (h : δ[0]? = some (.vl (tx l))) : dChain oLeD oLeD (dC (.int lo)) (dCB oLen (dCons (dVar 0) dNil)) (dC (.int hi)) δ = M.ret (.bool (decide (1 <= l.length) && decide (l.length <= n))) := by
 subst hn hlo
 have e1 : decide ((1 : Int) <= ((l.length : Nat) : Int)) = decide (1 <= l.length) := by
  by_cases q : 1 <= l.length
  ·rw [decide_eq_true q, decide_eq_true (by omega)]
  ·rw [decide_eq_false q, decide_eq_false (by omega)]
 have e2 : decide (((l.length : Nat) : Int) <= (n : Int)) = decide (l.length <= n) := by
  by_cases q : l.length <= n
  ·rw [decide_eq_true q, decide_eq_true (by omega)]
  ·rw [decide_eq_false q, decide_eq_false (by omega)]
 rw [<- e1, <- e2]
 exact ev_chain ev_c (a2l (a0b (a0d h) a0g) (o_lenX hl)) o_leD ev_c o_leD
theorem is_name_B {h : List Nat} (hz : h.length <= 100000) : F_is_name [tx h] = M.ret (.bool (nameB h)) := by
 have hc := chain_len (δ := [.vl (tx h)]) (l := h) (lo := 1) (hi := 8) (n := 8) rfl rfl (by omega) rfl
 refine a0x ?_
 unfold g_is_name nameB
 cases hb : (decide (1 <= h.length) && decide (h.length <= 8)) with
 | false =>
  rw [hb] at hc
  exact ev_seqIf (b := true) (ev_or (b1 := false) (b2 := true) (a1x (b := true) (ev_b (ev_is (d := tx h) (a0d rfl)))) (a1x (b := false) (ev_b hc))) (ite_T rfl (ev_seqR (a0z ev_c)))
 | true =>
  rw [hb] at hc
  rw [Bool.true_and, <- all_id]
  refine a1p (b := false) (ev_or (b1 := false) (b2 := false) (a1x (b := true) (ev_b (ev_is (d := tx h) (a0d rfl)))) (a1x (b := true) (ev_b hc))) rfl ?_
  refine a0z (a2l (a0b (x := .list ((h.map nsg).map PyData.bool)) (ev_compG (ds := h.map fun c => .str (S [c])) (ev_any (x := tx h) (a0d rfl) (by show some (signsD (S h)) = _; rw [signs_S])) (a1a (by rw [List.length_map]; omega)) ?_) a0g) (o_allB _))
  have main : ∀ (w : List Nat) (x : Sl), compD (tgN 0) (nX dYes) (nX (dChain oLeD oLeD (dC (.str "a")) (dVar 0) (dC (.str "z")))) (w.map fun c => .str (S [c])) [x] = M.ret ((w.map nsg).map PyData.bool) := by
   intro w
   induction w with
   | nil => intro x; rfl
   | cons c w ih =>
    intro x
    exact ev_compC (δ' := [.vl (.str (S [c]))]) rfl (ev_chain (x := .str (S [97])) (y := .str (S [c])) (w := .str (S [122])) ev_c (a0d rfl) (le_sign _ _) ev_c (le_sign _ _)) (ih _)
  exact main h .un
theorem word_sign_B (c : Nat) : F_is_word_sign [.str (S [c])] = M.ret (.bool (wsB c)) := by
 refine a0x ?_
 unfold g_is_word_sign wsB
 refine a0z (ev_andV (ev_chain (x := .str (S [33])) (y := .str (S [c])) (w := .str (S [126])) ev_c (a0d rfl) (le_sign _ _) ev_c (le_sign _ _)) (ev_2 (a2l (a0b (a0d rfl) a0g) (o_ord c)) ev_c ?_))
 by_cases h : c = 37
 ·subst h; rfl
 ·have h2 : ¬ ((c : Int) = 37) := by omega
  rw [o_ne]
  simp [h, h2]
theorem is_word_B {w : List Nat} (hz : w.length <= 100000) : F_is_word [tx w] = M.ret (.bool (wordB w)) := by
 have hc := chain_len (δ := [.vl (tx w)]) (l := w) (lo := 1) (hi := 30) (n := 30) rfl rfl (by omega) rfl
 refine a0x ?_
 unfold g_is_word wordB
 rw [<- all_id]
 refine a0z (ev_andV hc (a2l (a0b (x := .list ((w.map wsB).map PyData.bool)) (ev_compG (ds := w.map fun c => .str (S [c])) (ev_any (x := tx w) (a0d rfl) (by show some (signsD (S w)) = _; rw [signs_S])) (a1a (by rw [List.length_map]; omega)) ?_) a0g) (o_allB _)))
 have main : ∀ (w : List Nat) (x : Sl), compD (tgN 0) (nX dYes) (nX (dCall (fun ds => noX (F_is_word_sign ds)) (dCons (dVar 0) dNil))) (w.map fun c => .str (S [c])) [x] = M.ret ((w.map wsB).map PyData.bool) := by
  intro w
  induction w with
  | nil => intro x; rfl
  | cons c w ih => intro x; exact ev_compC (δ' := [.vl (.str (S [c]))]) rfl (a0k (a0b (a0d rfl) a0g) (word_sign_B c)) (ih _)
 exact main w .un
theorem are_words_B {ws : List (List Nat)} (h0 : ws ≠ []) (hn : ∀ w ∈ ws, 32 ∉ w) (hz : tot ws <= 90000) : F_are_words [tx (jn 32 ws)] = M.ret (.bool (ws.all wordB)) := by
 have hs := o_split h0 hn (by omega)
 have hl := len_tot ws
 have hwl : ∀ w ∈ ws, w.length <= 90000 := by
  clear hs hl hn h0
  induction ws with
  | nil => intro w hw; cases hw
  | cons a r ih =>
   have : tot (a :: r) = a.length + 1 + tot r := rfl
   intro w hw
   rcases List.mem_cons.mp hw with rfl | hw
   ·omega
   ·exact ih (by omega) w hw
 refine a0x ?_
 unfold g_are_words
 rw [<- all_id]
 refine a0z (ev_andV_t (ev_is (d := tx (jn 32 ws)) (a0d rfl)) (a2l (a0b (x := .list ((ws.map wordB).map PyData.bool)) (ev_compG (ds := ws.map fun l => .str (S l)) (ev_any (x := .list (ws.map fun l => .str (S l))) (a2a (a0d rfl) (a0b ev_c a0g) hs) rfl) (a1a (by rw [List.length_map]; omega)) ?_) a0g) (o_allB _)))
 clear hs hl hz h0 hn
 have main : ∀ (ws : List (List Nat)) (x : Sl), (∀ w ∈ ws, w.length <= 90000) -> compD (tgN 0) (nX dYes) (nX (dCall (fun ds => noX (F_is_word ds)) (dCons (dVar 0) dNil))) (ws.map fun l => .str (S l)) [x] = M.ret ((ws.map wordB).map PyData.bool) := by
  intro w
  induction w with
  | nil => intro x _; rfl
  | cons c w ih => intro x hw; exact ev_compC (δ' := [.vl (tx c)]) rfl (a0k (a0b (a0d rfl) a0g) (is_word_B (by have := hw c List.mem_cons_self; omega))) (ih _ fun d hd => hw d (List.mem_cons_of_mem _ hd))
 exact main ws .un hwl
def cueB (b e : Int) (h : List Nat) (ws : List (List Nat)) : Bool := (decide (0 <= b) && decide (b < e)) && (nameB h && ws.all wordB)
theorem is_cue_B {b e : Int} {h : List Nat} {ws : List (List Nat)} (hh : h.length <= 100000) (h0 : ws ≠ []) (hn : ∀ w ∈ ws, 32 ∉ w) (hz : tot ws <= 90000) : F_is_cue [cu b e h (jn 32 ws)] = M.ret (.bool (cueB b e h ws)) := by
 have hnm := is_name_B hh
 have ha := are_words_B h0 hn hz
 refine a0x ?_
 unfold g_is_cue cu cueB
 refine a1p (b := false) (ev_or (b1 := false) (b2 := false) (a1x (b := true) (ev_b (ev_is (d := .tuple [.int b, .int e, tx h, tx (jn 32 ws)]) (a0d rfl)))) (ev_b (ev_2 (a2l (a0b (a0d rfl) a0g) o_lenT) ev_c rfl))) rfl ?_
 refine a1p (b := false) (ev_or (b1 := false) (b2 := false) (a1x (b := true) (ev_b (a0k (ds := [.int b]) (a0b (ev_2 (a0d rfl) ev_c rfl) a0g) (is_whole_ev b)))) (a1x (b := true) (ev_b (a0k (ds := [.int e]) (a0b (ev_2 (a0d rfl) ev_c rfl) a0g) (is_whole_ev e))))) rfl ?_
 exact a0z (ev_andV (ev_chain (x := .int 0) (y := .int b) (w := .int e) ev_c (ev_2 (a0d rfl) ev_c rfl) o_leD (ev_2 (a0d rfl) ev_c rfl) (by first | exact o_lt | exact o_ltD)) (ev_andV (a0k (ds := [tx h]) (a0b (ev_2 (a0d rfl) ev_c rfl) a0g) hnm) (a0k (ds := [tx (jn 32 ws)]) (a0b (ev_2 (a0d rfl) ev_c rfl) a0g) ha)))
def R4 (a b h w : List Nat) : List Nat := a ++ 32 :: (b ++ 32 :: (h ++ 32 :: w))
theorem sp_ok {l : List Nat} {ps : List (List Nat)} (hl : l.length <= 100000) (hp : ps.length <= 1000) (h : Txt.splitMax (S l) (S [32]) 3 = ps.map S) : sSplitN (S l) [.str (S [32]), .int 3] = some (.list (ps.map tx)) := by
 have e1 : (((S [32]).length == 0) == false && small (S l).length && small (Txt.splitMax (S l) (S [32]) 3).length && !(decide ((3 : Int) < -(2 ^ 63 : Int)) || decide ((3 : Int) ≥ 2 ^ 63))) = true := by
  rw [h, a1a (by rw [S_len]; omega), a1a (by rw [List.length_map]; omega)]
  rfl
 show (if _ = true then some (PyData.list ((Txt.splitMax (S l) (S [32]) 3).map PyData.str)) else none) = _
 rw [if_pos e1, h, List.map_map]
 rfl
noncomputable abbrev rdX (fo : DS -> M D) (fa : DS -> M (List D)) : DS -> M D := dEl (dMe "Thousandths" "read" a1m fo fa) (dMe "Frames" "read" F_Frames_read fo fa)
def RdM (CK : D) (t : List Nat) (n : Int) : Prop := ∀ (fo : DS -> M D) (fa : DS -> M (List D)) (δ : DS), fo δ = M.ret CK -> fa δ = M.ret [tx t] -> rdX fo fa δ = M.ret (.int n)
def RdN (CK : D) (t : List Nat) : Prop := ∀ (fo : DS -> M D) (fa : DS -> M (List D)) (δ : DS), fo δ = M.ret CK -> fa δ = M.ret [tx t] -> rdX fo fa δ = some (.error ⟨"NoTime", []⟩)
theorem er_el1 {f g : DS -> M D} {δ : DS} {y : XD} (h : f δ = some (.error y)) : dEl f g δ = some (.error y) := by unfold dEl; rw [h]
abbrev noCue (k : Int) : M D := some (.error ⟨"NoCue", [("row", .int k)]⟩)
section
variable {CK : D} {a b h : List Nat} {ws : List (List Nat)} {k n m : Int}
structure R4ok (a b h : List Nat) (ws : List (List Nat)) : Prop where
 a0 : 32 ∉ a
 b0 : 32 ∉ b
 h0 : 32 ∉ h
 wn : ws ≠ []
 w0 : ∀ w ∈ ws, 32 ∉ w
 wt : tot ws <= 5000
 al : a.length <= 800
 bl : b.length <= 800
 hl : h.length <= 800
 sg : ∀ x ∈ R4 a b h (jn 32 ws), x < 128
theorem R4ok.len (q : R4ok a b h ws) : (R4 a b h (jn 32 ws)).length <= 10000 := by
 have h1 := jn_len 32 q.wn
 have h2 := q.wt
 have h3 := q.al
 have h4 := q.bl
 have h5 := q.hl
 unfold R4
 simp only [List.length_append, List.length_cons]
 omega
theorem R4ok.sp (q : R4ok a b h ws) : Txt.splitMax (S (R4 a b h (jn 32 ws))) (S [32]) 3 = [a, b, h, jn 32 ws].map S := splitMax4 (by decide) q.a0 q.b0 q.h0 q.sg
noncomputable abbrev rdE (i : Int) : DS -> M D := rdX (nX (dVar 0)) (fun δ => noX ((dCons (d2 oIx (dVar 3) (dC (.int i))) dNil) δ))
theorem row_head (q : R4ok a b h ws) {r : M Out} (hr : gSeq (gTryA "NoTime" 4 (dTup (dCons (rdE 0) (dCons (rdE 1) (dCons (nX (d2 oIx (dVar 3) (dC (.int 2)))) (dCons (nX (d2 oIx (dVar 3) (dC (.int 3)))) dNil))))) (gRaiseF "NoCue" "row" (dCons (dVar 2) dNil)))
  (gSeq (gIf (dNot (dB (dCall (fun ds => noX (F_is_cue ds)) (dCons (dVar 4) dNil)))) (gRaiseF "NoCue" "row" (dCons (dVar 2) dNil)) gNext) (gRet (dVar 4))) [.vl CK, .vl (tx (R4 a b h (jn 32 ws))), .vl (.int k), .vl (.list [tx a, tx b, tx h, tx (jn 32 ws)]), .un] = r) :
  g_read_row (startD 5 [CK, tx (R4 a b h (jn 32 ws)), .int k]) = r := by
 have hs := sp_ok (ps := [a, b, h, jn 32 ws]) (by have := q.len; omega) (by show 4 <= 1000; decide) q.sp
 unfold g_read_row
 refine a0p (a0y (d := .list [tx a, tx b, tx h, tx (jn 32 ws)]) (a2a (z := S (R4 a b h (jn 32 ws))) (a0d rfl) (a0b (x := .str (S [32])) ev_c (a0b ev_c a0g)) hs)) ?_
 exact a1p (b := false) (ev_b (ev_2 (a2l (a0b (a0d rfl) a0g) rfl) ev_c rfl)) rfl hr
theorem rd_ok {δ : DS} {i : Int} {c : List Nat} {L : List D} (h0 : δ[0]? = some (.vl CK)) (h3 : δ[3]? = some (.vl (.list L))) (hi : oIx (.list L) (.int i) = some (tx c)) (hr : RdM CK c n) : rdE i δ = M.ret (.int n) :=
 hr _ _ _ (ev_nX (a0d h0)) (ev_nXa (a0b (ev_2 (a0d h3) ev_c hi) a0g))
theorem rd_no {δ : DS} {i : Int} {c : List Nat} {L : List D} (h0 : δ[0]? = some (.vl CK)) (h3 : δ[3]? = some (.vl (.list L))) (hi : oIx (.list L) (.int i) = some (tx c)) (hr : RdN CK c) : rdE i δ = some (.error ⟨"NoTime", []⟩) :=
 hr _ _ _ (ev_nX (a0d h0)) (ev_nXa (a0b (ev_2 (a0d h3) ev_c hi) a0g))
theorem row_a (q : R4ok a b h ws) (hg : RdN CK a) (hk : okXI k = true) : a2e [CK, tx (R4 a b h (jn 32 ws)), .int k] = noCue k :=
 er_run (row_head q (er_seq (ev_tryA_x (er_tup (er_consA (rd_no rfl rfl rfl hg))) (ev_raiseF (a0b (a0d rfl) a0g) hk))))
theorem row_b (q : R4ok a b h ws) (hga : RdM CK a n) (hg : RdN CK b) (hk : okXI k = true) : a2e [CK, tx (R4 a b h (jn 32 ws)), .int k] = noCue k :=
 er_run (row_head q (er_seq (ev_tryA_x (er_tup (er_consB (rd_ok rfl rfl rfl hga) (er_consA (rd_no rfl rfl rfl hg)))) (ev_raiseF (a0b (a0d rfl) a0g) hk))))
theorem row_tup (q : R4ok a b h ws) (hga : RdM CK a n) (hgb : RdM CK b m) : gTryA "NoTime" 4 (dTup (dCons (rdE 0) (dCons (rdE 1) (dCons (nX (d2 oIx (dVar 3) (dC (.int 2)))) (dCons (nX (d2 oIx (dVar 3) (dC (.int 3)))) dNil))))) (gRaiseF "NoCue" "row" (dCons (dVar 2) dNil)) [.vl CK, .vl (tx (R4 a b h (jn 32 ws))), .vl (.int k), .vl (.list [tx a, tx b, tx h, tx (jn 32 ws)]), .un] = M.ret (.nx [.vl CK, .vl (tx (R4 a b h (jn 32 ws))), .vl (.int k), .vl (.list [tx a, tx b, tx h, tx (jn 32 ws)]), .vl (cu n m h (jn 32 ws))]) :=
 ev_tryA_ok (ev_tup (a0b (rd_ok rfl rfl rfl hga) (a0b (rd_ok rfl rfl rfl hgb) (a0b (ev_nX (ev_2 (a0d rfl) ev_c rfl)) (a0b (ev_nX (ev_2 (a0d rfl) ev_c rfl)) a0g)))) rfl)
theorem row_c (q : R4ok a b h ws) (hga : RdM CK a n) (hgb : RdM CK b m) (hc : cueB n m h ws = false) (hk : okXI k = true) : a2e [CK, tx (R4 a b h (jn 32 ws)), .int k] = noCue k := by
 have hq := is_cue_B (b := n) (e := m) (h := h) (ws := ws) (by have := q.hl; omega) q.wn q.w0 (by have := q.wt; omega)
 rw [hc] at hq
 exact er_run (row_head q (a0p (row_tup q hga hgb) (er_seq (er_if_t (a1x (b := false) (ev_b (a0k (a0b (a0d rfl) a0g) hq))) (ev_raiseF (a0b (a0d rfl) a0g) hk)))))
theorem row_ok (q : R4ok a b h ws) (hga : RdM CK a n) (hgb : RdM CK b m) (hc : cueB n m h ws = true) : a2e [CK, tx (R4 a b h (jn 32 ws)), .int k] = M.ret (cu n m h (jn 32 ws)) := by
 have hq := is_cue_B (b := n) (e := m) (h := h) (ws := ws) (by have := q.hl; omega) q.wn q.w0 (by have := q.wt; omega)
 rw [hc] at hq
 exact a0x (row_head q (a0p (row_tup q hga hgb) (a1p (b := false) (a1x (b := true) (ev_b (a0k (a0b (a0d rfl) a0g) hq))) rfl (a0z (a0d rfl)))))
end
end CT
open PySem PySem.Spec L2 DL CT TX NumText
namespace CT
structure C4 where
 b : Int
 e : Int
 h : List Nat
 w : List Nat
def c4 (c : C4) : D := cu c.b c.e c.h c.w
def Rd (CK : D) (l : List Nat) (c : C4) : Prop := ∀ k : Nat, a2e [CK, tx l, .int (k : Int)] = M.ret (c4 c)
def Nr (CK : D) (l : List Nat) : Prop := ∀ k : Nat, k <= 100 -> a2e [CK, tx l, .int (k : Int)] = noCue (k : Int)
theorem okXI_100 : ∀ n : Nat, n <= 100 -> okXI (n : Int) = true := by decide +kernel
theorem last_ixR (xs : List D) (x : D) : oIx (.list (xs ++ [x])) (.int (-1)) = some x := by
 show L2.atI (xs ++ [x]) (-1) = some x
 unfold L2.atI L2.ixN
 rw [if_neg (by omega), if_pos (by simp; omega)]
 show (xs ++ [x])[(-1 + ((xs ++ [x]).length : Int)).toNat]? = _
 rw [List.length_append, List.length_singleton, show (-1 + ((xs.length + 1 : Nat) : Int)).toNat = xs.length by omega]
 simp
noncomputable abbrev lowT : DS -> M Bool := dLendT 2 (dAnd (dTr (dVar 2)) (dB (d2 oLt (d2 oIx (dVar 5) (dC (.int 0))) (d2 oIx (d2 oIx (dVar 2) (d1 oNeg (dC (.int 1)))) (dC (.int 0))))))
theorem low_nil {x0 x1 x3 x4 x5 : Sl} : lowT [x0, x1, .ow [], x3, x4, x5] = M.ret false := ev_lendT (ev_and_f rfl)
theorem low_is {x0 x1 x3 x4 : Sl} {c c' : C4} {cs : List C4} : lowT [x0, x1, .ow ((cs ++ [c']).map c4), x3, x4, .vl (c4 c)] = M.ret (decide (c.b < c'.b)) := by
 rw [List.map_append]
 have hli := last_ixR (cs.map c4) (c4 c')
 refine ev_lendT (ev_and_t (by show dTr (dVar 2) _ = _; unfold dTr; rw [a0d (d := .list (cs.map c4 ++ [c4 c'])) rfl, a0t]; show M.lift (some (!(cs.map c4 ++ [c4 c']).isEmpty)) = _; simp [M.lift, M.ret]) ?_)
 exact ev_b (ev_2 (x := .int c.b) (y := .int c'.b) (ev_2 (x := c4 c) (a0d rfl) ev_c rfl) (ev_2 (x := c4 c') (ev_2 (x := .list (cs.map c4 ++ [c4 c'])) (a0d rfl) (ev_1 ev_c rfl) hli) ev_c rfl) (by first | exact o_lt | exact o_ltD))
noncomputable abbrev rBody : D -> DS -> M Out := bodyD (tgTup 2 (tgCons (tgN 3) (tgCons (tgN 4) tgNil))) b_read_cues_0
theorem read_loopR {CK : D} (X : D) {more : List (List Nat)} {r : M Out} : ∀ (q : List (List Nat × C4)) (j : Nat) (cs : List C4) (x3 x4 x5 : Sl), (∀ p ∈ q, Rd CK p.1 p.2) -> (cs ++ q.map Prod.snd).Pairwise (fun x y => x.b <= y.b) -> cs.length + q.length <= 100 ->
  (∀ y3 y4 y5, forD rBody (enumD (j + q.length : Nat) (more.map tx)) [.vl CK, .vl X, .ow ((cs ++ q.map Prod.snd).map c4), y3, y4, y5] = r) -> forD rBody (enumD j ((q.map Prod.fst ++ more).map tx)) [.vl CK, .vl X, .ow (cs.map c4), x3, x4, x5] = r
 | [], j, cs, x3, x4, x5, _, _, _, hk => by
  have := hk x3 x4 x5
  rw [List.map_nil, List.append_nil] at this
  exact this
 | (l, c) :: q, j, cs, x3, x4, x5, h, hp, hl, hk => by
  rw [List.length_cons] at hl
  have hr := h (l, c) List.mem_cons_self j
  have hr : a2e [CK, tx l, .int (j : Int)] = M.ret (c4 c) := hr
  have e1 : (cs ++ ((l, c) :: q).map Prod.snd) = (cs ++ [c]) ++ q.map Prod.snd := by rw [List.map_cons, List.append_assoc]; rfl
  have e2 : j + ((l, c) :: q).length = j + 1 + q.length := by rw [List.length_cons]; omega
  rw [e1] at hp
  rw [e1, e2] at hk
  have ih := read_loopR X (more := more) (r := r) q (j + 1) (cs ++ [c]) (.vl (.int (j : Int))) (.vl (tx l)) (.vl (c4 c)) (fun p hp => h p (List.mem_cons_of_mem _ hp)) hp (by rw [List.length_append, List.length_singleton]; omega) hk
  rw [show (cs ++ [c]).map c4 = cs.map c4 ++ [c4 c] from List.map_append] at ih
  show forD rBody (.tuple [.int (j : Int), tx l] :: enumD (j + 1) ((q.map Prod.fst ++ more).map tx)) _ = r
  refine forD_cons (δ' := [.vl CK, .vl X, .ow (cs.map c4 ++ [c4 c]), .vl (.int (j : Int)), .vl (tx l), .vl (c4 c)]) (ev_body (δ' := [.vl CK, .vl X, .ow (cs.map c4), .vl (.int (j : Int)), .vl (tx l), x5]) rfl ?_) ih
  unfold b_read_cues_0
  refine a0p (a0y (d := c4 c) (ev_callX (a0b (a0d rfl) (a0b (a0d rfl) (a0b (a0d rfl) a0g))) hr)) ?_
  refine a1p (b := false) ?_ rfl (ev_app (ds := cs.map c4) (d := c4 c) rfl (a0d rfl) (a1a (by rw [List.length_map]; omega)))
  rcases List.eq_nil_or_concat cs with rfl | ⟨cs0, c', rfl⟩
  ·exact low_nil
  ·rw [List.concat_eq_append] at hp ⊢
   have hle : c'.b <= c.b := by
    have h1 := (List.pairwise_append.mp hp).1
    exact (List.pairwise_append.mp h1).2.2 c' (by simp) c (by simp)
   refine Eq.trans low_is ?_
   rw [decide_eq_false (by omega)]
def Stop (CK : D) (q : List (List Nat × C4)) (x : List Nat) : Prop := Nr CK x \/ ∃ c q0 p, Rd CK x c /\ q = q0 ++ [p] /\ c.b < p.2.b
theorem stop_body {CK X : D} {q : List (List Nat × C4)} {x : List Nat} {more : List D} {j : Nat} (hj : j <= 100) (h : Stop CK q x) (y3 y4 y5 : Sl) : forD rBody (.tuple [.int (j : Int), tx x] :: more) [.vl CK, .vl X, .ow ((q.map Prod.snd).map c4), y3, y4, y5] = some (.error ⟨"NoCue", [("row", .int (j : Int))]⟩) := by
 have main : rBody (.tuple [.int (j : Int), tx x]) [.vl CK, .vl X, .ow ((q.map Prod.snd).map c4), y3, y4, y5] = some (.error ⟨"NoCue", [("row", .int (j : Int))]⟩) := by
  refine ev_body (δ' := [.vl CK, .vl X, .ow ((q.map Prod.snd).map c4), .vl (.int (j : Int)), .vl (tx x), y5]) rfl ?_
  unfold b_read_cues_0
  rcases h with h | ⟨c, q0, p, h, rfl, hb⟩
  ·exact er_seq (er_asg (er_callX (a0b (a0d rfl) (a0b (a0d rfl) (a0b (a0d rfl) a0g))) (h j hj)))
  ·refine a0p (a0y (d := c4 c) (ev_callX (a0b (a0d rfl) (a0b (a0d rfl) (a0b (a0d rfl) a0g))) (h j))) ?_
   refine er_seq (er_if_t ?_ (ev_raiseF (a0b (a0d rfl) a0g) (okXI_100 j hj)))
   rw [List.map_append]
   refine Eq.trans (low_is (cs := q0.map Prod.snd) (c' := p.2)) ?_
   rw [decide_eq_true hb]
 show (rBody _ _).thn _ = _
 rw [main]
 rfl
theorem rows_ev {ts : List (List Nat)} (h0 : ts ≠ []) (hj : jn 10 ts ≠ []) (hn : ∀ w ∈ ts, 10 ∉ w) (ht : tot ts <= 900000) : F_rows_of [tx (jn 10 ts)] = M.ret (.list (ts.map tx)) := by
 have hlen := jn_len 10 h0
 have hpos := List.length_pos_iff.mpr hj
 have hsp := o_split (c := 10) h0 hn (by omega)
 refine a0x ?_
 unfold g_rows_of
 refine a0z ?_
 refine ev_if (b := true) (by
  unfold dTr
  rw [a0d (d := tx (jn 10 ts)) rfl, a0t]
  show M.lift (if small (S (jn 10 ts)).length then some (((S (jn 10 ts)).length : Int) != 0) else none) = _
  rw [if_pos (a1a (by rw [S_len]; omega)), S_len]
  have : ((((jn 10 ts).length : Nat) : Int) != 0) = true := by simp only [bne_iff_ne, ne_eq]; omega
  rw [this]
  rfl) ?_
 rw [if_pos rfl]
 exact a2a (z := S (jn 10 ts)) (a0d rfl) (a0b (x := .str (S [10])) ev_c a0g) hsp
theorem rows_nil : F_rows_of [tx []] = M.ret (.list []) := by
 refine a0x ?_
 unfold g_rows_of
 refine a0z ?_
 refine ev_if (b := false) (by unfold dTr; rw [a0d (d := tx []) rfl]; rfl) ?_
 rw [if_neg Bool.false_ne_true]
 exact ev_lst (ds := []) a0g rfl
theorem read_nil {CK : D} : a1s [CK, tx []] = M.ret (.list []) := by
 refine a0x ?_
 unfold g_read_cues
 refine a0p (δ' := [.vl CK, .vl (tx []), .un, .un, .un, .un]) (ev_pass1 (b := false) (a1x (b := true) (ev_b (ev_is (d := tx []) (a0d rfl)))) rfl) ?_
 refine a0p (ev_newL (ds := []) (ev_nLst a0g rfl)) ?_
 exact a0p (ev_forG (ds := enumD 1 []) (ev_enumK (a0b (a0k (a0b (a0d rfl) a0g) rows_nil) a0g)) rfl) rfl
theorem read_okR {CK : D} {q : List (List Nat × C4)} (hq : ∀ p ∈ q, Rd CK p.1 p.2) (hp : (q.map Prod.snd).Pairwise (fun x y => x.b <= y.b)) (hl : q.length <= 90) (h0 : q ≠ []) (hj : jn 10 (q.map Prod.fst) ≠ []) (hn : ∀ w ∈ q.map Prod.fst, 10 ∉ w) (ht : tot (q.map Prod.fst) <= 900000) : a1s [CK, tx (jn 10 (q.map Prod.fst))] = M.ret (.list ((q.map Prod.snd).map c4)) := by
 have hr := rows_ev (by simpa using h0) hj hn ht
 generalize hX : tx (jn 10 (q.map Prod.fst)) = X at hr
 have hi : isD "str" X = true := by rw [<- hX]; rfl
 have hL : ∃ y3 y4 y5, forD rBody (enumD 1 ((q.map Prod.fst).map tx)) [.vl CK, .vl X, .ow [], .un, .un, .un] = M.ret (.nx [.vl CK, .vl X, .ow ((q.map Prod.snd).map c4), y3, y4, y5]) := by
  clear hr hn ht hj h0
  have main : ∀ (q : List (List Nat × C4)) (j : Nat) (cs : List C4) (x3 x4 x5 : Sl), (∀ p ∈ q, Rd CK p.1 p.2) -> (cs ++ q.map Prod.snd).Pairwise (fun x y => x.b <= y.b) -> cs.length + q.length <= 100 -> ∃ y3 y4 y5, forD rBody (enumD j ((q.map Prod.fst).map tx)) [.vl CK, .vl X, .ow (cs.map c4), x3, x4, x5] = M.ret (.nx [.vl CK, .vl X, .ow ((cs ++ q.map Prod.snd).map c4), y3, y4, y5]) := by
   intro q
   induction q with
   | nil => intro j cs x3 x4 x5 _ _ _; exact ⟨x3, x4, x5, by rw [show (cs ++ List.map Prod.snd ([] : List (List Nat × C4))) = cs from List.append_nil _]; rfl⟩
   | cons a q ih =>
    intro j cs x3 x4 x5 h hp hl
    rw [List.length_cons] at hl
    have e1 : (cs ++ (a :: q).map Prod.snd) = (cs ++ [a.2]) ++ q.map Prod.snd := by rw [List.map_cons, List.append_assoc]; rfl
    rw [e1] at hp ⊢
    obtain ⟨y3, y4, y5, hI⟩ := ih (j + 1) (cs ++ [a.2]) (.vl (.int (j : Int))) (.vl (tx a.1)) (.vl (c4 a.2)) (fun p hp => h p (List.mem_cons_of_mem _ hp)) hp (by rw [List.length_append, List.length_singleton]; omega)
    refine ⟨y3, y4, y5, ?_⟩
    have e2 : (a :: q).map Prod.fst = [a].map Prod.fst ++ q.map Prod.fst := rfl
    rw [e2]
    have hp1 : (cs ++ [a].map Prod.snd).Pairwise (fun x y => x.b <= y.b) := (List.pairwise_append.mp hp).1
    rw [show (cs ++ [a.2]).map c4 = cs.map c4 ++ [c4 a.2] from List.map_append] at hI
    have hr := h a List.mem_cons_self j
    show forD rBody (.tuple [.int (j : Int), tx a.1] :: enumD (j + 1) ((q.map Prod.fst).map tx)) _ = _
    refine forD_cons (δ' := [.vl CK, .vl X, .ow (cs.map c4 ++ [c4 a.2]), .vl (.int (j : Int)), .vl (tx a.1), .vl (c4 a.2)]) (ev_body (δ' := [.vl CK, .vl X, .ow (cs.map c4), .vl (.int (j : Int)), .vl (tx a.1), x5]) rfl ?_) hI
    unfold b_read_cues_0
    refine a0p (a0y (d := c4 a.2) (ev_callX (a0b (a0d rfl) (a0b (a0d rfl) (a0b (a0d rfl) a0g))) hr)) ?_
    refine a1p (b := false) ?_ rfl (ev_app (ds := cs.map c4) (d := c4 a.2) rfl (a0d rfl) (a1a (by rw [List.length_map]; omega)))
    rcases List.eq_nil_or_concat cs with rfl | ⟨cs0, c', rfl⟩
    ·exact low_nil
    ·rw [List.concat_eq_append] at hp1 ⊢
     have hle : c'.b <= a.2.b := (List.pairwise_append.mp hp1).2.2 c' (by simp) a.2 (by simp)
     refine Eq.trans low_is ?_
     rw [decide_eq_false (by omega)]
  exact main q 1 [] .un .un .un hq hp (by show 0 + _ <= _; omega)
 obtain ⟨y3, y4, y5, hL⟩ := hL
 have hns : noIns X = true := by rw [<- hX]; rfl
 refine a0x ?_
 unfold g_read_cues
 have his : dIs "str" (dVar 1) (startD 6 [CK, X]) = M.ret (.bool true) := by rw [<- hX]; exact ev_is (d := tx (jn 10 (q.map Prod.fst))) (a0d rfl)
 refine a0p (δ' := [.vl CK, .vl X, .un, .un, .un, .un]) (ev_pass1 (b := false) (a1x (b := true) (ev_b his)) rfl) ?_
 refine a0p (ev_newL (ds := []) (ev_nLst a0g rfl)) ?_
 exact a0p (ev_forG (ev_enumK (a0b (a0k (a0b (a0d rfl) a0g) hr) a0g)) hL) rfl
theorem read_noR {CK : D} {q : List (List Nat × C4)} {x : List Nat} {more : List (List Nat)} (hq : ∀ p ∈ q, Rd CK p.1 p.2) (hp : (q.map Prod.snd).Pairwise (fun x y => x.b <= y.b)) (hl : q.length <= 90) (hs : Stop CK q x) (hj : jn 10 (q.map Prod.fst ++ x :: more) ≠ []) (hn : ∀ w ∈ q.map Prod.fst ++ x :: more, 10 ∉ w) (ht : tot (q.map Prod.fst ++ x :: more) <= 900000) : a1s [CK, tx (jn 10 (q.map Prod.fst ++ x :: more))] = noCue ((q.length + 1 : Nat) : Int) := by
 have hr := rows_ev (by simp) hj hn ht
 have his : dIs "str" (dVar 1) (startD 6 [CK, tx (jn 10 (q.map Prod.fst ++ x :: more))]) = M.ret (.bool true) := ev_is (d := tx (jn 10 (q.map Prod.fst ++ x :: more))) (a0d rfl)
 generalize hX : tx (jn 10 (q.map Prod.fst ++ x :: more)) = X at hr his
 have hL := read_loopR (CK := CK) X (more := x :: more) (r := some (.error ⟨"NoCue", [("row", .int ((q.length + 1 : Nat) : Int))]⟩)) q 1 [] .un .un .un hq hp (by show 0 + _ <= _; omega) fun y3 y4 y5 => by
  rw [Nat.add_comm 1 q.length]
  exact stop_body (by omega) hs y3 y4 y5
 refine er_run ?_
 unfold g_read_cues
 refine a0p (δ' := [.vl CK, .vl X, .un, .un, .un, .un]) (ev_pass1 (b := false) (a1x (b := true) (ev_b his)) rfl) ?_
 refine a0p (ev_newL (ds := []) (ev_nLst a0g rfl)) ?_
 exact er_seq (ev_forG (ev_enumK (a0b (a0k (a0b (a0d rfl) a0g) hr) a0g)) hL)
end CT
namespace K19
open PySem PySem.Spec L2 DL CT
noncomputable def g__law_cell_at : DS -> M Out := (gSeq (gIf (dB (d2 oLt (dVar 1) (dCB oLen (dCons (dVar 0) dNil)))) (gRet (d2 oIx (dVar 0) (dVar 1))) gNext)
  (gRet (dC (.int 0))))
noncomputable def F__law_cell_at : List D -> M D := run 2 g__law_cell_at
noncomputable def g__law_mixed : DS -> M Out := (gRet (d2 oMod (d2 oMul (d2 oMod (dVar 0) (dC (.int 2147483647))) (dVar 1)) (dC (.int 2147483647))))
noncomputable def a1z : List D -> M D := run 2 g__law_mixed
noncomputable def b__law_figures_0 : DS -> M Out := (gSeq (gAsg (d2 oAdd (d2 oIx (dC (.str "0123456789")) (d2 oMod (dVar 0) (dC (.int 10)))) (dVar 2)) (tgN 2))
  (gAsg (d2 oDiv (dVar 0) (dC (.int 10))) (tgN 0)))
noncomputable def g__law_figures : DS -> M Out := (gSeq (gAsg (dC (.str "")) (tgN 2))
  (gSeq (gWhile (dOr (dB (d2 oGt (dVar 0) (dC (.int 0)))) (dB (d2 oLt (dCB oLen (dCons (dVar 2) dNil)) (dVar 1)))) b__law_figures_0)
  (gRet (dVar 2))))
noncomputable def a1i : List D -> M D := run 3 g__law_figures
noncomputable def g__law_text : DS -> M Out := (gSeq (gAsg (d2 oDiv (dVar 1) (dVar 0)) (tgN 2))
  (gSeq (gAsg (dLst (dCons (dCall (fun ds => noX (a1i ds)) (dCons (d2 oDiv (dVar 2) (dC (.int 3600))) (dCons (dC (.int 2)) dNil))) (dCons (dCall (fun ds => noX (a1i ds)) (dCons (d2 oMod (d2 oDiv (dVar 2) (dC (.int 60))) (dC (.int 60))) (dCons (dC (.int 2)) dNil))) (dCons (dCall (fun ds => noX (a1i ds)) (dCons (d2 oMod (dVar 2) (dC (.int 60))) (dCons (dC (.int 2)) dNil))) dNil)))) (tgN 3))
  (gSeq (gIf (dB (d2 oEq (dVar 0) (dC (.int 1000)))) (gRet (d2 oAdd (d2 oAdd (dMeth sJoin (dC (.str ":")) (dCons (dVar 3) dNil)) (dC (.str "."))) (dCall (fun ds => noX (a1i ds)) (dCons (d2 oMod (dVar 1) (dVar 0)) (dCons (dC (.int 3)) dNil))))) gNext)
  (gRet (d2 oAdd (d2 oAdd (dMeth sJoin (dC (.str ":")) (dCons (dVar 3) dNil)) (dC (.str ":"))) (dCall (fun ds => noX (a1i ds)) (dCons (d2 oMod (dVar 1) (dVar 0)) (dCons (dC (.int 2)) dNil))))))))
noncomputable def a2c : List D -> M D := run 4 g__law_text
noncomputable def g__law_words : DS -> M Out := (gSeq (gAsg (dLst (dCons (dC (.str "Well.")) (dCons (dC (.str "no,")) (dCons (dC (.str "a-b")) (dCons (dC (.str "(x)")) (dCons (dC (.str "\"so\"")) (dCons (dC (.str "it's")) (dCons (dC (.str "100")) (dCons (d2 oMulS (dC (.str "b")) (dC (.int 30))) (dCons (dC (.str "[1]")) (dCons (dC (.str "~")) dNil))))))))))) (tgN 1))
  (gRet (dMeth sJoin (dC (.str " ")) (dCons (dCompG 1 [1, 0] (tgN 0) (dRng rng1 (dCons (d2 oAdd (dC (.int 1)) (d2 oMod (dVar 0) (dC (.int 4)))) dNil)) dYes (d2 oIx (dVar 1) (d2 oMod (d2 oDiv (dVar 2) (d2 oAdd (d2 oMul (dVar 0) (dVar 0)) (dC (.int 1)))) (dC (.int 10))))) dNil))))
noncomputable def F__law_words : List D -> M D := run 2 g__law_words
noncomputable def g__law_hand : DS -> M Out := (gRet (dMeth sJoin (dC (.str "")) (dCons (dCompG 1 [0] (tgN 0) (dRng rng1 (dCons (d2 oAdd (dC (.int 1)) (d2 oMod (dVar 0) (dC (.int 8)))) dNil)) dYes (d2 oIx (dC (.str "abcdefghijklmnopqrstuvwxyz")) (d2 oMod (d2 oDiv (dVar 1) (d2 oAdd (dVar 0) (dC (.int 1)))) (dC (.int 26))))) dNil)))
noncomputable def F__law_hand : List D -> M D := run 1 g__law_hand
noncomputable def g__law_row : DS -> M Out := (gSeq (gAsg (dC (.int 1000)) (tgN 3))
  (gSeq (gIf (dB (d2 oEq (dVar 0) (dC (.int 1000)))) (gAsg (dC (.int 25)) (tgN 3)) gNext)
  (gSeq (gAsg (dCall (fun ds => noX (a2c ds)) (dCons (dVar 0) (dCons (d2 oIx (dVar 1) (dC (.int 0))) dNil))) (tgN 4))
  (gSeq (gAsg (dCall (fun ds => noX (a2c ds)) (dCons (dVar 0) (dCons (d2 oIx (dVar 1) (dC (.int 1))) dNil))) (tgN 5))
  (gSeq (gAsg (d2 oMod (d2 oDiv (dVar 2) (dC (.int 64))) (dC (.int 5))) (tgN 6))
  (gSeq (gIf (dB (d2 oGt (d2 oMod (dVar 2) (dC (.int 20))) (dC (.int 0)))) (gRet (d2 oAdd (d2 oAdd (d2 oAdd (d2 oAdd (d2 oAdd (d2 oAdd (dVar 4) (dC (.str " "))) (dVar 5)) (dC (.str " "))) (d2 oIx (dVar 1) (dC (.int 2)))) (dC (.str " "))) (d2 oIx (dVar 1) (dC (.int 3))))) gNext)
  (gSeq (gIf (dB (d2 oEq (dVar 6) (dC (.int 0)))) (gRet (d2 oAdd (d2 oAdd (d2 oAdd (d2 oAdd (d2 oAdd (d2 oAdd (dCall (fun ds => noX (a2c ds)) (dCons (dVar 3) (dCons (d2 oIx (dVar 1) (dC (.int 0))) dNil))) (dC (.str " "))) (dVar 5)) (dC (.str " "))) (d2 oIx (dVar 1) (dC (.int 2)))) (dC (.str " "))) (d2 oIx (dVar 1) (dC (.int 3))))) gNext)
  (gSeq (gIf (dB (d2 oEq (dVar 6) (dC (.int 1)))) (gRet (d2 oAdd (d2 oAdd (d2 oAdd (d2 oAdd (d2 oAdd (d2 oAdd (dVar 4) (dC (.str " "))) (dCall (fun ds => noX (a2c ds)) (dCons (dVar 3) (dCons (d2 oIx (dVar 1) (dC (.int 1))) dNil)))) (dC (.str " "))) (d2 oIx (dVar 1) (dC (.int 2)))) (dC (.str " "))) (d2 oIx (dVar 1) (dC (.int 3))))) gNext)
  (gSeq (gIf (dB (d2 oEq (dVar 6) (dC (.int 2)))) (gRet (d2 oAdd (d2 oAdd (d2 oAdd (d2 oAdd (dVar 4) (dC (.str " "))) (dVar 5)) (dC (.str " Well. "))) (d2 oIx (dVar 1) (dC (.int 2))))) gNext)
  (gSeq (gIf (dB (d2 oEq (dVar 6) (dC (.int 3)))) (gRet (d2 oAdd (d2 oAdd (d2 oAdd (d2 oAdd (dVar 4) (dC (.str " "))) (dVar 5)) (dC (.str "  "))) (d2 oIx (dVar 1) (dC (.int 2))))) gNext)
  (gRet (d2 oAdd (d2 oAdd (d2 oAdd (d2 oAdd (d2 oAdd (d2 oAdd (d2 oAdd (d2 oAdd (dVar 4) (dC (.str " "))) (dVar 5)) (dC (.str " "))) (d2 oIx (dVar 1) (dC (.int 2)))) (dC (.str " "))) (dVar 4)) (dC (.str "  "))) (dVar 5)))))))))))))
noncomputable def F__law_row : List D -> M D := run 7 g__law_row
noncomputable def b__law_drawn_0 : DS -> M Out := (gSeq (gAsg (dCall (fun ds => noX (a1z ds)) (dCons (d2 oAdd (dVar 5) (dVar 4)) (dCons (dC (.int 48271)) dNil))) (tgN 6))
  (gSeq (gAsg (d2 oAdd (dVar 3) (d2 oIx (dLst (dCons (dC (.int 0)) (dCons (d2 oMod (d2 oDiv (dVar 6) (dC (.int 4))) (dC (.int 3000))) dNil))) (d2 oMod (dVar 6) (dC (.int 2))))) (tgN 7))
  (gSeq (gIf (dB (d2 oEq (d2 oMod (d2 oDiv (dVar 6) (dC (.int 8))) (dC (.int 30))) (dC (.int 7)))) (gAsg (d2 oSub (dVar 3) (dC (.int 1))) (tgN 7)) gNext)
  (gSeq (gAsg (d2 oAdd (d2 oAdd (dVar 7) (dC (.int 1))) (d2 oMod (d2 oDiv (dVar 6) (dC (.int 16))) (dC (.int 3000)))) (tgN 8))
  (gSeq (gIf (dB (d2 oEq (d2 oMod (d2 oDiv (dVar 6) (dC (.int 32))) (dC (.int 30))) (dC (.int 7)))) (gAsg (dVar 7) (tgN 8)) gNext)
  (gSeq (gAsg (dCall (fun ds => noX (F__law_words ds)) (dCons (dCall (fun ds => noX (a1z ds)) (dCons (dVar 5) (dCons (dC (.int 39373)) dNil))) dNil)) (tgN 9))
  (gSeq (gAsg (dTup (dCons (dCB oMax (dCons (dC (.int 0)) (dCons (dVar 7) dNil))) (dCons (dCB oMax (dCons (dC (.int 0)) (dCons (dVar 8) dNil))) (dCons (dCall (fun ds => noX (F__law_hand ds)) (dCons (dCall (fun ds => noX (a1z ds)) (dCons (dVar 5) (dCons (dC (.int 16807)) dNil))) dNil)) (dCons (dVar 9) dNil))))) (tgN 10))
  (gSeq (gAsg (dOrV (d2 oEq (d2 oMod (dVar 6) (dC (.int 20))) (dC (.int 0))) (dOrV (d2 oGe (d2 oIx (dVar 10) (dC (.int 0))) (d2 oIx (dVar 10) (dC (.int 1)))) (d2 oLt (d2 oIx (dVar 10) (dC (.int 0))) (dVar 3)))) (tgN 11))
  (gSeq (gApp 2 (dTup (dCons (dCall (fun ds => noX (F__law_row ds)) (dCons (dVar 1) (dCons (dVar 10) (dCons (dVar 6) dNil)))) (dCons (dVar 10) (dCons (dVar 11) dNil)))))
  (gAsg (d2 oIx (dVar 10) (dC (.int 0))) (tgN 3)))))))))))
noncomputable def g__law_drawn : DS -> M Out := (gSeq (gNewL 2 (nLst dNil))
  (gSeq (gAsg (dC (.int 0)) (tgN 3))
  (gSeq (gForI (dEnum (dCons (dCutS (dVar 0) (dPart (dC (.int 1))) (dPart (dC (.int 31)))) dNil)) (tgTup 2 (tgCons (tgN 4) (tgCons (tgN 5) tgNil))) b__law_drawn_0)
  (gRetO 2))))
noncomputable def F__law_drawn : List D -> M D := run 12 g__law_drawn
noncomputable def g__law_told : DS -> M Out := (gSeq (gAsg (dC .none) (tgN 2))
  (gSeq (gTryF "NoCue" "row" 4 3 (gAsg (dCall a1s (dCons (dVar 0) (dCons (dVar 1) dNil))) (tgN 2)) (fun a j => (gAsg (dTup (dCons (dC (.str "refused")) (dCons (dXat a 3 j) dNil))) (tgN 2))))
  (gRet (dVar 2))))
noncomputable def F__law_told : List D -> M D := run 4 g__law_told
noncomputable def b__law_same_0 : DS -> M Out := (gIf (dOr (dNot (dB (dIs "tuple" (dVar 2)))) (dOr (dB (dIs "bool" (d2 oIx (dVar 2) (dC (.int 0))))) (dB (dIs "bool" (d2 oIx (dVar 2) (dC (.int 1))))))) (gRet (dC (.bool false))) gNext)
noncomputable def g__law_same : DS -> M Out := (gSeq (gIf (dOr (dNot (dB (dIs "list" (dVar 0)))) (dB (d2 oNe (dVar 0) (dVar 1)))) (gRet (dC (.bool false))) gNext)
  (gSeq (gForI (dAny (dVar 0)) (tgN 2) b__law_same_0)
  (gRet (dC (.bool true)))))
noncomputable def F__law_same : List D -> M D := run 3 g__law_same
noncomputable def b_law_0 : DS -> M Out := (gSeq (gIf (dB (d2 oIx (dVar 6) (dC (.int 2)))) gBreak gNext)
  (gApp 5 (d2 oIx (dVar 6) (dC (.int 1)))))
noncomputable def b_law_1 : DS -> M Out := (gSeq (gAsg (dCall (fun ds => noX (F__law_told ds)) (dCons (dVar 2) (dCons (dVar 4) dNil))) (tgN 8))
  (gSeq (gIf (dAnd (dB (d2 oLt (dCB oLen (dCons (dVar 5) dNil)) (dCB oLen (dCons (dVar 3) dNil)))) (dB (d2 oNe (dVar 8) (dTup (dCons (dC (.str "refused")) (dCons (d2 oAdd (dCB oLen (dCons (dVar 5) dNil)) (dC (.int 1))) dNil)))))) (gRet (dC (.bool false))) gNext)
  (gSeq (gIf (dAnd (dB (d2 oEq (dCB oLen (dCons (dVar 5) dNil)) (dCB oLen (dCons (dVar 3) dNil)))) (dOr (dNot (dB (dCall (fun ds => noX (F__law_same ds)) (dCons (dVar 8) (dCons (dVar 5) dNil))))) (dB (d2 oNe (dCall (fun ds => noX (F_show_cues ds)) (dCons (dVar 2) (dCons (dVar 8) dNil))) (dVar 4))))) (gRet (dC (.bool false))) gNext)
  (gIf (dNot (dB (dCall (fun ds => noX (F__law_same ds)) (dCons (dCall (fun ds => noX (F__law_told ds)) (dCons (dVar 2) (dCons (dMeth sJoin (dC (.str "\n")) (dCons (dCompG 1 [] (tgN 0) (dAny (dCutS (dVar 3) dNoPart (dPart (dCB oLen (dCons (dVar 5) dNil))))) dYes (d2 oIx (dVar 0) (dC (.int 0)))) dNil)) dNil))) (dCons (dVar 5) dNil))))) (gRet (dC (.bool false))) gNext))))
noncomputable def g_law : DS -> M Out := (gSeq (gAsg (d2 oIx (dLst (dCons (dC (.int 1000)) (dCons (dC (.int 24)) (dCons (dC (.int 1000)) (dCons (dC (.int 25)) (dCons (dC (.int 30)) (dCons (dC (.int 60)) dNil))))))) (d2 oMod (dCall (fun ds => noX (a1z ds)) (dCons (dCall (fun ds => noX (F__law_cell_at ds)) (dCons (dVar 0) (dCons (dC (.int 0)) dNil))) (dCons (dC (.int 48271)) dNil))) (dC (.int 6)))) (tgN 1))
  (gSeq (gAsg (dC (insD "Thousandths" [])) (tgN 2))
  (gSeq (gIf (dB (d2 oLt (dVar 1) (dC (.int 1000)))) (gAsg (dMk "Frames" "numbering" (dCons (dTup (dCons (dVar 1) (dCons (dC (.int 0)) (dCons (d2 oAdd (dC (.int 1)) (d2 oMod (dCall (fun ds => noX (F__law_cell_at ds)) (dCons (dVar 0) (dCons (dC (.int 0)) dNil))) (dC (.int 60)))) dNil)))) dNil)) (tgN 2)) gNext)
  (gSeq (gAsg (dCall (fun ds => noX (F__law_drawn ds)) (dCons (dVar 0) (dCons (dVar 1) dNil))) (tgN 3))
  (gSeq (gAsg (dMeth sJoin (dC (.str "\n")) (dCons (dCompG 1 [] (tgN 0) (dAny (dVar 3)) dYes (d2 oIx (dVar 0) (dC (.int 0)))) dNil)) (tgN 4))
  (gSeq (gNewL 5 (nLst dNil))
  (gSeq (gForI (dAny (dVar 3)) (tgN 6) b_law_0)
  (gFrz 5 (gSeq (gForI (dRng rng1 (dCons (dC (.int 2)) dNil)) (tgN 7) b_law_1)
  (gRet (dC (.bool true))))))))))))
noncomputable def F_law : List D -> M D := run 9 g_law
end K19
open PySem PySem.Spec L2 DL CT TX NumText
namespace K19
theorem fig_ix (n : Nat) : oIx (.str "0123456789") (.int ((n % 10 : Nat) : Int)) = some (.str ⟨#[48 + n % 10]⟩) := by
 have h : n % 10 < 10 := Nat.mod_lt _ (by decide)
 generalize n % 10 = d at h ⊢
 have e : (("0123456789" : Str)) = S [48, 49, 50, 51, 52, 53, 54, 55, 56, 57] := by decide
 rw [e]
 refine ix_sign (by decide) (by omega) ?_
 rw [Int.toNat_natCast]
 exact (show ∀ d, d < 10 -> ([48, 49, 50, 51, 52, 53, 54, 55, 56, 57] : List Nat)[d]? = some (48 + d) by decide) d h
theorem fig_loop {many : Nat} : ∀ (t n : Nat) (acc : List Nat), n < 10 ^ t -> many <= acc.length + t -> acc.length + t <= 1000 ->
  gWhile (dOr (dB (d2 oGt (dVar 0) (dC (.int 0)))) (dB (d2 oLt (dCB oLen (dCons (dVar 2) dNil)) (dVar 1)))) (gSeq (gAsg (d2 oAdd (d2 oIx (dC (.str "0123456789")) (d2 oMod (dVar 0) (dC (.int 10)))) (dVar 2)) (tgN 2)) (gAsg (d2 oDiv (dVar 0) (dC (.int 10))) (tgN 0))) [.vl (.int (n : Nat)), .vl (.int (many : Nat)), .vl (.str (S acc))] = M.ret (.nx [.vl (.int 0), .vl (.int (many : Nat)), .vl (.str (S (fg (many - acc.length) n ++ acc)))]) := by
 intro t
 have stop : ∀ (n : Nat) (acc : List Nat), acc.length <= 1000 -> ¬ (0 < n \/ acc.length < many) ->
  gWhile (dOr (dB (d2 oGt (dVar 0) (dC (.int 0)))) (dB (d2 oLt (dCB oLen (dCons (dVar 2) dNil)) (dVar 1)))) (gSeq (gAsg (d2 oAdd (d2 oIx (dC (.str "0123456789")) (d2 oMod (dVar 0) (dC (.int 10)))) (dVar 2)) (tgN 2)) (gAsg (d2 oDiv (dVar 0) (dC (.int 10))) (tgN 0))) [.vl (.int (n : Nat)), .vl (.int (many : Nat)), .vl (.str (S acc))] = M.ret (.nx [.vl (.int 0), .vl (.int (many : Nat)), .vl (.str (S (fg (many - acc.length) n ++ acc)))]) := by
  intro n acc hl h
  have h0 : n = 0 := by omega
  subst h0
  have e : many - acc.length = 0 := by omega
  rw [e, fg_zero, List.nil_append]
  refine ev_while_f ?_
  refine Eq.trans (ev_or (b1 := false) (b2 := false) (ev_b (ev_2 (a0d rfl) ev_c rfl)) (ev_b (ev_2 (a2l (a0b (a0d rfl) a0g) (lenT hl)) (a0d rfl) ?_))) rfl
  first | rw [o_lt, decide_eq_false (by omega)] | rw [o_ltD, decide_eq_false (by omega)]
 induction t with
 | zero =>
  intro n acc h1 h2 h3
  have : (10 : Nat) ^ 0 = 1 := rfl
  exact stop n acc (by omega) (by omega)
 | succ t ih =>
  intro n acc h1 h2 h3
  by_cases h : 0 < n \/ acc.length < many
  ·have hn : n / 10 < 10 ^ t := by
    rw [Nat.pow_succ] at h1
    omega
   have r := ih (n / 10) ((48 + n % 10) :: acc) hn (by rw [List.length_cons]; omega) (by rw [List.length_cons]; omega)
   have e : fg (many - acc.length) n ++ acc = fg (many - ((48 + n % 10) :: acc).length) (n / 10) ++ ((48 + n % 10) :: acc) := by
    rw [fg_step (by omega), List.append_assoc, List.length_cons, show many - acc.length - 1 = many - (acc.length + 1) by omega]
    rfl
   rw [e]
   have hb : (decide (0 < (n : Int)) || decide ((acc.length : Int) < (many : Int))) = true := by
    rw [Bool.or_eq_true, decide_eq_true_eq, decide_eq_true_eq]
    omega
   have q1 : oMod (.int (n : Nat)) (.int 10) = some (.int ((n % 10 : Nat) : Int)) := o_modN (k := 10) (by decide) rfl
   have q2 : oDiv (.int (n : Nat)) (.int 10) = some (.int ((n / 10 : Nat) : Int)) := o_divN (k := 10) (by decide) (by decide) rfl
   have q3 : oAdd (.str ⟨#[48 + n % 10]⟩) (.str (S acc)) = some (.str (S ((48 + n % 10) :: acc))) := by
    rw [<- S_cons]
    refine o_addS (a1a ?_)
    rw [S_len]
    show 1 + _ <= _
    omega
   refine ev_while_t (δ' := [.vl (.int ((n / 10 : Nat) : Int)), .vl (.int (many : Nat)), .vl (.str (S ((48 + n % 10) :: acc)))]) ?_ ?_ r
   ·rw [<- hb]
    refine ev_or (ev_b (ev_2 (a0d rfl) ev_c o_gt)) (ev_b (ev_2 (a2l (a0b (a0d rfl) a0g) (lenT (by omega))) (a0d rfl) ?_))
    first | exact o_lt | exact o_ltD
   ·exact a0p (a0y (ev_2 (ev_2 ev_c (ev_2 (a0d rfl) ev_c q1) (fig_ix n)) (a0d rfl) q3)) (a0y (ev_2 (a0d rfl) ev_c q2))
  ·exact stop n acc (by omega) h
theorem figures_ev {n many : Nat} (h : n < 10 ^ 40) (hm : many <= 40) : a1i [.int (n : Nat), .int (many : Nat)] = M.ret (.str (S (fg many n))) := by
 have r := fig_loop (many := many) 40 n [] h (by show many <= 0 + 40; omega) (by decide)
 rw [List.append_nil] at r
 refine a0x ?_
 unfold g__law_figures
 refine a0p (a0y ev_c) (a0p r ?_)
 exact a0z (a0d rfl)
end K19
open PySem PySem.Spec L2 DL CT
namespace K19
theorem cell_at_ev (ns : List Int) (k : Int) (k0 : 0 <= k) : ∃ c, F__law_cell_at [.list (ns.map PyData.int), .int k] = M.ret (.int c) := by
 by_cases h : k.toNat < ns.length
 ·refine ⟨ns[k.toNat], a0x ?_⟩
  unfold g__law_cell_at
  refine ev_seqIf (b := true) ?_ (ite_T rfl (ev_seqR (a0z ?_)))
  ·walk_at "ev"
   first | rw [o_lt, List.length_map, decide_eq_true (by omega)] | rw [o_ltD, List.length_map, decide_eq_true (by omega)]
  ·refine ev_2 (a0d rfl) (a0d rfl) (ix_nat k0 ?_)
   rw [List.getElem?_map, List.getElem?_eq_getElem h]
   rfl
 ·refine ⟨0, a0x ?_⟩
  unfold g__law_cell_at
  refine ev_seqIf (b := false) ?_ (ite_F rfl (ev_seqN ?_))
  ·walk_at "ev"
   first | rw [o_lt, List.length_map, decide_eq_false (by omega)] | rw [o_ltD, List.length_map, decide_eq_false (by omega)]
  ·walk_at "ev"
theorem item {ds : List D} {P : Int -> Prop} {i : Int} (h0 : 0 <= i) (h1 : i < ds.length) (hP : ∀ d ∈ ds, ∃ n, d = .int n /\ P n) : ∃ n, oIx (.list ds) (.int i) = some (.int n) /\ P n := by
 obtain ⟨d, hd, e⟩ := ix_in h0 h1
 obtain ⟨n, rfl, p⟩ := hP d hd
 exact ⟨n, e, p⟩
theorem al {P : Int -> Prop} {a : Int} {r : List D} (h : P a) (hr : ∀ x ∈ r, ∃ n, x = .int n /\ P n) : ∀ x ∈ (PyData.int a) :: r, ∃ n, x = .int n /\ P n := by
 intro x hx
 rcases List.mem_cons.mp hx with rfl | hx
 ·exact ⟨a, rfl, h⟩
 ·exact hr x hx
theorem cut_len {α : Type} (xs : List α) (lo hi : Option Int) : (cutD xs lo hi).length <= xs.length := by
 unfold cutD
 rw [List.length_take, List.length_drop]
 omega
theorem cells (ns : List Int) (hl : ns.length <= 63) (lo hi : Option Int) : oAdd (.list [.int 0]) (.list (cutD (ns.map PyData.int) lo hi)) = some (.list (PyData.int 0 :: cutD (ns.map PyData.int) lo hi)) := by
 refine o_addL (a1a ?_)
 have := cut_len (ns.map PyData.int) lo hi
 rw [List.length_map] at this
 show 1 + _ <= _
 omega
end K19
open PySem PySem.Spec L2 DL CT TX NumText
namespace K19
theorem mixed_ev (c b : Int) (b0 : 0 <= b) (b1 : b < 100000000) : ∃ m, (0 <= m /\ m < 2147483647) /\ a1z [.int c, .int b] = M.ret (.int m) := by
 refine ⟨c % 2147483647 * b % 2147483647, by omega, a0x ?_⟩
 unfold g__law_mixed
 walk_at "ev"
theorem sign_of {l : List Nat} {i : Int} (hl : l.length <= 1000) (h0 : 0 <= i) (h1 : i < l.length) : ∃ c, c ∈ l /\ oIx (.str (S l)) (.int i) = some (.str (S [c])) := by
 have hi : i.toNat < l.length := by omega
 exact ⟨l[i.toNat], List.getElem_mem hi, ix_sign hl h0 (List.getElem?_eq_getElem hi)⟩
theorem add_txt {a b : List Nat} (h : a.length + b.length <= 1000) : oAdd (.str (S a)) (.str (S b)) = some (.str (S (a ++ b))) := by
 rw [o_addS (a1a (by rw [S_len, S_len]; omega)), S_app]
def azS : List Nat := [97, 98, 99, 100, 101, 102, 103, 104, 105, 106, 107, 108, 109, 110, 111, 112, 113, 114, 115, 116, 117, 118, 119, 120, 121, 122]
theorem join0 : ∀ ts : List (List Nat), (S []).join (ts.map S) = S ts.flatten
 | [] => rfl
 | [a] => by show S a = S [a].flatten; simp
 | a :: b :: r => by
  have ih := join0 (b :: r)
  show S a ++ S [] ++ (S []).join ((b :: r).map S) = _
  rw [ih, S_app, S_app, List.append_nil]
  rfl
theorem o_join0 {h : List Nat} (hl : h.length <= 1000) : sJoin (S []) [.list (h.map fun c => .str (S [c]))] = some (.str (S h)) := by
 have e : (h.map fun c => PyData.str (S [c])) = (h.map fun c => [c]).map fun l => .str (S l) := by rw [List.map_map]; rfl
 have hj : JoinOk (S []) ((h.map fun c => [c]).map S) = true := by
  have main : ∀ (ts : List Nat) (a : Nat), ((ts.map fun c => [c]).map S).foldl (fun x1 x2 => x1 + x2.length + (S []).length) a = a + ts.length := by
   intro ts
   induction ts with
   | nil => intro a; rfl
   | cons t r ih =>
    intro a
    rw [List.map_cons, List.map_cons, List.foldl_cons, ih, S_len, S_len]
    show a + 1 + 0 + r.length = a + (r.length + 1)
    omega
  unfold JoinOk
  rw [show Array.foldl (fun x1 x2 => x1 + x2.length + (S []).length) 0 ((h.map fun c => [c]).map S).toArray = h.length by rw [List.foldl_toArray' (h := rfl), main]; omega]
  show (!decide (h.length > sizeLine)) = true
  rw [sizeLine_eq, decide_eq_false (by omega)]
  rfl
 show (match strsOf (h.map fun c => PyData.str (S [c])) with | some ts => if JoinOk (S []) ts then some (PyData.str (Txt.join (S []) ts)) else none | none => none) = _
 rw [e, strsOf_S]
 show (if JoinOk (S []) ((h.map fun c => [c]).map S) = true then some (PyData.str (Builtin.Str.glued (S []) ((h.map fun c => [c]).map S))) else none) = _
 rw [if_pos hj, StrLaws.glued_eq_join, join0]
 congr 3
 clear hj e hl
 induction h with
 | nil => rfl
 | cons c h ih => rw [List.map_cons, List.flatten_cons, ih]; rfl
end K19
open PySem PySem.Spec L2 DL
namespace DL
def pk (l : List Int) (i : Int) : Int := l.getD i.toNat 0
theorem ix_pick2 {a b i : Int} (h0 : 0 <= i) (h1 : i < 2) : oIx (.list [.int a, .int b]) (.int i) = some (.int (pk [a, b] i)) := by
 refine ix_nat h0 ?_
 have : i = 0 \/ i = 1 := by omega
 rcases this with rfl | rfl <;> rfl
end DL
open PySem PySem.Spec L2 DL CT TX NumText
namespace K19
abbrev ref (k : Int) : D := .tuple [.str "refused", .int k]
theorem told_okL {CK X : D} {cs : List D} (h : a1s [CK, X] = M.ret (.list cs)) : F__law_told [CK, X] = M.ret (.list cs) := by
 refine a0x ?_
 unfold g__law_told
 refine a0p (a0y (d := .none) ev_c) ?_
 refine a0p (ev_tryF_ok (a0y (ev_callX (a0b (a0d rfl) (a0b (a0d rfl) a0g)) h))) ?_
 exact a0z (a0d rfl)
theorem told_noL {CK X : D} {k : Int} (h : a1s [CK, X] = noCue k) : F__law_told [CK, X] = M.ret (ref k) := by
 refine a0x ?_
 unfold g__law_told
 refine a0p (a0y (d := .none) ev_c) ?_
 refine a0p (ev_tryF_x (o := .nx [.un, .un, .vl (ref k), .un]) (er_asgD (er_callX (a0b (a0d rfl) (a0b (a0d rfl) a0g)) h)) (o' := fun a => .nx [.un, .un, .vl (ref k), .ex a]) (fun a => ?_) fun a => rfl) ?_
 ·exact a0y (ev_tup (a0b ev_c (a0b (ev_xat rfl) a0g)) rfl)
 ·exact a0z (a0d rfl)
theorem ref_ok (k : Int) : (ref k).canLay0 = true := by
 show (PyData.strOk "refused" && true) = true
 decide +kernel
theorem ref_ne (k : Int) : oNe (ref k) (ref k) = some (.bool false) := ne_selfD (ref_ok k) (Nat.le_of_ble_eq_true (by kernel_rfl))
def oth (B : Nat) : Nat := if B = 1000 then 25 else 1000
def Bs (B : Nat) : Prop := B = 1000 \/ B = 24 \/ B = 25 \/ B = 30 \/ B = 60
theorem oth_B (B : Nat) : Bs (oth B) := by
 unfold oth Bs
 split <;> omega
def sgB (B : Nat) : Nat := if B = 1000 then 46 else 58
def kB (B : Nat) : Nat := if B = 1000 then 3 else 2
def tb (B n : Nat) : List Nat := txt (sgB B) (kB B) (n / B / 3600) (n / B / 60 % 60) (n / B % 60) (n % B)
theorem Bs.pos {B : Nat} (h : Bs B) : 24 <= B /\ B <= 1000 := by unfold Bs at h; omega
theorem mod_kB {B : Nat} (h : Bs B) (n : Nat) : n % B < 10 ^ kB B := by
 unfold kB
 have := Nat.mod_lt n (show 0 < B by have := h.pos; omega)
 split
 ·next e => subst e; exact this
 ·next e => unfold Bs at h; omega
theorem div_lt {n B j : Nat} (h : n < j) : n / B < j := Nat.lt_of_le_of_lt (Nat.div_le_self _ _) h
theorem text_ev {B n : Nat} (hB : Bs B) (hn : n < 10 ^ 25) : a2c [.int (B : Int), .int (n : Int)] = M.ret (tx (tb B n)) := by
 obtain ⟨B1, B2⟩ := hB.pos
 have hq := div_lt (B := B) hn
 have d1 : oDiv (.int (n : Int)) (.int (B : Int)) = some (.int ((n / B : Nat) : Int)) := o_divN (by omega) (by omega) rfl
 have m3 : oMod (.int (n : Int)) (.int (B : Int)) = some (.int ((n % B : Nat) : Int)) := o_modN (by omega) rfl
 have hk := mod_kB hB n
 have hr : n % B < 10 ^ 3 := by have := Nat.mod_lt n (show 0 < B by omega); omega
 have eT : tb B n = txt (sgB B) (kB B) (n / B / 3600) (n / B / 60 % 60) (n / B % 60) (n % B) := rfl
 rw [eT]
 generalize n / B = q at *
 generalize n % B = r at *
 have d2 : oDiv (.int (q : Int)) (.int 3600) = some (.int ((q / 3600 : Nat) : Int)) := o_divN (k := 3600) (by decide) (by decide) rfl
 have d3 : oDiv (.int (q : Int)) (.int 60) = some (.int ((q / 60 : Nat) : Int)) := o_divN (k := 60) (by decide) (by decide) rfl
 have m1 : oMod (.int ((q / 60 : Nat) : Int)) (.int 60) = some (.int ((q / 60 % 60 : Nat) : Int)) := o_modN (k := 60) (by decide) rfl
 have m2 : oMod (.int (q : Int)) (.int 60) = some (.int ((q % 60 : Nat) : Int)) := o_modN (k := 60) (by decide) rfl
 have f1 := figures_ev (n := q / 3600) (many := 2) (by omega) (by decide)
 have f2 := figures_ev (n := q / 60 % 60) (many := 2) (by omega) (by decide)
 have f3 := figures_ev (n := q % 60) (many := 2) (by omega) (by decide)
 have f4 := figures_ev (n := r) (many := 3) (by omega) (by decide)
 have f5 := figures_ev (n := r) (many := 2) (by omega) (by decide)
 have l1 : (fg 2 (q / 3600)).length <= 32 := fg_le (j := 30) (by omega)
 have l2 : (fg 2 (q / 60 % 60)).length = 2 := fg_len (by omega)
 have l3 : (fg 2 (q % 60)).length = 2 := fg_len (by omega)
 have l4 : (fg 3 r).length <= 6 := fg_le (j := 3) hr
 have l5 : (fg 2 r).length <= 5 := fg_le (j := 3) hr
 have hj := jn_len 58 (ts := [fg 2 (q / 3600), fg 2 (q / 60 % 60), fg 2 (q % 60)]) (by simp)
 have ht : tot [fg 2 (q / 3600), fg 2 (q / 60 % 60), fg 2 (q % 60)] <= 100 := by simp only [tot]; omega
 refine a0x ?_
 unfold g__law_text
 refine a0p (a0y (ev_2 (a0d rfl) (a0d rfl) d1)) ?_
 refine a0p (a0y (d := .list ([fg 2 (q / 3600), fg 2 (q / 60 % 60), fg 2 (q % 60)].map tx)) (ev_lst (a0b (a0k (a0b (ev_2 (a0d rfl) ev_c d2) (a0b ev_c a0g)) f1) (a0b (a0k (a0b (ev_2 (ev_2 (a0d rfl) ev_c d3) ev_c m1) (a0b ev_c a0g)) f2) (a0b (a0k (a0b (ev_2 (a0d rfl) ev_c m2) (a0b ev_c a0g)) f3) a0g))) rfl)) ?_
 by_cases hb : B = 1000
 ·have e : (jn 58 [fg 2 (q / 3600), fg 2 (q / 60 % 60), fg 2 (q % 60)] ++ [46]) ++ fg 3 r = txt (sgB B) (kB B) (q / 3600) (q / 60 % 60) (q % 60) r := by
   unfold sgB kB txt
   rw [if_pos hb, if_pos hb]
   show ((fg 2 (q / 3600) ++ 58 :: (fg 2 (q / 60 % 60) ++ 58 :: fg 2 (q % 60))) ++ [46]) ++ fg 3 r = _
   simp only [List.append_assoc, List.cons_append, List.nil_append]
  rw [<- e]
  refine ev_seqIf (b := true) (ev_b (ev_2 (a0d rfl) ev_c (by rw [o_eq, decide_eq_true (by omega)]))) (ite_T rfl (ev_seqR ?_))
  exact a0z (ev_2 (ev_2 (a2a (z := S [58]) ev_c (a0b (a0d rfl) a0g) (o_join (by omega))) ev_c (add_txt (b := [46]) (by simp only [List.length_singleton]; omega))) (a0k (a0b (ev_2 (a0d rfl) (a0d rfl) m3) (a0b ev_c a0g)) f4) (add_txt (by simp only [List.length_append, List.length_singleton]; omega)))
 ·have e : (jn 58 [fg 2 (q / 3600), fg 2 (q / 60 % 60), fg 2 (q % 60)] ++ [58]) ++ fg 2 r = txt (sgB B) (kB B) (q / 3600) (q / 60 % 60) (q % 60) r := by
   unfold sgB kB txt
   rw [if_neg hb, if_neg hb]
   show ((fg 2 (q / 3600) ++ 58 :: (fg 2 (q / 60 % 60) ++ 58 :: fg 2 (q % 60))) ++ [58]) ++ fg 2 r = _
   simp only [List.append_assoc, List.cons_append, List.nil_append]
  rw [<- e]
  refine a1p (b := false) (ev_b (ev_2 (a0d rfl) ev_c (by rw [o_eq, decide_eq_false (by omega)]))) rfl ?_
  exact a0z (ev_2 (ev_2 (a2a (z := S [58]) ev_c (a0b (a0d rfl) a0g) (o_join (by omega))) ev_c (add_txt (b := [58]) (by simp only [List.length_singleton]; omega))) (a0k (a0b (ev_2 (a0d rfl) (a0d rfl) m3) (a0b ev_c a0g)) f5) (add_txt (by simp only [List.length_append, List.length_singleton]; omega)))
def Sg (l : List Nat) : Prop := ∀ c ∈ l, c < 128 /\ c ≠ 10 /\ c ≠ 32
theorem Sg.app {a b : List Nat} (ha : Sg a) (hb : Sg b) : Sg (a ++ b) := fun c hc => by
 rcases List.mem_append.mp hc with h | h
 ·exact ha c h
 ·exact hb c h
theorem fg_Sg (k n : Nat) : Sg (fg k n) := fun c hc => by have := fg_digits k n c hc; omega
theorem sgB_or (B : Nat) : (sgB B = 46 /\ sgB (oth B) = 58) \/ (sgB B = 58 /\ sgB (oth B) = 46) := by
 unfold sgB oth
 by_cases h : B = 1000
 ·rw [if_pos h, if_pos h]; exact .inl ⟨rfl, rfl⟩
 ·rw [if_neg h, if_neg h]; exact .inr ⟨rfl, rfl⟩
theorem tb_Sg (B n : Nat) : Sg (tb B n) := by
 unfold tb txt
 refine Sg.app (fg_Sg _ _) (fun c hc => ?_)
 simp only [List.mem_append, List.mem_cons] at hc
 rcases hc with rfl | hc | rfl | hc | rfl | hc
 ·decide
 ·exact fg_Sg _ _ c hc
 ·decide
 ·exact fg_Sg _ _ c hc
 ·have := sgB_or B; omega
 ·exact fg_Sg _ _ c hc
theorem tb_len {B n : Nat} (hB : Bs B) (hn : n < 10 ^ 25) : (tb B n).length <= 42 := by
 have hq := div_lt (B := B) hn
 have hk : kB B <= 3 := by unfold kB; split <;> decide
 have hm := mod_kB hB n
 unfold tb
 generalize n / B = q at *
 have := txt_len (sg := sgB B) (k := kB B) (h := q / 3600) (m := q / 60 % 60) (s := q % 60) (t := n % B) (by omega) (by omega) (by omega) hm
 omega
theorem hand_ev (m : Int) (m0 : 0 <= m) : ∃ h : List Nat, Hd h /\ F__law_hand [.int m] = M.ret (tx h) := by
 obtain ⟨n, hn⟩ : ∃ n : Nat, 1 + m % 8 = (n : Int) := ⟨(1 + m % 8).toNat, by omega⟩
 have n1 : 1 <= n /\ n <= 8 := by omega
 have hr : rng1 [.int (n : Int)] = some (rngD 0 n) := by
  show (if b62 (n : Int) = true then some (rngD 0 (n : Int).toNat) else none) = _
  rw [if_pos (by unfold b62; simp; omega), Int.toNat_natCast]
 have hlen : (rngD 0 n).length = n := by unfold rngD; rw [List.length_map, List.length_range]
 have hands : ∀ (ks : List D) (x : Sl), (∀ d ∈ ks, ∃ k : Int, d = .int k /\ 0 <= k /\ k < 100) -> ∃ h : List Nat, h.length = ks.length /\ (∀ a ∈ h, 97 <= a /\ a <= 122) /\ compD (tgN 0) (nX dYes) (nX (d2 oIx (dC (.str "abcdefghijklmnopqrstuvwxyz")) (d2 oMod (d2 oDiv (dVar 1) (d2 oAdd (dVar 0) (dC (.int 1)))) (dC (.int 26))))) ks [x, .vl (.int m)] = M.ret (h.map fun a => .str (S [a])) := by
  intro ks
  induction ks with
  | nil => intro x _; exact ⟨[], rfl, (fun a ha => nomatch ha), rfl⟩
  | cons d ks ih =>
   intro x hk
   obtain ⟨k, rfl, k1, k2⟩ := hk d List.mem_cons_self
   obtain ⟨h, h1, h2, h3⟩ := ih (.vl (.int k)) fun e he => hk e (List.mem_cons_of_mem _ he)
   obtain ⟨a, ha, hx⟩ := sign_of (l := azS) (i := m / (k + 1) % 26) (by decide) (by omega) (by show m / (k + 1) % 26 < 26; omega)
   have hx : oIx (.str "abcdefghijklmnopqrstuvwxyz") (.int (m / (k + 1) % 26)) = some (.str (S [a])) := hx
   have har : 97 <= a /\ a <= 122 := (by decide : ∀ x ∈ azS, 97 <= x /\ x <= 122) a ha
   refine ⟨a :: h, by rw [List.length_cons, List.length_cons, h1], fun y hy => ?_, ?_⟩
   ·rcases List.mem_cons.mp hy with rfl | hy
    ·exact har
    ·exact h2 y hy
   ·exact ev_compC (δ' := [.vl (.int k), .vl (.int m)]) rfl (ev_2 (y := .int (m / (k + 1) % 26)) ev_c (ev_2 (x := .int (m / (k + 1))) (ev_2 (a0d rfl) (ev_2 (a0d rfl) ev_c o_add) (o_div (bDiv_of (by omega) (by omega)))) ev_c (o_mod (by decide))) hx) h3
 obtain ⟨h, h1, h2, h3⟩ := hands (rngD 0 n) .un fun d hd => by
  obtain ⟨k, rfl, k1, k2⟩ := mem_rngD hd
  exact ⟨k, rfl, k1, by omega⟩
 rw [hlen] at h1
 refine ⟨h, ⟨fun z => by rw [z] at h1; simp at h1; omega, h2, by omega⟩, a0x ?_⟩
 unfold g__law_hand
 exact a0z (a2a (z := S []) ev_c (a0b (x := .list (h.map fun a => .str (S [a]))) (ev_compG (ds := rngD 0 n) (ev_rngS (xs := [.int (n : Int)]) (a0b (ev_2 (x := .int 1) (y := .int (m % 8)) ev_c (ev_2 (a0d rfl) ev_c (o_mod (by decide))) (by rw [o_add, hn])) a0g) hr) (a1a (by rw [hlen]; omega)) h3) a0g) (o_join0 (by omega)))
def menuW : List (List Nat) := [[87, 101, 108, 108, 46], [110, 111, 44], [97, 45, 98], [40, 120, 41], [34, 115, 111, 34], [105, 116, 39, 115], [49, 48, 48], List.replicate 30 98, [91, 49, 93], [126]]
theorem menu_ok : ∀ w ∈ menuW, Wq w := by
 have h : ∀ w ∈ menuW, w ≠ [] /\ (∀ c ∈ w, 33 <= c /\ c <= 126 /\ c ≠ 37) /\ w.length <= 30 := by decide
 exact fun w hw => ⟨(h w hw).1, (h w hw).2.1, (h w hw).2.2⟩
theorem menu_ix {i : Int} (h0 : 0 <= i) (h1 : i < 10) : ∃ w, Wq w /\ oIx (.list (menuW.map tx)) (.int i) = some (tx w) := by
 obtain ⟨d, hd, e⟩ := ix_in (ds := menuW.map tx) h0 (by show i < 10; omega)
 obtain ⟨w, hw, rfl⟩ := List.mem_map.mp hd
 exact ⟨w, menu_ok w hw, e⟩
structure Wsq (ws : List (List Nat)) : Prop where
 wq : ∀ w ∈ ws, Wq w
 ne : ws ≠ []
 len : ws.length <= 4
theorem tot_le {n : Nat} : ∀ {ws : List (List Nat)}, (∀ w ∈ ws, w.length <= n) -> tot ws <= (n + 1) * ws.length
 | [], _ => Nat.zero_le _
 | w :: ws, h => by
  have := tot_le (n := n) (ws := ws) fun v hv => h v (List.mem_cons_of_mem _ hv)
  have := h w List.mem_cons_self
  rw [tot, List.length_cons, Nat.mul_succ]
  omega
theorem Wsq.tot {ws : List (List Nat)} (h : Wsq ws) : tot ws <= 124 := by
 have h1 := tot_le (n := 30) (ws := ws) fun w hw => (h.wq w hw).len
 have h2 : (30 + 1) * ws.length <= 31 * 4 := Nat.mul_le_mul (Nat.le_refl _) h.len
 omega
theorem mul_txtb : oMulS (.str "b") (.int 30) = some (tx (List.replicate 30 98)) := by kernel_rfl
theorem words_ev (m : Int) (m0 : 0 <= m) : ∃ ws : List (List Nat), Wsq ws /\ F__law_words [.int m] = M.ret (tx (jn 32 ws)) := by
 obtain ⟨n, hn⟩ : ∃ n : Nat, 1 + m % 4 = (n : Int) := ⟨(1 + m % 4).toNat, by omega⟩
 have n1 : 1 <= n /\ n <= 4 := by omega
 have hr : rng1 [.int (n : Int)] = some (rngD 0 n) := by
  show (if b62 (n : Int) = true then some (rngD 0 (n : Int).toNat) else none) = _
  rw [if_pos (by unfold b62; simp; omega), Int.toNat_natCast]
 have hlen : (rngD 0 n).length = n := by unfold rngD; rw [List.length_map, List.length_range]
 have main : ∀ (ks : List D) (x : Sl), (∀ d ∈ ks, ∃ k : Int, d = .int k /\ 0 <= k /\ k < 100) -> ∃ ws : List (List Nat), ws.length = ks.length /\ (∀ a ∈ ws, Wq a) /\ compD (tgN 0) (nX dYes) (nX (d2 oIx (dVar 1) (d2 oMod (d2 oDiv (dVar 2) (d2 oAdd (d2 oMul (dVar 0) (dVar 0)) (dC (.int 1)))) (dC (.int 10))))) ks [x, .vl (.list (menuW.map tx)), .vl (.int m)] = M.ret (ws.map tx) := by
  intro ks
  induction ks with
  | nil => intro x _; exact ⟨[], rfl, (fun a ha => nomatch ha), rfl⟩
  | cons d ks ih =>
   intro x hk
   obtain ⟨k, rfl, k1, k2⟩ := hk d List.mem_cons_self
   obtain ⟨ws, h1, h2, h3⟩ := ih (.vl (.int k)) fun e he => hk e (List.mem_cons_of_mem _ he)
   have hkk : 0 <= k * k /\ k * k < 10000 := by
    refine ⟨Int.mul_nonneg k1 k1, ?_⟩
    have : k * k <= 99 * 99 := Int.mul_le_mul (by omega) (by omega) k1 (by omega)
    omega
   obtain ⟨w, hw, hx⟩ := menu_ix (i := m / (k * k + 1) % 10) (by omega) (by omega)
   refine ⟨w :: ws, by rw [List.length_cons, List.length_cons, h1], fun y hy => ?_, ?_⟩
   ·rcases List.mem_cons.mp hy with rfl | hy
    ·exact hw
    ·exact h2 y hy
   ·exact ev_compC (δ' := [.vl (.int k), .vl (.list (menuW.map tx)), .vl (.int m)]) rfl (ev_2 (y := .int (m / (k * k + 1) % 10)) (a0d rfl) (ev_2 (x := .int (m / (k * k + 1))) (ev_2 (a0d rfl) (ev_2 (ev_2 (a0d rfl) (a0d rfl) (o_mul (bMul_r (by omega) (by omega)))) ev_c o_add) (o_div (bDiv_of (by omega) (by omega)))) ev_c (o_mod (by decide))) hx) h3
 obtain ⟨ws, h1, h2, h3⟩ := main (rngD 0 n) .un fun d hd => by
  obtain ⟨k, rfl, k1, k2⟩ := mem_rngD hd
  exact ⟨k, rfl, k1, by omega⟩
 rw [hlen] at h1
 have hw : Wsq ws := ⟨h2, fun z => by rw [z] at h1; simp at h1; omega, by omega⟩
 have ht := hw.tot
 refine ⟨ws, hw, a0x ?_⟩
 unfold g__law_words
 refine a0p (a0y (d := .list (menuW.map tx)) (ev_lst (a0b ev_c (a0b ev_c (a0b ev_c (a0b ev_c (a0b ev_c (a0b ev_c (a0b ev_c (a0b (ev_2 ev_c ev_c mul_txtb) (a0b ev_c (a0b ev_c a0g)))))))))) rfl)) ?_
 exact a0z (a2a (z := S [32]) ev_c (a0b (x := .list (ws.map tx)) (ev_compG (ds := rngD 0 n) (ev_rngS (xs := [.int (n : Int)]) (a0b (ev_2 (x := .int 1) (y := .int (m % 4)) ev_c (ev_2 (a0d rfl) ev_c (o_mod (by decide))) (by rw [o_add, hn])) a0g) hr) (a1a (by rw [hlen]; omega)) h3) a0g) (o_join (by omega)))
def Pl (l : List Nat) : Prop := l ≠ [] /\ 10 ∉ l /\ l.length <= 900 /\ ∀ x ∈ l, x < 128
theorem mem_jn {c x : Nat} : ∀ {ws : List (List Nat)}, x ∈ jn c ws -> x = c \/ ∃ w ∈ ws, x ∈ w
 | [], h => nomatch h
 | [a], h => .inr ⟨a, List.mem_cons_self, h⟩
 | a :: b :: r, h => by
  have h : x ∈ a ++ c :: jn c (b :: r) := h
  rcases List.mem_append.mp h with h | h
  ·exact .inr ⟨a, List.mem_cons_self, h⟩
  ·rcases List.mem_cons.mp h with h | h
   ·exact .inl h
   ·rcases mem_jn h with h | ⟨w, hw, h⟩
    ·exact .inl h
    ·exact .inr ⟨w, List.mem_cons_of_mem _ hw, h⟩
section
variable {a b h : List Nat} {ws : List (List Nat)}
theorem Sg.no (s : Sg a) : 32 ∉ a := fun z => (s 32 z).2.2 rfl
structure Rw (a b h : List Nat) (ws : List (List Nat)) : Prop where
 ha : Sg a
 hb : Sg b
 hh : Sg h
 hw : ∀ w ∈ ws, Sg w
 h0 : ws ≠ []
 la : a.length <= 150
 lb : b.length <= 150
 lh : h.length <= 150
 lw : tot ws <= 300
theorem Rw.sg (q : Rw a b h ws) : ∀ x ∈ R4 a b h (jn 32 ws), x < 128 /\ x ≠ 10 := by
 intro x hx
 unfold R4 at hx
 simp only [List.mem_append, List.mem_cons] at hx
 rcases hx with hx | rfl | hx | rfl | hx | rfl | hx
 ·have := q.ha x hx; exact ⟨this.1, this.2.1⟩
 ·decide
 ·have := q.hb x hx; exact ⟨this.1, this.2.1⟩
 ·decide
 ·have := q.hh x hx; exact ⟨this.1, this.2.1⟩
 ·decide
 ·rcases mem_jn hx with rfl | ⟨w, hw, hx⟩
  ·decide
  ·have := q.hw w hw x hx; exact ⟨this.1, this.2.1⟩
theorem Rw.ok (q : Rw a b h ws) : R4ok a b h ws := ⟨q.ha.no, q.hb.no, q.hh.no, q.h0, fun w hw => (q.hw w hw).no, by have := q.lw; omega, by have := q.la; omega, by have := q.lb; omega, by have := q.lh; omega, fun x hx => (q.sg x hx).1⟩
theorem Rw.pl (q : Rw a b h ws) : Pl (R4 a b h (jn 32 ws)) := by
 refine ⟨by unfold R4; simp, fun z => (q.sg 10 z).2 rfl, ?_, fun x hx => (q.sg x hx).1⟩
 have h1 := jn_len 32 q.h0
 have := q.lw
 have := q.la
 have := q.lb
 have := q.lh
 unfold R4
 simp only [List.length_append, List.length_cons]
 omega
end
theorem hd_Sg {h : List Nat} (q : Hd h) : Sg h := fun c hc => by have := q.sg c hc; omega
theorem wq_Sg {w : List Nat} (q : Wq w) : Sg w := fun c hc => by have := q.sg c hc; unfold wsg at this; omega
theorem hd_B {h : List Nat} (q : Hd h) : nameB h = true := by
 have h1 := List.length_pos_iff.mpr q.ne
 unfold nameB
 rw [decide_eq_true (by omega : 1 <= h.length), decide_eq_true q.len, Bool.true_and, Bool.true_and, List.all_eq_true]
 intro c hc
 have := q.sg c hc
 unfold nsg
 rw [decide_eq_true this.1, decide_eq_true this.2]
 rfl
theorem wq_B {w : List Nat} (q : Wq w) : wordB w = true := by
 have h1 := List.length_pos_iff.mpr q.ne
 unfold wordB
 rw [decide_eq_true (by omega : 1 <= w.length), decide_eq_true q.len, Bool.true_and, Bool.true_and, List.all_eq_true]
 intro c hc
 have := q.sg c hc
 unfold wsg at this
 unfold wsB
 rw [decide_eq_true this.1, decide_eq_true this.2.1, decide_eq_false this.2.2]
 rfl
theorem Wsq.B {ws : List (List Nat)} (q : Wsq ws) : ws.all wordB = true := List.all_eq_true.mpr fun w hw => wq_B (q.wq w hw)
theorem addT {δ : DS} {f g : DS -> M D} {a b : List Nat} (h1 : f δ = M.ret (tx a)) (h2 : g δ = M.ret (tx b)) (hl : a.length + b.length <= 1000) : d2 oAdd f g δ = M.ret (tx (a ++ b)) := ev_2 h1 h2 (add_txt hl)
end K19
open PySem PySem.Spec L2 DL CT TX NumText FM
namespace K19
theorem at_T : attrs "Thousandths" (insD "Thousandths" []) = some [] := by kernel_rfl
theorem at_TF (d : D) : attrs "Thousandths" (insD "Frames" [("numbering", d)]) = none := by kernel_rfl
theorem at_F (d : D) : attrs "Frames" (insD "Frames" [("numbering", d)]) = some [.tuple [.str "numbering", d]] := by kernel_rfl
theorem fl_F (d : D) : oFld "Frames" "numbering" (insD "Frames" [("numbering", d)]) = some d := by kernel_rfl
theorem nf_F (d : D) : noFld "show" [.tuple [.str "numbering", d]] = true := by kernel_rfl
theorem nf_FR (d : D) : noFld "read" [.tuple [.str "numbering", d]] = true := by kernel_rfl
abbrev TH : D := insD "Thousandths" []
abbrev FR (d : D) : D := insD "Frames" [("numbering", d)]
def ShM (CK : D) (t : List Nat) (n : Int) : Prop := ∀ (fo : DS -> M D) (fa : DS -> M (List D)) (δ : DS), fo δ = M.ret CK -> fa δ = M.ret [.int n] -> dEl (dMe "Thousandths" "show" (fun ds => noX (a1l ds)) fo fa) (dMe "Frames" "show" (fun ds => noX (F_Frames_show ds)) fo fa) δ = M.ret (tx t)
theorem bad_other {sg sg' k k' h m s t : Nat} (hn : sg ≠ sg') (hs : sg' < 48 \/ 57 < sg') : good sg' k' (txt sg k h m s t) = false := by
 have e1 := (pre_app (c := 58) (u := fg 2 h) (v := fg 2 m ++ 58 :: (fg 2 s ++ sg :: fg k t)) (no_fig (by omega))).2
 have e2 := (pre_app (c := 58) (u := fg 2 m) (v := fg 2 s ++ sg :: fg k t) (no_fig (by omega))).2
 have e3 := (pre_no (c := sg') (u := fg 2 s ++ sg :: fg k t) (by
  intro z
  rcases List.mem_append.mp z with z | z
  ·exact no_fig hs z
  ·rcases List.mem_cons.mp z with z | z
   ·exact hn z.symm
   ·exact no_fig hs z)).1
 have h6 : six (fg 2 s ++ sg :: fg k t) = false := by
  unfold six hasF
  have hz : 2 <= (fg 2 s).length := by
   unfold fg
   rw [List.length_append, List.length_replicate]
   omega
  rw [decide_eq_false (by rw [List.length_append, List.length_cons]; omega)]
  rfl
 unfold good pS txt
 rw [e1, e2, e3, h6, Bool.and_false, Bool.and_false]
 rfl
structure Ckk (CK : D) (B : Nat) : Prop where
 bs : Bs B
 rd : ∀ n : Nat, n < 10 ^ 19 -> RdM CK (tb B n) (n : Int)
 no : ∀ n : Nat, n < 10 ^ 19 -> RdN CK (tb (oth B) n)
 sh : ∀ n : Nat, n < 10 ^ 19 -> ShM CK (tb B n) (n : Int)
theorem tb_th (n : Nat) : tb 1000 n = txt 46 3 (n / 3600000) (n / 60000 % 60) (n / 1000 % 60) (n % 1000) := by
 show txt 46 3 (n / 1000 / 3600) (n / 1000 / 60 % 60) (n / 1000 % 60) (n % 1000) = _
 rw [Nat.div_div_eq_div_mul, Nat.div_div_eq_div_mul]
theorem ck_th : Ckk TH 1000 := by
 refine ⟨.inl rfl, fun n hn => ?_, fun n hn => ?_, fun n hn => ?_⟩
 ·rw [tb_th]
  have hr := read_moment_ev (l := txt 46 3 (n / 3600000) (n / 60000 % 60) (n / 1000 % 60) (n % 1000)) (by
   have := txt_len (sg := 46) (k := 3) (h := n / 3600000) (m := n / 60000 % 60) (s := n / 1000 % 60) (t := n % 1000) (by omega) (by omega) (by omega) (by omega)
   omega) (Uc_txt (by decide)) (good_txt (by decide) (by omega) (by omega) (by omega) (by decide) (by omega))
  obtain ⟨v1, v2, v3, v4⟩ := parts_txt (sg := 46) (k := 3) (h := n / 3600000) (m := n / 60000 % 60) (s := n / 1000 % 60) (t := n % 1000) (by decide)
  rw [v1, v2, v3, v4, val_fg, val_fg, val_fg, val_fg] at hr
  have e : (1000 * (60 * (60 * ((n / 3600000 : Nat) : Int) + ((n / 60000 % 60 : Nat) : Int)) + ((n / 1000 % 60 : Nat) : Int)) + ((n % 1000 : Nat) : Int)) = (n : Int) := by omega
  rw [e] at hr
  intro fo fa δ h1 h2
  refine ev_el1 (ev_meX h1 at_T rfl h2 (a0x ?_))
  unfold a1w
  exact a0z (ev_callX (a0b (a0d rfl) a0g) hr)
 ·intro fo fa δ h1 h2
  have hl := tb_len (oth_B 1000) (n := n) (by omega)
  refine er_el1 (er_me h1 at_T rfl h2 (er_run ?_))
  unfold a1w
  exact er_ret (er_callX (a0b (a0d rfl) a0g) (read_moment_bad (by omega) (Uc_txt (by decide)) (bad_other (by decide) (by decide))))
 ·rw [tb_th]
  intro fo fa δ h1 h2
  refine ev_el1 (ev_me h1 at_T rfl h2 (a0x ?_))
  unfold g_Thousandths_show
  exact a0z (a0k (a0b (a0d rfl) a0g) (show_moment_ev (by omega)))
theorem tb_fr {B n : Nat} (hB : Bs B) (hb : B ≠ 1000) {e : Int} (he : 1 <= e /\ e <= 60) : ∃ m o, Ok (B : Int) 0 e m o /\ (n : Int) = fr (B : Int) 0 e m o /\ lb m o (B : Int) = .tuple [.int (n / B / 3600 : Nat), .int (n / B / 60 % 60 : Nat), .int (n / B % 60 : Nat), .int (n % B : Nat)] := by
 have hq : 24 <= B /\ B <= 60 := by unfold Bs at hB; omega
 have h : Nb (B : Int) 0 e := ⟨by omega, by omega, by omega, by omega, he.1, he.2⟩
 obtain ⟨m, o, k, hf, _⟩ := label_ev h (f := (n : Int)) (by omega)
 obtain ⟨m0, o0, o1, _⟩ := id k
 obtain ⟨p1, p2, p3, p4, p5, p6, p7⟩ := lab (m := m) h.b1 o0 o1
 refine ⟨m, o, k, hf, ?_⟩
 unfold fr at hf
 rw [Int.zero_mul, Int.sub_zero] at hf
 have q1 : ((n / B : Nat) : Int) = 60 * m + o / (B : Int) := by
  rw [Int.natCast_ediv, hf]
  exact p1
 have q2 : ((n % B : Nat) : Int) = o % (B : Int) := by
  rw [Int.natCast_emod, hf]
  exact p4
 have r1 : m / 60 = ((n / B / 3600 : Nat) : Int) := by omega
 have r2 : m % 60 = ((n / B / 60 % 60 : Nat) : Int) := by omega
 have r3 : o / (B : Int) = ((n / B % 60 : Nat) : Int) := by omega
 show PyData.tuple [.int (m / 60), .int (m % 60), .int (o / (B : Int)), .int (o % (B : Int))] = _
 rw [r1, r2, r3, q2]
theorem ck_fr {B : Nat} (hB : Bs B) (hb : B ≠ 1000) {e : Int} (he : 1 <= e /\ e <= 60) : Ckk (FR (nb (B : Int) 0 e)) B := by
 have hq : 24 <= B /\ B <= 60 := by unfold Bs at hB; omega
 have h : Nb (B : Int) 0 e := ⟨by omega, by omega, by omega, by omega, he.1, he.2⟩
 have hsg : sgn 0 = 58 := rfl
 have hwd : wide (B : Int) = 2 := by unfold wide; rw [if_neg (by omega)]
 have hS : sgB B = 58 := by unfold sgB; rw [if_neg hb]
 have hK : kB B = 2 := by unfold kB; rw [if_neg hb]
 have hO : oth B = 1000 := by unfold oth; rw [if_neg hb]
 have eT : ∀ n, tb B n = txt 58 2 (n / B / 3600) (n / B / 60 % 60) (n / B % 60) (n % B) := fun n => by unfold tb; rw [hS, hK]
 have hr : ∀ n, n % B < B := fun n => Nat.mod_lt n (by omega)
 refine ⟨hB, fun n hn => ?_, fun n hn => ?_, fun n hn => ?_⟩
 ·obtain ⟨m, o, k, hf, hlb⟩ := tb_fr (n := n) hB hb he
  have hl := tb_len hB (n := n) (by omega)
  have hd := div_lt (B := B) hn
  have hrn := hr n
  rw [eT] at hl ⊢
  obtain ⟨v1, v2, v3, v4⟩ := parts_txt (sg := 58) (k := 2) (h := n / B / 3600) (m := n / B / 60 % 60) (s := n / B % 60) (t := n % B) (by decide)
  have hg : good 58 2 (txt 58 2 (n / B / 3600) (n / B / 60 % 60) (n / B % 60) (n % B)) = true := good_txt (by decide) (by omega) (by omega) (by omega) (by decide) (by omega)
  have hr := read_frame_ev (t := txt 58 2 (n / B / 3600) (n / B / 60 % 60) (n / B % 60) (n % B)) h k hlb (by omega) (Uc_txt (by decide)) (by rw [hsg, hwd]; exact hg) (by rw [v1, val_fg]) (by rw [v2, val_fg]) (by rw [hsg, v3, val_fg]) (by rw [hsg, v4, val_fg])
  rw [<- hf] at hr
  intro fo fa δ h1 h2
  refine ev_el2 (ev_me0 h1 (at_TF _)) (ev_meX h1 (at_F _) (nf_FR _) h2 (a0x ?_))
  unfold g_Frames_read
  exact a0z (ev_callX (a0b (ev_1 (a0d rfl) (fl_F _)) (a0b (a0d rfl) a0g)) hr)
 ·have hl := tb_len (oth_B B) (n := n) (by omega)
  rw [hO] at hl ⊢
  have hr := read_frame_bad (t := tb 1000 n) h (by omega) (Uc_txt (by decide)) (by rw [hsg, hwd]; exact bad_other (by decide) (by decide))
  intro fo fa δ h1 h2
  refine ev_el2 (ev_me0 h1 (at_TF _)) (er_me h1 (at_F _) (nf_FR _) h2 (er_run ?_))
  unfold g_Frames_read
  exact er_ret (er_callX (a0b (ev_1 (a0d rfl) (fl_F _)) (a0b (a0d rfl) a0g)) hr)
 ·obtain ⟨m, o, k, hf, hlb⟩ := tb_fr (n := n) hB hb he
  have hd := div_lt (B := B) hn
  have hrn := hr n
  have hs' := show_frame_ev h k hlb (by omega) (by omega) (by omega) (by omega)
  rw [<- hf, hsg, hwd, <- eT] at hs'
  intro fo fa δ h1 h2
  refine ev_el2 (ev_me0 h1 (at_TF _)) (ev_me h1 (at_F _) (nf_F _) h2 (a0x ?_))
  unfold g_Frames_show
  exact a0z (a0k (a0b (ev_1 (a0d rfl) (fl_F _)) (a0b (a0d rfl) a0g)) hs')
end K19
open PySem PySem.Spec L2 DL CT TX NumText
namespace K19
local macro_rules | `(tactic| walk_at "ln") => `(tactic| (simp only [List.length_append, List.length_cons, List.length_nil, List.length_replicate, List.length_drop]; omega))
section
variable {CK : D} {a b h : List Nat} {ws : List (List Nat)} {n m : Int}
theorem Rw.na (q : Rw a b h ws) (hg : RdN CK a) : Nr CK (R4 a b h (jn 32 ws)) := fun _ hk => row_a q.ok hg (okXI_100 _ hk)
theorem Rw.nb (q : Rw a b h ws) (hg : RdM CK a n) (hb : RdN CK b) : Nr CK (R4 a b h (jn 32 ws)) := fun _ hk => row_b q.ok hg hb (okXI_100 _ hk)
theorem Rw.nc (q : Rw a b h ws) (hg : RdM CK a n) (hb : RdM CK b m) (hc : cueB n m h ws = false) : Nr CK (R4 a b h (jn 32 ws)) := fun _ hk => row_c q.ok hg hb hc (okXI_100 _ hk)
theorem Rw.rd (q : Rw a b h ws) (hg : RdM CK a n) (hb : RdM CK b m) (hc : cueB n m h ws = true) : Rd CK (R4 a b h (jn 32 ws)) ⟨n, m, h, jn 32 ws⟩ := fun _ => row_ok q.ok hg hb hc
end
theorem wy_skip {δ : DS} {G g : DS -> M Out} {i : Nat} {w k : Int} {r : M Out} (h3 : δ[i]? = some (.vl (.int w))) (hw : w ≠ k) (h : G δ = r) : gSeq (gIf (dB (d2 oEq (dVar i) (dC (.int k)))) g gNext) G δ = r :=
 a1p (b := decide (w = k)) (ev_b (ev_2 (a0d h3) ev_c o_eq)) (decide_eq_false hw) h
theorem wy_take {δ : DS} {G g : DS -> M Out} {i : Nat} {w k : Int} {d : D} (h3 : δ[i]? = some (.vl (.int w))) (hw : w = k) (h : g δ = M.ret (.rt d)) : gSeq (gIf (dB (d2 oEq (dVar i) (dC (.int k)))) g gNext) G δ = M.ret (.rt d) :=
 ev_seqIf (b := decide (w = k)) (ev_b (ev_2 (a0d h3) ev_c o_eq)) (by rw [decide_eq_true hw, if_pos rfl]; exact ev_seqR h)
abbrev cuT (b e : Nat) (h : List Nat) (ws : List (List Nat)) : D := .tuple [.int (b : Int), .int (e : Int), tx h, tx (jn 32 ws)]
section
variable {CK : D} {B b e : Nat} {h : List Nat} {ws : List (List Nat)} {m : Int}
abbrev lrS (B b e : Nat) (h : List Nat) (ws : List (List Nat)) (m w : Int) : DS := [.vl (.int (B : Int)), .vl (cuT b e h ws), .vl (.int m), .vl (.int (oth B : Int)), .vl (tx (tb B b)), .vl (tx (tb B e)), .vl (.int w)]
theorem lr_head {r : M Out} {G : DS -> M Out} {w : Int} (hB : Bs B) (hb : b < 10 ^ 19) (he : e < 10 ^ 19) (hw : w = m / 64 % 5) (hG : G (lrS B b e h ws m w) = r) :
  gSeq (gAsg (dC (.int 1000)) (tgN 3))
  (gSeq (gIf (dB (d2 oEq (dVar 0) (dC (.int 1000)))) (gAsg (dC (.int 25)) (tgN 3)) gNext)
  (gSeq (gAsg (dCall (fun ds => noX (a2c ds)) (dCons (dVar 0) (dCons (d2 oIx (dVar 1) (dC (.int 0))) dNil))) (tgN 4))
  (gSeq (gAsg (dCall (fun ds => noX (a2c ds)) (dCons (dVar 0) (dCons (d2 oIx (dVar 1) (dC (.int 1))) dNil))) (tgN 5))
  (gSeq (gAsg (d2 oMod (d2 oDiv (dVar 2) (dC (.int 64))) (dC (.int 5))) (tgN 6)) G)))) (startD 7 [.int (B : Int), cuT b e h ws, .int m]) = r := by
 subst hw
 have t1 := text_ev hB (n := b) (by omega)
 have t2 := text_ev hB (n := e) (by omega)
 refine a0p (a0y (d := .int 1000) ev_c) ?_
 refine a0p (δ' := [.vl (.int (B : Int)), .vl (cuT b e h ws), .vl (.int m), .vl (.int (oth B : Int)), .un, .un, .un]) ?_ ?_
 ·refine ev_ifS (b := decide ((B : Int) = 1000)) (ev_b (ev_2 (a0d rfl) ev_c o_eq)) ?_
  unfold oth
  by_cases z : B = 1000
  ·rw [decide_eq_true (by omega), if_pos rfl, if_pos z]
   exact a0y ev_c
  ·rw [decide_eq_false (by omega), if_neg Bool.false_ne_true, if_neg z]
   rfl
 refine a0p (a0y (a0k (a0b (a0d rfl) (a0b (ev_2 (a0d rfl) ev_c rfl) a0g)) t1)) ?_
 refine a0p (a0y (a0k (a0b (a0d rfl) (a0b (ev_2 (a0d rfl) ev_c rfl) a0g)) t2)) ?_
 refine a0p (a0y (ev_2 (ev_2 (a0d rfl) ev_c (o_div (bDiv_of (by decide) (by decide)))) ev_c (o_mod (by decide)))) ?_
 exact hG
theorem rw_of (hB : Bs B) {B' : Nat} (hB' : Bs B') (hb : b < 10 ^ 19) (he : e < 10 ^ 19) (hd : Hd h) (hw : Wsq ws) : Rw (tb B b) (tb B' e) h ws := by
 have h1 := tb_len hB (n := b) (by omega)
 have h2 := tb_len hB' (n := e) (by omega)
 exact ⟨tb_Sg _ _, tb_Sg _ _, hd_Sg hd, fun w hw' => wq_Sg (hw.wq w hw'), hw.ne, by omega, by omega, by have := hd.len; omega, by have := hw.tot; omega⟩
theorem law_row_ev (c : Ckk CK B) (hb : b < 10 ^ 19) (he : e < 10 ^ 19) (hd : Hd h) (hw : Wsq ws) (m : Int) : ∃ l, Pl l /\ F__law_row [.int (B : Int), cuT b e h ws, .int m] = M.ret (tx l) /\ (0 < m % 20 -> l = R4 (tb B b) (tb B e) h (jn 32 ws)) /\ (m % 20 = 0 -> Nr CK l) := by
 have hB := c.bs
 have hO := oth_B B
 have l1 := tb_len hB (n := b) (by omega)
 have l2 := tb_len hB (n := e) (by omega)
 have l3 := tb_len hO (n := b) (by omega)
 have l4 := tb_len hO (n := e) (by omega)
 have l5 := hd.len
 have l6 : (jn 32 ws).length <= 124 := by have := jn_len 32 hw.ne; have := hw.tot; omega
 have t3 := text_ev hO (n := b) (by omega)
 have t4 := text_ev hO (n := e) (by omega)
 have r0 := rw_of (h := h) (ws := ws) hB hB hb he hd hw
 have rb := c.rd b hb
 have re := c.rd e he
 have eq : ∀ x y : List Nat, (x ++ [32] ++ y ++ [32] ++ h ++ [32]) ++ jn 32 ws = R4 x y h (jn 32 ws) := fun x y => by
  unfold R4
  simp only [List.append_assoc, List.cons_append, List.nil_append]
 by_cases h20 : 0 < m % 20
 ·refine ⟨R4 (tb B b) (tb B e) h (jn 32 ws), r0.pl, a0x ?_, fun _ => rfl, fun z => by omega⟩
  unfold g__law_row
  rw [<- eq]
  refine lr_head hB hb he rfl (ev_seqIf (b := decide (0 < m % 20)) (ev_b (ev_2 (ev_2 (a0d rfl) ev_c (o_mod (by decide))) ev_c o_gt)) ?_)
  rw [decide_eq_true h20, if_pos rfl]
  exact ev_seqR (a0z (addT (addT (addT (addT (addT (addT (a0d rfl) (b := [32]) ev_c (by walk_at "ln")) (a0d rfl) (by walk_at "ln")) (b := [32]) ev_c (by walk_at "ln")) (ev_2 (a0d rfl) ev_c rfl) (by walk_at "ln")) (b := [32]) ev_c (by walk_at "ln")) (ev_2 (a0d rfl) ev_c rfl) (by walk_at "ln")))
 ·have sk : ∀ {G g : DS -> M Out} {w : Int} {r : M Out}, G (lrS B b e h ws m w) = r -> gSeq (gIf (dB (d2 oGt (d2 oMod (dVar 2) (dC (.int 20))) (dC (.int 0)))) g gNext) G (lrS B b e h ws m w) = r := fun hG =>
   a1p (b := decide (0 < m % 20)) (ev_b (ev_2 (ev_2 (a0d rfl) ev_c (o_mod (by decide))) ev_c o_gt)) (decide_eq_false h20) hG
  have hwy : m / 64 % 5 = 0 \/ m / 64 % 5 = 1 \/ m / 64 % 5 = 2 \/ m / 64 % 5 = 3 \/ m / 64 % 5 = 4 := by omega
  rcases hwy with z | z | z | z | z
  ·have r := rw_of (h := h) (ws := ws) hO hB hb he hd hw
   refine ⟨R4 (tb (oth B) b) (tb B e) h (jn 32 ws), r.pl, a0x ?_, fun z => absurd z h20, fun _ => r.na (c.no b hb)⟩
   unfold g__law_row
   rw [<- eq]
   exact lr_head hB hb he z.symm (sk (wy_take rfl rfl (a0z (addT (addT (addT (addT (addT (addT (a0k (a0b (a0d rfl) (a0b (ev_2 (a0d rfl) ev_c rfl) a0g)) t3) (b := [32]) ev_c (by walk_at "ln")) (a0d rfl) (by walk_at "ln")) (b := [32]) ev_c (by walk_at "ln")) (ev_2 (a0d rfl) ev_c rfl) (by walk_at "ln")) (b := [32]) ev_c (by walk_at "ln")) (ev_2 (a0d rfl) ev_c rfl) (by walk_at "ln")))))
  ·have r := rw_of (h := h) (ws := ws) hB hO hb he hd hw
   refine ⟨R4 (tb B b) (tb (oth B) e) h (jn 32 ws), r.pl, a0x ?_, fun z => absurd z h20, fun _ => r.nb rb (c.no e he)⟩
   unfold g__law_row
   rw [<- eq]
   exact lr_head hB hb he z.symm (sk (wy_skip rfl (by decide) (wy_take rfl rfl (a0z (addT (addT (addT (addT (addT (addT (a0d rfl) (b := [32]) ev_c (by walk_at "ln")) (a0k (a0b (a0d rfl) (a0b (ev_2 (a0d rfl) ev_c rfl) a0g)) t4) (by walk_at "ln")) (b := [32]) ev_c (by walk_at "ln")) (ev_2 (a0d rfl) ev_c rfl) (by walk_at "ln")) (b := [32]) ev_c (by walk_at "ln")) (ev_2 (a0d rfl) ev_c rfl) (by walk_at "ln"))))))
  ·have r : Rw (tb B b) (tb B e) [87, 101, 108, 108, 46] [h] := ⟨r0.ha, r0.hb, by unfold Sg; decide, fun w hw' => by rw [List.mem_singleton.mp hw']; exact r0.hh, by simp, r0.la, r0.lb, by decide, by simp only [tot]; omega⟩
   have eq2 : (tb B b ++ [32] ++ tb B e ++ [32, 87, 101, 108, 108, 46, 32]) ++ h = R4 (tb B b) (tb B e) [87, 101, 108, 108, 46] (jn 32 [h]) := by
    show _ = tb B b ++ 32 :: (tb B e ++ 32 :: ([87, 101, 108, 108, 46] ++ 32 :: h))
    simp only [List.append_assoc, List.cons_append, List.nil_append]
   refine ⟨R4 (tb B b) (tb B e) [87, 101, 108, 108, 46] (jn 32 [h]), r.pl, a0x ?_, fun z => absurd z h20, fun _ => r.nc rb re ?_⟩
   ·unfold g__law_row
    rw [<- eq2]
    exact lr_head hB hb he z.symm (sk (wy_skip rfl (by decide) (wy_skip rfl (by decide) (wy_take rfl rfl (a0z (addT (addT (addT (addT (a0d rfl) (b := [32]) ev_c (by walk_at "ln")) (a0d rfl) (by walk_at "ln")) (b := [32, 87, 101, 108, 108, 46, 32]) ev_c (by walk_at "ln")) (ev_2 (a0d rfl) ev_c rfl) (by walk_at "ln")))))))
   ·unfold cueB
    rw [show nameB [87, 101, 108, 108, 46] = false by decide, Bool.false_and, Bool.and_false]
  ·have r : Rw (tb B b) (tb B e) [] [h] := ⟨r0.ha, r0.hb, (fun c hc => nomatch hc), fun w hw' => by rw [List.mem_singleton.mp hw']; exact r0.hh, by simp, r0.la, r0.lb, by decide, by simp only [tot]; omega⟩
   have eq2 : (tb B b ++ [32] ++ tb B e ++ [32, 32]) ++ h = R4 (tb B b) (tb B e) [] (jn 32 [h]) := by
    show _ = tb B b ++ 32 :: (tb B e ++ 32 :: ([] ++ 32 :: h))
    simp only [List.append_assoc, List.cons_append, List.nil_append]
   refine ⟨R4 (tb B b) (tb B e) [] (jn 32 [h]), r.pl, a0x ?_, fun z => absurd z h20, fun _ => r.nc rb re ?_⟩
   ·unfold g__law_row
    rw [<- eq2]
    exact lr_head hB hb he z.symm (sk (wy_skip rfl (by decide) (wy_skip rfl (by decide) (wy_skip rfl (by decide) (wy_take rfl rfl (a0z (addT (addT (addT (addT (a0d rfl) (b := [32]) ev_c (by walk_at "ln")) (a0d rfl) (by walk_at "ln")) (b := [32, 32]) ev_c (by walk_at "ln")) (ev_2 (a0d rfl) ev_c rfl) (by walk_at "ln"))))))))
   ·unfold cueB
    rw [show nameB [] = false by decide, Bool.false_and, Bool.and_false]
  ·have r : Rw (tb B b) (tb B e) h [tb B b, [], tb B e] := ⟨r0.ha, r0.hb, r0.hh, fun w hw' => by
     simp only [List.mem_cons, List.not_mem_nil, or_false] at hw'
     rcases hw' with rfl | rfl | rfl
     ·exact r0.ha
     ·exact (fun c hc => nomatch hc)
     ·exact r0.hb, by simp, r0.la, r0.lb, r0.lh, by simp only [tot, List.length_nil]; omega⟩
   have eq2 : (tb B b ++ [32] ++ tb B e ++ [32] ++ h ++ [32] ++ tb B b ++ [32, 32]) ++ tb B e = R4 (tb B b) (tb B e) h (jn 32 [tb B b, [], tb B e]) := by
    show _ = tb B b ++ 32 :: (tb B e ++ 32 :: (h ++ 32 :: (tb B b ++ 32 :: ([] ++ 32 :: tb B e))))
    simp only [List.append_assoc, List.cons_append, List.nil_append]
   refine ⟨R4 (tb B b) (tb B e) h (jn 32 [tb B b, [], tb B e]), r.pl, a0x ?_, fun z => absurd z h20, fun _ => r.nc rb re ?_⟩
   ·unfold g__law_row
    rw [<- eq2]
    exact lr_head hB hb he z.symm (sk (wy_skip rfl (by decide) (wy_skip rfl (by decide) (wy_skip rfl (by decide) (wy_skip rfl (by decide) (a0z (addT (addT (addT (addT (addT (addT (addT (addT (a0d rfl) (b := [32]) ev_c (by walk_at "ln")) (a0d rfl) (by walk_at "ln")) (b := [32]) ev_c (by walk_at "ln")) (ev_2 (a0d rfl) ev_c rfl) (by walk_at "ln")) (b := [32]) ev_c (by walk_at "ln")) (a0d rfl) (by walk_at "ln")) (b := [32, 32]) ev_c (by walk_at "ln")) (a0d rfl) (by walk_at "ln"))))))))
   ·unfold cueB
    rw [show ([tb B b, [], tb B e] : List (List Nat)).all wordB = false by simp [wordB], Bool.and_false, Bool.and_false]
end
end K19
open PySem PySem.Spec L2 DL CT TX NumText
namespace K19
structure It where
 l : List Nat
 b : Nat
 e : Nat
 h : List Nat
 ws : List (List Nat)
 w : Bool
def itD (x : It) : D := .tuple [tx x.l, cuT x.b x.e x.h x.ws, .bool x.w]
def itC (x : It) : C4 := ⟨(x.b : Int), (x.e : Int), x.h, jn 32 x.ws⟩
structure Iq (CK : D) (B L : Nat) (x : It) : Prop where
 pl : Pl x.l
 bb : x.b < 10 ^ 15
 eb : x.e < 10 ^ 15
 hd : Hd x.h
 wq : Wsq x.ws
 ok : x.w = false -> Rd CK x.l (itC x) /\ L <= x.b /\ x.l = R4 (tb B x.b) (tb B x.e) x.h (jn 32 x.ws)
 no : x.w = true -> Nr CK x.l \/ (Rd CK x.l (itC x) /\ x.b < L)
def Ch (CK : D) (B : Nat) : Nat -> List It -> Prop
 | _, [] => True
 | L, x :: r => Iq CK B L x /\ Ch CK B x.b r
theorem iq_of {CK : D} {B b e L : Nat} {l h : List Nat} {ws : List (List Nat)} {m : Int} (c : Ckk CK B) (hb : b < 10 ^ 15) (he : e < 10 ^ 15) (hd : Hd h) (hw : Wsq ws) (hp : Pl l) (h1 : 0 < m % 20 -> l = R4 (tb B b) (tb B e) h (jn 32 ws)) (h2 : m % 20 = 0 -> Nr CK l) : Iq CK B L ⟨l, b, e, h, ws, decide (m % 20 = 0) || (decide ((e : Int) <= (b : Int)) || decide ((b : Int) < (L : Int)))⟩ := by
 have rb := c.rd b (by omega)
 have re := c.rd e (by omega)
 have r0 := rw_of (h := h) (ws := ws) c.bs c.bs (b := b) (e := e) (by omega) (by omega) hd hw
 have cue : 0 < m % 20 -> b < e -> Rd CK l ⟨(b : Int), (e : Int), h, jn 32 ws⟩ := fun z be => by
  rw [h1 z]
  refine r0.rd rb re ?_
  unfold cueB
  rw [hd_B hd, hw.B, decide_eq_true (by omega), decide_eq_true (by omega)]
  rfl
 refine ⟨hp, hb, he, hd, hw, fun z => ?_, fun z => ?_⟩
 ·have z : (decide (m % 20 = 0) || (decide ((e : Int) <= (b : Int)) || decide ((b : Int) < (L : Int)))) = false := z
  rw [Bool.or_eq_false_iff, Bool.or_eq_false_iff, decide_eq_false_iff_not, decide_eq_false_iff_not, decide_eq_false_iff_not] at z
  obtain ⟨z1, z2, z3⟩ := z
  exact ⟨cue (by omega) (by omega), by show L <= b; omega, h1 (by omega)⟩
 ·have z : (decide (m % 20 = 0) || (decide ((e : Int) <= (b : Int)) || decide ((b : Int) < (L : Int)))) = true := z
  by_cases z1 : m % 20 = 0
  ·exact .inl (h2 z1)
  ·by_cases z2 : e <= b
   ·left
    show Nr CK l
    rw [h1 (by omega)]
    refine r0.nc rb re ?_
    unfold cueB
    rw [decide_eq_false (show ¬ ((b : Int) < (e : Int)) by omega), Bool.and_false, Bool.false_and]
   ·right
    rw [decide_eq_false z1, decide_eq_false (show ¬ ((e : Int) <= (b : Int)) by omega), Bool.false_or, Bool.false_or, decide_eq_true_eq] at z
    exact ⟨cue (by omega) (by omega), by show b < L; omega⟩
theorem pick2n {a b i : Int} {lo hi : Int} (h0 : 0 <= i) (h1 : i < 2) (ha : lo <= a /\ a <= hi) (hb : lo <= b /\ b <= hi) : lo <= pk [a, b] i /\ pk [a, b] i <= hi := by
 have : i = 0 \/ i = 1 := by omega
 rcases this with rfl | rfl
 ·exact ha
 ·exact hb
theorem drawn_loop {CK : D} {B : Nat} (c : Ckk CK B) (NS : D) : ∀ (is : List Int) (made : List It) (L : Nat) (x4 x5 x6 x7 x8 x9 x10 x11 : Sl), L <= made.length * 3000 -> made.length + is.length <= 100 ->
  ∃ (its : List It) (L' : Nat) (y4 y5 y6 y7 y8 y9 y10 y11 : Sl), Ch CK B L its /\ its.length = is.length /\ forD (bodyD (tgTup 2 (tgCons (tgN 4) (tgCons (tgN 5) tgNil))) b__law_drawn_0) (enumD made.length (is.map PyData.int)) [.vl NS, .vl (.int (B : Int)), .ow (made.map itD), .vl (.int (L : Int)), x4, x5, x6, x7, x8, x9, x10, x11] = M.ret (.nx [.vl NS, .vl (.int (B : Int)), .ow ((made ++ its).map itD), .vl (.int (L' : Int)), y4, y5, y6, y7, y8, y9, y10, y11])
 | [], made, L, x4, x5, x6, x7, x8, x9, x10, x11, _, _ => ⟨[], L, _, _, _, _, _, _, _, _, trivial, rfl, by rw [List.append_nil]; rfl⟩
 | i :: is, made, L, x4, x5, x6, x7, x8, x9, x10, x11, hL, hl => by
  rw [List.length_cons] at hl
  obtain ⟨m, ⟨m0, m1⟩, hm⟩ := mixed_ev (i + (made.length : Int)) 48271 (by decide) (by decide)
  obtain ⟨m2, ⟨m20, _⟩, hm2⟩ := mixed_ev i 39373 (by decide) (by decide)
  obtain ⟨m3, ⟨m30, _⟩, hm3⟩ := mixed_ev i 16807 (by decide) (by decide)
  obtain ⟨ws, hw1, hwe⟩ := words_ev m2 m20
  obtain ⟨h, hd1, hde⟩ := hand_ev m3 m30
  have p1 := pick2n (a := 0) (b := m / 4 % 3000) (i := m % 2) (lo := 0) (hi := 2999) (by omega) (by omega) (by omega) (by omega)
  have i1 := ix_pick2 (a := 0) (b := m / 4 % 3000) (i := m % 2) (by omega) (by omega)
  generalize pk [0, m / 4 % 3000] (m % 2) = P1 at p1 i1
  obtain ⟨bg, hbg⟩ : ∃ bg : Int, bg = if m / 8 % 30 = 7 then (L : Int) - 1 else (L : Int) + P1 := ⟨_, rfl⟩
  obtain ⟨en, hen⟩ : ∃ en : Int, en = if m / 32 % 30 = 7 then bg else bg + 1 + m / 16 % 3000 := ⟨_, rfl⟩
  have hbg2 : (L : Int) - 1 <= bg /\ bg <= (L : Int) + 2999 := by rw [hbg]; split <;> omega
  have hen2 : bg <= en /\ en <= bg + 3001 := by rw [hen]; split <;> omega
  obtain ⟨b, hb⟩ : ∃ b : Nat, (b : Int) = max 0 bg := ⟨(max 0 bg).toNat, by omega⟩
  obtain ⟨e, he⟩ : ∃ e : Nat, (e : Int) = max 0 en := ⟨(max 0 en).toNat, by omega⟩
  have hml : made.length <= 100 := by omega
  have hbL : b <= L + 3000 := by omega
  have heL : e <= L + 10000 := by omega
  obtain ⟨l, l1, l2, l3, l4⟩ := law_row_ev c (b := b) (e := e) (h := h) (ws := ws) (by omega) (by omega) hd1 hw1 m
  have iq := iq_of (L := L) c (b := b) (e := e) (by omega) (by omega) hd1 hw1 l1 l3 l4
  obtain ⟨it, hit⟩ : ∃ it : It, it = ⟨l, b, e, h, ws, decide (m % 20 = 0) || (decide ((e : Int) <= (b : Int)) || decide ((b : Int) < (L : Int)))⟩ := ⟨_, rfl⟩
  rw [<- hit] at iq
  have hitb : it.b = b := by rw [hit]
  obtain ⟨CU, hCU⟩ : ∃ CU : D, CU = cuT b e h ws := ⟨_, rfl⟩
  have hel : (made ++ [it]).length = made.length + 1 := by rw [List.length_append, List.length_singleton]
  obtain ⟨its, L', y4, y5, y6, y7, y8, y9, y10, y11, h1, h2, hI⟩ := drawn_loop c NS is (made ++ [it]) b (.vl (.int (made.length : Int))) (.vl (.int i)) (.vl (.int m)) (.vl (.int bg)) (.vl (.int en)) (.vl (tx (jn 32 ws))) (.vl CU) (.vl (.bool (decide (m % 20 = 0) || (decide ((e : Int) <= (b : Int)) || decide ((b : Int) < (L : Int)))))) (by rw [hel]; omega) (by rw [hel]; omega)
  refine ⟨it :: its, L', y4, y5, y6, y7, y8, y9, y10, y11, ⟨iq, by rw [hitb]; exact h1⟩, by rw [List.length_cons, List.length_cons, h2], ?_⟩
  rw [List.append_assoc, hel, List.map_append] at hI
  rw [List.map_cons]
  show forD _ (.tuple [.int (made.length : Int), .int i] :: enumD (made.length + 1) (is.map PyData.int)) _ = _
  refine forD_cons (ev_body (δ' := [.vl NS, .vl (.int (B : Int)), .ow (made.map itD), .vl (.int (L : Int)), .vl (.int (made.length : Int)), .vl (.int i), x6, x7, x8, x9, x10, x11]) rfl ?_) hI
  unfold b__law_drawn_0
  refine a0p (a0y (d := .int m) (a0k (a0b (ev_2 (a0d rfl) (a0d rfl) o_add) (a0b ev_c a0g)) hm)) ?_
  refine a0p (a0y (d := .int ((L : Int) + P1)) (ev_2 (a0d rfl) (ev_2 (ev_lst (a0b ev_c (a0b (ev_2 (ev_2 (a0d rfl) ev_c (o_div (bDiv_of (by decide) (by decide)))) ev_c (o_mod (by decide))) a0g)) rfl) (ev_2 (a0d rfl) ev_c (o_mod (by decide))) i1) o_add)) ?_
  refine a0p (δ' := [.vl NS, .vl (.int (B : Int)), .ow (made.map itD), .vl (.int (L : Int)), .vl (.int (made.length : Int)), .vl (.int i), .vl (.int m), .vl (.int bg), x8, x9, x10, x11]) ?_ ?_
  ·refine ev_ifS (b := decide (m / 8 % 30 = 7)) (ev_b (ev_2 (ev_2 (ev_2 (a0d rfl) ev_c (o_div (bDiv_of (by decide) (by decide)))) ev_c (o_mod (by decide))) ev_c o_eq)) ?_
   by_cases z : m / 8 % 30 = 7
   ·rw [decide_eq_true z, if_pos rfl, hbg, if_pos z]
    exact a0y (ev_2 (a0d rfl) ev_c o_sub)
   ·rw [decide_eq_false z, if_neg Bool.false_ne_true, hbg, if_neg z]
    rfl
  refine a0p (a0y (d := .int (bg + 1 + m / 16 % 3000)) (ev_2 (ev_2 (a0d rfl) ev_c o_add) (ev_2 (ev_2 (a0d rfl) ev_c (o_div (bDiv_of (by decide) (by decide)))) ev_c (o_mod (by decide))) o_add)) ?_
  refine a0p (δ' := [.vl NS, .vl (.int (B : Int)), .ow (made.map itD), .vl (.int (L : Int)), .vl (.int (made.length : Int)), .vl (.int i), .vl (.int m), .vl (.int bg), .vl (.int en), x9, x10, x11]) ?_ ?_
  ·refine ev_ifS (b := decide (m / 32 % 30 = 7)) (ev_b (ev_2 (ev_2 (ev_2 (a0d rfl) ev_c (o_div (bDiv_of (by decide) (by decide)))) ev_c (o_mod (by decide))) ev_c o_eq)) ?_
   by_cases z : m / 32 % 30 = 7
   ·rw [decide_eq_true z, if_pos rfl, hen, if_pos z]
    exact a0y (a0d rfl)
   ·rw [decide_eq_false z, if_neg Bool.false_ne_true, hen, if_neg z]
    rfl
  refine a0p (a0y (d := tx (jn 32 ws)) (a0k (a0b (a0k (a0b (a0d rfl) (a0b ev_c a0g)) hm2) a0g) hwe)) ?_
  refine a0p (a0y (d := CU) (by rw [hCU]; unfold cuT; rw [hb, he]; exact ev_tup (a0b (a2l (a0b ev_c (a0b (a0d rfl) a0g)) o_max) (a0b (a2l (a0b ev_c (a0b (a0d rfl) a0g)) o_max) (a0b (a0k (a0b (a0k (a0b (a0d rfl) (a0b ev_c a0g)) hm3) a0g) hde) (a0b (a0d rfl) a0g)))) rfl)) ?_
  have c0 : oIx CU (.int 0) = some (.int (b : Int)) := by rw [hCU]; rfl
  have c1 : oIx CU (.int 1) = some (.int (e : Int)) := by rw [hCU]; rfl
  refine a0p (a0y (d := .bool (decide (m % 20 = 0) || (decide ((e : Int) <= (b : Int)) || decide ((b : Int) < (L : Int))))) (ev_orV (ev_2 (ev_2 (a0d rfl) ev_c (o_mod (by decide))) ev_c o_eq) (ev_orV (ev_2 (ev_2 (a0d rfl) ev_c c0) (ev_2 (a0d rfl) ev_c c1) o_ge) (ev_2 (ev_2 (a0d rfl) ev_c c0) (a0d rfl) (by first | exact o_lt | exact o_ltD))))) ?_
  refine a0p (ev_app (ds := made.map itD) (d := itD it) rfl (by rw [hit]; unfold itD; rw [<- hCU] at l2 ⊢; exact ev_tup (a0b (a0k (a0b (a0d rfl) (a0b (a0d rfl) (a0b (a0d rfl) a0g))) l2) (a0b (a0d rfl) (a0b (a0d rfl) a0g))) rfl) (a1a (by rw [List.length_map]; omega))) ?_
  exact a0y (ev_2 (a0d rfl) ev_c c0)
end K19
open PySem PySem.Spec L2 DL CT TX NumText
namespace K19
def gd (its : List It) : List It := its.takeWhile fun x => !x.w
theorem gd_t {x : It} {r : List It} (h : x.w = true) : gd (x :: r) = [] := by unfold gd; rw [List.takeWhile_cons, h]; rfl
theorem gd_f {x : It} {r : List It} (h : x.w = false) : gd (x :: r) = x :: gd r := by unfold gd; rw [List.takeWhile_cons, h]; rfl
theorem ch_pl {CK : D} {B : Nat} : ∀ {its : List It} {L : Nat}, Ch CK B L its -> ∀ x ∈ its, Pl x.l
 | [], _, _, _, h => nomatch h
 | x :: r, L, h, y, hy => by
  rcases List.mem_cons.mp hy with rfl | hy
  ·exact h.1.pl
  ·exact ch_pl h.2 y hy
structure Gx (CK : D) (B : Nat) (x : It) : Prop where
 rd : Rd CK x.l (itC x)
 eq : x.l = R4 (tb B x.b) (tb B x.e) x.h (jn 32 x.ws)
 bb : x.b < 10 ^ 15
 eb : x.e < 10 ^ 15
 hd : Hd x.h
 wq : Wsq x.ws
theorem ch_split {CK : D} {B : Nat} : ∀ {its : List It} {L : Nat}, Ch CK B L its -> (∀ x ∈ gd its, Gx CK B x /\ L <= x.b) /\ (gd its).Pairwise (fun x y => x.b <= y.b) /\
  (its = gd its \/ ∃ x more, its = gd its ++ x :: more /\ (Nr CK x.l \/ (Rd CK x.l (itC x) /\ ((gd its = [] /\ x.b < L) \/ ∃ g0 p, gd its = g0 ++ [p] /\ x.b < p.b))))
 | [], _, _ => ⟨(fun x h => nomatch h), List.Pairwise.nil, .inl rfl⟩
 | x :: r, L, h => by
  obtain ⟨h1, h2⟩ := h
  cases hw : x.w with
  | true =>
   rw [gd_t hw]
   refine ⟨(fun x h => nomatch h), List.Pairwise.nil, .inr ⟨x, r, rfl, ?_⟩⟩
   rcases h1.no hw with z | ⟨z, z2⟩
   ·exact .inl z
   ·exact .inr ⟨z, .inl ⟨rfl, z2⟩⟩
  | false =>
   rw [gd_f hw]
   obtain ⟨k1, k2, k3⟩ := ch_split h2
   obtain ⟨o1, o2, o3⟩ := h1.ok hw
   refine ⟨fun y hy => ?_, List.pairwise_cons.mpr ⟨fun y hy => (k1 y hy).2, k2⟩, ?_⟩
   ·rcases List.mem_cons.mp hy with rfl | hy
    ·exact ⟨⟨o1, o3, h1.bb, h1.eb, h1.hd, h1.wq⟩, o2⟩
    ·exact ⟨(k1 y hy).1, by have := (k1 y hy).2; omega⟩
   ·rcases k3 with z | ⟨y, more, z, z2⟩
    ·exact .inl (by rw [<- z])
    ·refine .inr ⟨y, more, by rw [List.cons_append, <- z], ?_⟩
     rcases z2 with z2 | ⟨z2, z3⟩
     ·exact .inl z2
     ·refine .inr ⟨z2, .inr ?_⟩
      rcases z3 with ⟨z3, z4⟩ | ⟨g0, p, z3, z4⟩
      ·exact ⟨[], x, by rw [z3]; rfl, z4⟩
      ·exact ⟨x :: g0, p, by rw [z3]; rfl, z4⟩
theorem forD_brk {body : D -> DS -> M Out} {d : D} {ds : List D} {δ δ' : DS} (h1 : body d δ = M.ret (.bk δ')) : forD body (d :: ds) δ = M.ret (.nx δ') := by
 show (body d δ).thn _ = _
 rw [h1]
 rfl
abbrev cD4 (x : It) : D := c4 (itC x)
theorem brk_loop (v0 v1 v2 v3 v4 v7 v8 : Sl) : ∀ (its : List It) (cs : List D) (x6 : Sl), cs.length + its.length <= 100 -> ∃ y6, forD (bodyD (tgN 6) b_law_0) (its.map itD) [v0, v1, v2, v3, v4, .ow cs, x6, v7, v8] = M.ret (.nx [v0, v1, v2, v3, v4, .ow (cs ++ (gd its).map cD4), y6, v7, v8])
 | [], cs, x6, _ => ⟨x6, by rw [show (gd []).map cD4 = [] from rfl, List.append_nil]; rfl⟩
 | x :: r, cs, x6, hl => by
  rw [List.length_cons] at hl
  cases hw : x.w with
  | true =>
   rw [gd_t hw]
   refine ⟨.vl (itD x), ?_⟩
   rw [List.map_nil, List.append_nil, List.map_cons]
   refine forD_brk (ev_body (δ' := [v0, v1, v2, v3, v4, .ow cs, .vl (itD x), v7, v8]) rfl ?_)
   unfold b_law_0
   refine ev_seqIf (b := true) (ev_b (ev_2 (x := itD x) (y := .int 2) (a0d rfl) ev_c (by show some (PyData.bool x.w) = _; rw [hw]))) (ite_T rfl rfl)
  | false =>
   rw [gd_f hw]
   obtain ⟨y6, hI⟩ := brk_loop v0 v1 v2 v3 v4 v7 v8 r (cs ++ [cD4 x]) (.vl (itD x)) (by rw [List.length_append, List.length_singleton]; omega)
   refine ⟨y6, ?_⟩
   rw [List.append_assoc] at hI
   rw [List.map_cons]
   refine forD_cons (ev_body (δ' := [v0, v1, v2, v3, v4, .ow cs, .vl (itD x), v7, v8]) rfl ?_) hI
   unfold b_law_0
   refine a1p (b := false) (ev_b (ev_2 (x := itD x) (y := .int 2) (a0d rfl) ev_c (by show some (PyData.bool x.w) = _; rw [hw]))) rfl ?_
   exact ev_app (ds := cs) (d := cD4 x) rfl (ev_2 (x := itD x) (a0d rfl) ev_c rfl) (a1a (by omega))
theorem rows_comp : ∀ (its : List It) (x : Sl), compD (tgN 0) (nX dYes) (nX (d2 oIx (dVar 0) (dC (.int 0)))) (its.map itD) [x] = M.ret ((its.map It.l).map tx)
 | [], _ => rfl
 | x :: r, _ => ev_compC (δ' := [.vl (itD x)]) rfl (ev_2 (x := itD x) (a0d rfl) ev_c rfl) (rows_comp r _)
theorem tot_rows {its : List It} (hl : its.length <= 63) (h : ∀ x ∈ its, Pl x.l) : tot (its.map It.l) <= 60000 := by
 have h1 := tot_le (n := 900) (ws := its.map It.l) fun w hw => by
  obtain ⟨x, hx, rfl⟩ := List.mem_map.mp hw
  exact (h x hx).2.2.1
 have h2 : (900 + 1) * (its.map It.l).length <= 901 * 63 := Nat.mul_le_mul (Nat.le_refl _) (by rw [List.length_map]; exact hl)
 omega
theorem no10_rows {its : List It} (h : ∀ x ∈ its, Pl x.l) : ∀ w ∈ its.map It.l, 10 ∉ w := fun w hw => by
 obtain ⟨x, hx, rfl⟩ := List.mem_map.mp hw
 exact (h x hx).2.1
theorem jn_ne {c : Nat} {a : List Nat} {r : List (List Nat)} (h : a ≠ []) : jn c (a :: r) ≠ [] := by
 cases r with
 | nil => exact h
 | cons b r =>
  show a ++ c :: jn c (b :: r) ≠ []
  simp
theorem rows_ne {its : List It} (h0 : its ≠ []) (h : ∀ x ∈ its, Pl x.l) : jn 10 (its.map It.l) ≠ [] := by
 cases its with
 | nil => exact absurd rfl h0
 | cons x r => exact jn_ne (h x List.mem_cons_self).1
def qs (g : List It) : List (List Nat × C4) := g.map fun x => (x.l, itC x)
theorem qs_fst (g : List It) : (qs g).map Prod.fst = g.map It.l := by unfold qs; rw [List.map_map]; rfl
theorem qs_snd (g : List It) : (qs g).map Prod.snd = g.map itC := by unfold qs; rw [List.map_map]; rfl
theorem qs_len (g : List It) : (qs g).length = g.length := by unfold qs; rw [List.length_map]
theorem qs_rd {CK : D} {B : Nat} {g : List It} (h : ∀ x ∈ g, Gx CK B x) : ∀ p ∈ qs g, Rd CK p.1 p.2 := fun p hp => by
 obtain ⟨x, hx, rfl⟩ := List.mem_map.mp hp
 exact (h x hx).rd
theorem qs_pw {g : List It} (h : g.Pairwise (fun x y => x.b <= y.b)) : ((qs g).map Prod.snd).Pairwise (fun x y => x.b <= y.b) := by
 rw [qs_snd, List.pairwise_map]
 exact h.imp fun {x y} z => by show (x.b : Int) <= (y.b : Int); omega
theorem read_g {CK : D} {B : Nat} {g : List It} (h : ∀ x ∈ g, Gx CK B x) (hp : ∀ x ∈ g, Pl x.l) (hw : g.Pairwise (fun x y => x.b <= y.b)) (hl : g.length <= 63) : a1s [CK, tx (jn 10 (g.map It.l))] = M.ret (.list (g.map cD4)) := by
 by_cases h0 : g = []
 ·subst h0
  exact read_nil
 ·have := read_okR (CK := CK) (q := qs g) (qs_rd h) (qs_pw hw) (by rw [qs_len]; omega) (by unfold qs; simpa using h0) (by rw [qs_fst]; exact rows_ne h0 hp) (by rw [qs_fst]; exact no10_rows hp) (by rw [qs_fst]; have := tot_rows hl hp; omega)
  rw [qs_fst, qs_snd, List.map_map] at this
  exact this
theorem read_x {CK : D} {B : Nat} {g more : List It} {x : It} (h : ∀ y ∈ g, Gx CK B y) (hp : ∀ y ∈ g ++ x :: more, Pl y.l) (hw : g.Pairwise (fun x y => x.b <= y.b)) (hl : (g ++ x :: more).length <= 63) (hs : Stop CK (qs g) x.l) : a1s [CK, tx (jn 10 ((g ++ x :: more).map It.l))] = noCue ((g.length : Int) + 1) := by
 have e : (g ++ x :: more).map It.l = (qs g).map Prod.fst ++ x.l :: more.map It.l := by rw [qs_fst, List.map_append]; rfl
 have h1 := rows_ne (by simp) hp
 have h2 := no10_rows hp
 have h3 := tot_rows hl hp
 rw [List.length_append] at hl
 rw [e] at h1 h2 h3 ⊢
 have := read_noR (CK := CK) (q := qs g) (x := x.l) (more := more.map It.l) (qs_rd h) (qs_pw hw) (by rw [qs_len]; omega) hs h1 h2 (by omega)
 rw [this, qs_len]
 rfl
theorem show_row_ev {CK : D} {B : Nat} (c : Ckk CK B) {x : It} (h : Gx CK B x) : F_show_row [CK, cD4 x] = M.ret (tx x.l) := by
 have hb := h.bb
 have he := h.eb
 have a := c.sh x.b (by omega)
 have b := c.sh x.e (by omega)
 have hj := o_join (c := 32) (ts := [tb B x.b, tb B x.e, x.h, jn 32 x.ws]) (by
  have := tb_len c.bs (n := x.b) (by omega)
  have := tb_len c.bs (n := x.e) (by omega)
  have := h.hd.len
  have := jn_len 32 h.wq.ne
  have := h.wq.tot
  show (tb B x.b).length + 1 + ((tb B x.e).length + 1 + (x.h.length + 1 + ((jn 32 x.ws).length + 1 + 0))) <= _
  omega)
 have e : jn 32 [tb B x.b, tb B x.e, x.h, jn 32 x.ws] = x.l := by rw [h.eq]; rfl
 rw [e] at hj
 refine a0x ?_
 unfold g_show_row
 exact a0z (a2a (z := S [32]) ev_c (a0b (ev_lst (a0b (a _ _ _ (a0d rfl) (a0b (ev_2 (x := cD4 x) (a0d rfl) ev_c rfl) a0g)) (a0b (b _ _ _ (a0d rfl) (a0b (ev_2 (x := cD4 x) (a0d rfl) ev_c rfl) a0g)) (a0b (ev_2 (x := cD4 x) (a0d rfl) ev_c rfl) (a0b (ev_2 (x := cD4 x) (a0d rfl) ev_c rfl) a0g)))) rfl) a0g) hj)
theorem show_comp {CK : D} {B : Nat} (c : Ckk CK B) : ∀ (g : List It) (x : Sl), (∀ y ∈ g, Gx CK B y) -> compD (tgN 0) (nX dYes) (nX (dCall (fun ds => noX (F_show_row ds)) (dCons (dVar 1) (dCons (dVar 0) dNil)))) (g.map cD4) [x, .vl CK] = M.ret ((g.map It.l).map tx)
 | [], x, _ => rfl
 | y :: g, x, h => ev_compC (δ' := [.vl (cD4 y), .vl CK]) rfl (a0k (ds := [CK, cD4 y]) (a0b (a0d rfl) (a0b (a0d rfl) a0g)) (show_row_ev c (h y List.mem_cons_self))) (show_comp c g _ fun e he => h e (List.mem_cons_of_mem _ he))
theorem show_g {CK : D} {B : Nat} (c : Ckk CK B) {g : List It} (h : ∀ x ∈ g, Gx CK B x) (hp : ∀ x ∈ g, Pl x.l) (hl : g.length <= 63) : F_show_cues [CK, .list (g.map cD4)] = M.ret (tx (jn 10 (g.map It.l))) := by
 have hj := o_join (c := 10) (ts := g.map It.l) (by have := tot_rows hl hp; omega)
 refine a0x ?_
 unfold g_show_cues
 exact a0z (a2a (z := S [10]) ev_c (a0b (x := .list ((g.map It.l).map tx)) (ev_compG (ds := g.map cD4) (ev_any (x := .list (g.map cD4)) (a0d rfl) rfl) (a1a (by rw [List.length_map]; omega)) (show_comp c g .un h)) a0g) hj)
theorem lay1 {CK : D} {B : Nat} {x : It} (h : Gx CK B x) : (cD4 x).canLay0 = true /\ (cD4 x).depth <= 5 := by
 have o1 : PyData.strOk (S x.h) = true := ok_S fun c hc => by have := h.hd.sg c hc; omega
 have o2 : PyData.strOk (S (jn 32 x.ws)) = true := ok_S fun c hc => by
  rcases mem_jn hc with rfl | ⟨w, hw, hc⟩
  ·decide
  ·have := wq_Sg (h.wq.wq w hw) c hc; omega
 refine ⟨?_, ?_⟩
 ·simp [cD4, c4, itC, cu, PyData.canLay0, PyData.canLayAll0, o1, o2]
 ·show 1 + max 0 (max 0 (max 0 (max 0 0))) <= 5
  decide
theorem lay_g {CK : D} {B : Nat} : ∀ {g : List It}, (∀ x ∈ g, Gx CK B x) -> PyData.canLayAll0 (g.map cD4) = true /\ PyData.depthAll (g.map cD4) <= 5
 | [], _ => ⟨rfl, by simp [PyData.depthAll]⟩
 | x :: g, h => by
  obtain ⟨a1, a2⟩ := lay1 (h x List.mem_cons_self)
  obtain ⟨b1, b2⟩ := lay_g fun y hy => h y (List.mem_cons_of_mem _ hy)
  rw [List.map_cons]
  refine ⟨by simp only [PyData.canLayAll0, a1, b1, Bool.and_self], ?_⟩
  simp only [PyData.depthAll]
  omega
theorem same_loop (X Y : D) : ∀ (g : List It) (x2 : Sl), ∃ y2, forD (bodyD (tgN 2) b__law_same_0) (g.map cD4) [.vl X, .vl Y, x2] = M.ret (.nx [.vl X, .vl Y, y2])
 | [], x2 => ⟨x2, rfl⟩
 | x :: g, x2 => by
  obtain ⟨y2, hI⟩ := same_loop X Y g (.vl (cD4 x))
  refine ⟨y2, ?_⟩
  rw [List.map_cons]
  refine forD_cons (ev_body (δ' := [.vl X, .vl Y, .vl (cD4 x)]) rfl ?_) hI
  unfold b__law_same_0
  exact ev_pass1 (b := false) (ev_or_f (a1x (b := true) (ev_b (ev_is (d := cD4 x) (a0d rfl)))) (ev_or_f (ev_b (ev_is (d := .int (x.b : Int)) (ev_2 (x := cD4 x) (a0d rfl) ev_c rfl))) (ev_b (ev_is (d := .int (x.e : Int)) (ev_2 (x := cD4 x) (a0d rfl) ev_c rfl))))) rfl
theorem same_g {CK : D} {B : Nat} {g : List It} (h : ∀ x ∈ g, Gx CK B x) : F__law_same [.list (g.map cD4), .list (g.map cD4)] = M.ret (.bool true) := by
 obtain ⟨a1, a2⟩ := lay_g h
 obtain ⟨y2, hL⟩ := same_loop (.list (g.map cD4)) (.list (g.map cD4)) g .un
 have hne : oNe (.list (g.map cD4)) (.list (g.map cD4)) = some (.bool false) := ne_selfD (by simp only [PyData.canLay0, a1]) (by simp only [PyData.depth]; omega)
 refine a0x ?_
 unfold g__law_same
 refine a1p (b := false) (ev_or_f (a1x (b := true) (ev_b (ev_is (d := .list (g.map cD4)) (a0d rfl)))) (ev_b (ev_2 (a0d rfl) (a0d rfl) hne))) rfl ?_
 refine a0p (ev_forG (ds := g.map cD4) (ev_any (x := .list (g.map cD4)) (a0d rfl) rfl) hL) ?_
 exact a0z ev_c
end K19
open PySem PySem.Spec L2 DL CT TX NumText
namespace K19
theorem base_ix {i : Int} (h0 : 0 <= i) (h1 : i < 6) : ∃ B : Nat, Bs B /\ oIx (.list [.int 1000, .int 24, .int 1000, .int 25, .int 30, .int 60]) (.int i) = some (.int (B : Int)) := by
 have : i = 0 \/ i = 1 \/ i = 2 \/ i = 3 \/ i = 4 \/ i = 5 := by omega
 unfold Bs
 rcases this with rfl | rfl | rfl | rfl | rfl | rfl
 ·exact ⟨1000, by omega, rfl⟩
 ·exact ⟨24, by omega, rfl⟩
 ·exact ⟨1000, by omega, rfl⟩
 ·exact ⟨25, by omega, rfl⟩
 ·exact ⟨30, by omega, rfl⟩
 ·exact ⟨60, by omega, rfl⟩
theorem cut_cells (ns : List Int) : ∃ js : List Int, oCutS (some 1) (some 31) (.list (ns.map PyData.int)) = some (.list (js.map PyData.int)) /\ js.length <= 30 := by
 have e : oCutS (some 1) (some 31) (.list (ns.map PyData.int)) = some (.list (cutD (ns.map PyData.int) (some 1) (some 31))) := rfl
 rw [e]
 unfold cutD
 refine ⟨(ns.drop _).take _, by rw [<- List.map_drop, <- List.map_take], ?_⟩
 rw [List.length_take]
 have e1 : HT.sIx (ns.map PyData.int).length 0 (some 1) = min 1 (ns.map PyData.int).length := by
  have := HT.sIx_nat (ns.map PyData.int).length 0 1
  omega
 have e2 : HT.sIx (ns.map PyData.int).length (ns.map PyData.int).length (some 31) = min 31 (ns.map PyData.int).length := by
  have := HT.sIx_nat (ns.map PyData.int).length (ns.map PyData.int).length 31
  omega
 omega
theorem drawn_ev {CK : D} {B : Nat} (c : Ckk CK B) (ns : List Int) : ∃ its : List It, Ch CK B 0 its /\ its.length <= 30 /\ F__law_drawn [.list (ns.map PyData.int), .int (B : Int)] = M.ret (.list (its.map itD)) := by
 obtain ⟨js, hc, hj⟩ := cut_cells ns
 obtain ⟨NS, hNS⟩ : ∃ NS, NS = PyData.list (ns.map PyData.int) := ⟨_, rfl⟩
 rw [<- hNS] at hc ⊢
 obtain ⟨its, L, y4, y5, y6, y7, y8, y9, y10, y11, h1, h2, hL⟩ := drawn_loop c NS js [] 0 .un .un .un .un .un .un .un .un (Nat.zero_le _) (by show 0 + _ <= _; omega)
 refine ⟨its, h1, by omega, a0x ?_⟩
 unfold g__law_drawn
 refine a0p (ev_newL (ds := []) (ev_nLst a0g rfl)) ?_
 refine a0p (a0y (d := .int 0) ev_c) ?_
 exact a0p (ev_forG (ds := enumD 0 (js.map PyData.int)) (ev_enumS (a0b (ev_cutS (a0d rfl) (ev_part ev_c) (ev_part ev_c) hc) a0g)) hL) rfl
theorem law_true (ns : List Int) (hl : ns.length <= 63) : F_law [.list (ns.map PyData.int)] = M.ret (.bool true) := by
 obtain ⟨c0, hc0⟩ := cell_at_ev ns 0 (by decide)
 obtain ⟨W, ⟨w0, _⟩, hW⟩ := mixed_ev c0 48271 (by decide) (by decide)
 obtain ⟨B, hB, hix⟩ := base_ix (i := W % 6) (by omega) (by omega)
 obtain ⟨CK, hCK⟩ : ∃ CK : D, CK = if (B : Int) < 1000 then FR (.tuple [.int (B : Int), .int 0, .int (1 + c0 % 60)]) else TH := ⟨_, rfl⟩
 have ck : Ckk CK B := by
  rw [hCK]
  by_cases z : (B : Int) < 1000
  ·rw [if_pos z]
   exact ck_fr hB (by omega) (by omega)
  ·rw [if_neg z]
   have : B = 1000 := by have := hB.pos; omega
   subst this
   exact ck_th
 obtain ⟨its, hch, hil, hdr⟩ := drawn_ev ck ns
 have hpl := ch_pl hch
 obtain ⟨k1, k2, k3⟩ := ch_split hch
 obtain ⟨g, hg⟩ : ∃ g, g = gd its := ⟨_, rfl⟩
 rw [<- hg] at k1 k2 k3
 have hgx : ∀ x ∈ g, Gx CK B x := fun x hx => (k1 x hx).1
 have htk : its.take g.length = g /\ g.length <= its.length := by
  rcases k3 with z | ⟨x, more, z, _⟩
  ·rw [<- z]; exact ⟨List.take_length, Nat.le_refl _⟩
  ·rw [z, List.take_left, List.length_append]; exact ⟨rfl, by omega⟩
 have hgp : ∀ x ∈ g, Pl x.l := fun x hx => hpl x (List.mem_of_mem_take (by rw [htk.1]; exact hx))
 have hgl : g.length <= 63 := by omega
 have hrg := told_okL (read_g hgx hgp k2 hgl)
 have hsame := same_g hgx
 have hshow := show_g ck hgx hgp hgl
 have htot := tot_rows (by omega) hpl
 have htotg := tot_rows hgl hgp
 have hjoin : sJoin (S [10]) [.list ((its.map It.l).map tx)] = some (tx (jn 10 (its.map It.l))) := o_join (by omega)
 have hjoing : sJoin (S [10]) [.list ((g.map It.l).map tx)] = some (tx (jn 10 (g.map It.l))) := o_join (by omega)
 have hcut : oCutS none (some (g.length : Int)) (.list (its.map itD)) = some (.list (g.map itD)) := by
  show some (PyData.list (cutD (its.map itD) none (some ((g.length : Nat) : Int)))) = _
  rw [cut_take, <- List.map_take, htk.1]
 have hlenG : oLen [.list (g.map cD4)] = some (.int (g.length : Int)) := by rw [o_lenL, List.length_map]
 have hlenI : oLen [.list (its.map itD)] = some (.int (its.length : Int)) := by rw [o_lenL, List.length_map]
 have hJne : oNe (tx (jn 10 (its.map It.l))) (tx (jn 10 (its.map It.l))) = some (.bool false) := by
  refine ne_selfD ?_ (by show 0 <= 60; decide)
  show PyData.strOk (S (jn 10 (its.map It.l))) = true
  refine ok_S fun c hc => ?_
  rcases mem_jn hc with rfl | ⟨w, hw, hc⟩
  ·decide
  ·obtain ⟨x, hx, rfl⟩ := List.mem_map.mp hw
   have := (hpl x hx).2.2.2 c hc
   omega
 have brk := fun v0 v1 v2 v3 v4 v7 v8 => brk_loop v0 v1 v2 v3 v4 v7 v8 its [] .un (by show 0 + _ <= _; omega)
 obtain ⟨X, hX, t1, t2⟩ : ∃ X : D, F__law_told [CK, tx (jn 10 (its.map It.l))] = M.ret X /\
   (∀ v0 v1 v6 v7, (dAnd (dB (d2 oLt (dCB oLen (dCons (dVar 5) dNil)) (dCB oLen (dCons (dVar 3) dNil)))) (dB (d2 oNe (dVar 8) (dTup (dCons (dC (.str "refused")) (dCons (d2 oAdd (dCB oLen (dCons (dVar 5) dNil)) (dC (.int 1))) dNil)))))) [v0, v1, .vl CK, .vl (.list (its.map itD)), .vl (tx (jn 10 (its.map It.l))), .vl (.list (g.map cD4)), v6, v7, .vl X] = M.ret false) /\
   (∀ v0 v1 v6 v7, (dAnd (dB (d2 oEq (dCB oLen (dCons (dVar 5) dNil)) (dCB oLen (dCons (dVar 3) dNil)))) (dOr (dNot (dB (dCall (fun ds => noX (F__law_same ds)) (dCons (dVar 8) (dCons (dVar 5) dNil))))) (dB (d2 oNe (dCall (fun ds => noX (F_show_cues ds)) (dCons (dVar 2) (dCons (dVar 8) dNil))) (dVar 4))))) [v0, v1, .vl CK, .vl (.list (its.map itD)), .vl (tx (jn 10 (its.map It.l))), .vl (.list (g.map cD4)), v6, v7, .vl X] = M.ret false) := by
  rcases k3 with z | ⟨x, more, z, z2⟩
  ·refine ⟨.list (g.map cD4), by rw [z]; exact hrg, fun v0 v1 v6 v7 => ?_, fun v0 v1 v6 v7 => ?_⟩
   ·refine ev_and_f (ev_b (ev_2 (a2l (a0b (a0d rfl) a0g) hlenG) (a2l (a0b (a0d rfl) a0g) hlenI) ?_))
    rw [z, show oLt (.int (g.length : Int)) (.int (g.length : Int)) = some (.bool (decide ((g.length : Int) < (g.length : Int)))) by first | exact o_lt | exact o_ltD, decide_eq_false (by omega)]
   ·refine ev_and_t (ev_b (ev_2 (a2l (a0b (a0d rfl) a0g) hlenG) (a2l (a0b (a0d rfl) a0g) hlenI) (by rw [z, o_eq, decide_eq_true rfl]))) (ev_or_f (a1x (b := true) (ev_b (a0k (a0b (a0d rfl) (a0b (a0d rfl) a0g)) hsame))) (ev_b (ev_2 (a0k (a0b (a0d rfl) (a0b (a0d rfl) a0g)) hshow) (a0d rfl) (by rw [z] at hJne ⊢; exact hJne))))
  ·have hs : Stop CK (qs g) x.l := by
    rcases z2 with z2 | ⟨z2, z3⟩
    ·exact .inl z2
    ·rcases z3 with ⟨_, z4⟩ | ⟨g0, p, z3, z4⟩
     ·exfalso; omega
     ·exact .inr ⟨itC x, qs g0, (p.l, itC p), z2, by rw [z3]; unfold qs; rw [List.map_append]; rfl, by show (x.b : Int) < (p.b : Int); omega⟩
   have hrd := read_x (x := x) (more := more) hgx (by rw [<- z]; exact hpl) k2 (by rw [<- z]; omega) hs
   rw [<- z] at hrd
   have hlt : g.length < its.length := by rw [z, List.length_append, List.length_cons]; omega
   refine ⟨ref ((g.length : Int) + 1), told_noL hrd, fun v0 v1 v6 v7 => ?_, fun v0 v1 v6 v7 => ?_⟩
   ·refine ev_and_t (ev_b (ev_2 (a2l (a0b (a0d rfl) a0g) hlenG) (a2l (a0b (a0d rfl) a0g) hlenI) ?_)) (ev_b (ev_2 (a0d rfl) (ev_tup (a0b ev_c (a0b (ev_2 (a2l (a0b (a0d rfl) a0g) hlenG) ev_c o_add) a0g)) rfl) (ref_ne _)))
    rw [show oLt (.int (g.length : Int)) (.int (its.length : Int)) = some (.bool (decide ((g.length : Int) < (its.length : Int)))) by first | exact o_lt | exact o_ltD, decide_eq_true (by omega)]
   ·exact ev_and_f (ev_b (ev_2 (a2l (a0b (a0d rfl) a0g) hlenG) (a2l (a0b (a0d rfl) a0g) hlenI) (by rw [o_eq, decide_eq_false (by omega)])))
 have hcompI := rows_comp its .un
 have hcompG := rows_comp g .un
 obtain ⟨NS, hNS⟩ : ∃ NS, NS = PyData.list (ns.map PyData.int) := ⟨_, rfl⟩
 obtain ⟨J, hJ⟩ : ∃ J, J = jn 10 (its.map It.l) := ⟨_, rfl⟩
 rw [<- hNS] at hc0 hdr ⊢
 rw [<- hJ] at hX t1 t2 hjoin
 have turn : ∀ (v6 v7 v8 : Sl), b_law_1 [.vl NS, .vl (.int (B : Int)), .vl CK, .vl (.list (its.map itD)), .vl (tx J), .vl (.list (g.map cD4)), v6, v7, v8] = M.ret (.nx [.vl NS, .vl (.int (B : Int)), .vl CK, .vl (.list (its.map itD)), .vl (tx J), .vl (.list (g.map cD4)), v6, v7, .vl X]) := by
  intro v6 v7 v8
  unfold b_law_1
  refine a0p (a0y (d := X) (a0k (a0b (a0d rfl) (a0b (a0d rfl) a0g)) hX)) ?_
  refine a1p (b := false) (t1 _ _ _ _) rfl ?_
  refine a1p (b := false) (t2 _ _ _ _) rfl ?_
  exact ev_pass1 (b := false) (a1x (b := true) (ev_b (a0k (a0b (a0k (a0b (a0d rfl) (a0b (a2a (z := S [10]) ev_c (a0b (ev_compG (ds := g.map itD) (ev_any (x := .list (g.map itD)) (ev_cutS (a0d rfl) ev_nopart (ev_part (a2l (a0b (a0d rfl) a0g) hlenG)) hcut) rfl) (a1a (by rw [List.length_map]; omega)) hcompG) a0g) hjoing) a0g)) hrg) (a0b (a0d rfl) a0g)) hsame))) rfl
 refine a0x ?_
 unfold g_law
 refine a0p (a0y (d := .int (B : Int)) (ev_2 (ev_lst (a0b ev_c (a0b ev_c (a0b ev_c (a0b ev_c (a0b ev_c (a0b ev_c a0g)))))) rfl) (ev_2 (a0k (a0b (a0k (a0b (a0d rfl) (a0b ev_c a0g)) hc0) (a0b ev_c a0g)) hW) ev_c (o_mod (by decide))) hix)) ?_
 refine a0p (a0y (d := TH) ev_c) ?_
 refine a0p (δ' := [.vl NS, .vl (.int (B : Int)), .vl CK, .un, .un, .un, .un, .un, .un]) ?_ ?_
 ·rw [hCK]
  by_cases z : (B : Int) < 1000
  ·rw [if_pos z]
   refine ev_ifS (b := true) (ev_b (ev_2 (a0d rfl) ev_c (by rw [show oLt (.int (B : Int)) (.int 1000) = some (.bool (decide ((B : Int) < 1000))) by first | exact o_lt | exact o_ltD, decide_eq_true z]))) (ite_T rfl (a0y ?_))
   unfold dMk
   rw [a0b (ev_tup (a0b (a0d rfl) (a0b ev_c (a0b (ev_2 ev_c (ev_2 (a0k (a0b (a0d rfl) (a0b ev_c a0g)) hc0) ev_c (o_mod (by decide))) o_add) a0g))) rfl) a0g]
   rfl
  ·rw [if_neg z]
   exact ev_pass1 (b := false) (ev_b (ev_2 (a0d rfl) ev_c (by rw [show oLt (.int (B : Int)) (.int 1000) = some (.bool (decide ((B : Int) < 1000))) by first | exact o_lt | exact o_ltD, decide_eq_false z]))) rfl
 refine a0p (a0y (d := .list (its.map itD)) (a0k (a0b (a0d rfl) (a0b (a0d rfl) a0g)) hdr)) ?_
 refine a0p (a0y (d := tx J) (a2a (z := S [10]) ev_c (a0b (ev_compG (ds := its.map itD) (ev_any (x := .list (its.map itD)) (a0d rfl) rfl) (a1a (by rw [List.length_map]; omega)) hcompI) a0g) hjoin)) ?_
 refine a0p (ev_newL (ds := []) (ev_nLst a0g rfl)) ?_
 obtain ⟨y6, hbrk⟩ := brk (.vl NS) (.vl (.int (B : Int))) (.vl CK) (.vl (.list (its.map itD))) (.vl (tx J)) .un .un
 rw [<- hg, List.nil_append] at hbrk
 refine a0p (ev_forG (ds := its.map itD) (ev_any (x := .list (its.map itD)) (a0d rfl) rfl) hbrk) ?_
 refine ev_frz ?_
 show gSeq (gForI (dRng rng1 (dCons (dC (.int 2)) dNil)) (tgN 7) b_law_1) (gRet (dC (.bool true))) [.vl NS, .vl (.int (B : Int)), .vl CK, .vl (.list (its.map itD)), .vl (tx J), .vl (.list (g.map cD4)), y6, .un, .un] = _
 refine a0p (ev_forG (ds := [.int 0, .int 1]) (ev_rngS (a0b ev_c a0g) rfl) (forD_cons (ev_body rfl (turn y6 (.vl (.int 0)) .un)) (forD_cons (ev_body rfl (turn y6 (.vl (.int 1)) (.vl X))) rfl))) ?_
 exact a0z ev_c
end K19
namespace K19
open PySem PySem.Spec PyProof.Rows L2 DL CT
def top (i : Nat) : Stmt := PySem.Challenge.pw_cuetimer_k19_whole_rows_of_cues.main.body.getD i (.Pass ⟨0, 0, 0, 0⟩)
def mth (s : Stmt) (i : Nat) : Stmt := match s with
 | .ClassDef _ _ _ b _ _ _ _ _ _ _ => b.getD i (.Pass ⟨0, 0, 0, 0⟩)
 | s => s
section
variable {P : Program} {w : World} {K : PySem.W.Frag} {mg : Str -> Option Value} {base : Heap}
theorem sc_show_parts : FnScope ["parts", "sign", "figures", "hours", "minutes", "seconds", "last"] ["parts", "sign", "figures"] (defScope (top 36)) := ⟨rfl, rfl, rfl, by decide +kernel, rfl, by decide +kernel, by decide +kernel⟩
theorem d_show_parts {f : Addr} {fd : FuncData} (F0 : Fun K "show_parts" "show_parts" (top 36) f fd) (hm : mg "show_parts" = some (.ref f)) (z_str : mg "str" = none) : Def P w K mg base 1 "show_parts" 3 F_show_parts := by
 have S := sc_show_parts
 refine a1j (N := ["parts", "sign", "figures", "hours", "minutes", "seconds", "last"]) (ps := ["parts", "sign", "figures"]) (k := 0) (g := g_show_parts) F0 S hm (F0.binds fun _ _ _ _ _ _ us hl => match us, hl with | [_, _, _], _ => rfl) fun cdv A outer s H E hr => ?_
 unfold g_show_parts
 exact (a0h (a0v (i := 3) S.nd rfl (by first | exact Or.inl rfl | exact Or.inr rfl) (pd_meth PySem.F.slot_str_zfill PySem.F.type_str_zfill dmt_zfill (pd_callTy dcall_str rfl z_str PyProof.Rows.boot_str (a0a (a0u (a0c (pv 0)) a0f (fun _ _ => rfl)) a0e)) (a0a a0f a0e)))
  (a0h (a0v (i := 4) S.nd rfl (by first | exact Or.inl rfl | exact Or.inr rfl) (pd_meth PySem.F.slot_str_zfill PySem.F.type_str_zfill dmt_zfill (pd_callTy dcall_str rfl z_str PyProof.Rows.boot_str (a0a (a0u (a0c (pv 0)) a0f (fun _ _ => rfl)) a0e)) (a0a a0f a0e)))
  (a0h (a0v (i := 5) S.nd rfl (by first | exact Or.inl rfl | exact Or.inr rfl) (pd_meth PySem.F.slot_str_zfill PySem.F.type_str_zfill dmt_zfill (pd_callTy dcall_str rfl z_str PyProof.Rows.boot_str (a0a (a0u (a0c (pv 0)) a0f (fun _ _ => rfl)) a0e)) (a0a a0f a0e)))
  (a0h (a0v (i := 6) S.nd rfl (by first | exact Or.inl rfl | exact Or.inr rfl) (pd_meth PySem.F.slot_str_zfill PySem.F.type_str_zfill dmt_zfill (pd_callTy dcall_str rfl z_str PyProof.Rows.boot_str (a0a (a0u (a0c (pv 0)) a0f (fun _ _ => rfl)) a0e)) (a0a (a0c (pv 2)) a0e)))
  (a0i (a0s (pd_joined (PDJ.cons (pd_fv (a0c (pv 3))) (PDJ.cons a0r (PDJ.cons (pd_fv (a0c (pv 4))) (PDJ.cons a0r (PDJ.cons (pd_fv (a0c (pv 5))) (PDJ.cons (pd_fv (a0c (pv 1))) (PDJ.cons (pd_fv (a0c (pv 6))) PDJ.nil))))))))))))))
theorem sc_show_moment : FnScope ["moment", "second", "minute"] ["moment"] (defScope (top 30)) := ⟨rfl, rfl, rfl, by decide +kernel, rfl, by decide +kernel, by decide +kernel⟩
theorem d_show_moment {f : Addr} {fd : FuncData} (F0 : Fun K "show_moment" "show_moment" (top 30) f fd) (hm : mg "show_moment" = some (.ref f)) (d_show_parts : Def P w K mg base 1 "show_parts" 3 F_show_parts) : Def P w K mg base 2 "show_moment" 1 F_show_moment := by
 have S := sc_show_moment
 refine a1j (N := ["moment", "second", "minute"]) (ps := ["moment"]) (k := 1) (g := g_show_moment) F0 S hm (F0.binds fun _ _ _ _ _ _ us hl => match us, hl with | [_], _ => rfl) fun cdv A outer s H E hr => ?_
 unfold g_show_moment
 exact (a0h (a0v (i := 1) S.nd rfl (by first | exact Or.inl rfl | exact Or.inr rfl) (a0l a2d (a0c (pv 0)) a0f))
  (a0h (a0v (i := 2) S.nd rfl (by first | exact Or.inl rfl | exact Or.inr rfl) (a0l a2d (a0c (pv 1)) a0f))
  (a0i (a0s (a0m d_show_parts (hr.mono (by decide)) rfl rfl (a0a (pd_tup (a0a (a0l a2d (a0c (pv 2)) a0f) (a0a (a0l a1f (a0c (pv 2)) a0f) (a0a (a0l a1f (a0c (pv 1)) a0f) (a0a (a0l a1f (a0c (pv 0)) a0f) a0e))))) (a0a a0r (a0a a0f a0e))))))))
theorem sc_Thousandths_show : FnScope ["self", "moment"] ["self", "moment"] (defScope (mth (top 43) 0)) := ⟨rfl, rfl, rfl, by decide +kernel, rfl, by decide +kernel, by decide +kernel⟩
theorem d_Thousandths_show {f : Addr} {fd : FuncData} (F0 : Fun K "show" "Thousandths.show" (mth (top 43) 0) f fd) {C_Thousandths : Addr} (m_Thousandths : mg "Thousandths" = some (.ref C_Thousandths)) (nn_Thousandths : PySem.W.nsIn K mainGlobals "Thousandths" = some (some (.ref C_Thousandths))) (pg_Thousandths : PySem.W.plainGet K C_Thousandths Str.empty = true) (hd_Thousandths : PySem.W.hasDictIn K C_Thousandths = true) (po_Thousandths : PySem.W.plainOver K C_Thousandths = true) (sa_Thousandths : PySem.W.findIn K (.ref C_Thousandths) "__setattr__" = some (some (.builtin "object.__setattr__"))) (d_show_moment : Def P w K mg base 2 "show_moment" 1 F_show_moment) (hat : PySem.W.findIn K (.ref C_Thousandths) "show" = some (some (.ref f))) (hfn : PySem.W.isFn K (.ref f) = true) : DefM P w K mg base 3 "Thousandths" "show" 2 a1l := by
 have S := sc_Thousandths_show
 refine ⟨C_Thousandths, f, fd, ["self", "moment"], nn_Thousandths, ⟨pg_Thousandths, hd_Thousandths, po_Thousandths, sa_Thousandths⟩, ⟨hat, hfn, F0.kp⟩, fn_ofD (N := ["self", "moment"]) (ps := ["self", "moment"]) (k := 2) (g := g_Thousandths_show) F0 S (fun cdv A outer s H E hr => ?_), (F0.binds fun _ _ _ _ _ _ us hl => match us, hl with | [_, _], _ => rfl)⟩
 unfold g_Thousandths_show
 exact (a0i (a0s (a0m d_show_moment (hr.mono (by decide)) rfl rfl (a0a (a0c (pv 1)) a0e))))
theorem sc_are_figures : FnScope ["text"] ["text"] (defScope (top 13)) := ⟨rfl, rfl, rfl, by decide +kernel, rfl, by decide +kernel, by decide +kernel⟩
theorem d_are_figures {f : Addr} {fd : FuncData} (F0 : Fun K "are_figures" "are_figures" (top 13) f fd) (hm : mg "are_figures" = some (.ref f)) {t_FIGURES : Tok} (m_FIGURES : mg "FIGURES" = some (.str "0123456789" t_FIGURES)) (z_all : mg "all" = none) : Def P w K mg base 1 "are_figures" 1 a2n := by
 have S := sc_are_figures
 refine a1j (N := ["text"]) (ps := ["text"]) (k := 0) (g := g_are_figures) F0 S hm (F0.binds fun _ _ _ _ _ _ us hl => match us, hl with | [_], _ => rfl) fun cdv A outer s H E hr => ?_
 unfold g_are_figures
 exact (a0i (a0s (pd_and (pd_cmp (dop_ne hr.units) (a0c (pv 0)) a0r (nomark _)) (pd_one (a1d (dcall_all rfl) rfl z_all PyProof.Rows.boot_all (a0a (pd_compG (fr := []) (tn := ["sign"]) rfl rfl (by decide +kernel) (by rfl) (fun _ _ h => h) (hhas_of (by rfl)) fr_nil (by decide +kernel) (pdi_any (a0c (pv 0))) (fun C s3 H3 fp => (a1v (pg_name (i := 0) (show (["sign"] : List Str).Nodup from by decide +kernel) rfl (by first | exact Or.inl rfl | exact Or.inr rfl)))) (fun C s3 H3 fp => pdts_nil) (fun C s3 H3 fp => (pd_cmp dop_inS (a0c (pv 0)) (pd_globS rfl m_FIGURES) rfl))) a0e))))))
theorem sc_has_figures : FnScope ["text", "figures"] ["text", "figures"] (defScope (top 40)) := ⟨rfl, rfl, rfl, by decide +kernel, rfl, by decide +kernel, by decide +kernel⟩
theorem a2m {f : Addr} {fd : FuncData} (F0 : Fun K "has_figures" "has_figures" (top 40) f fd) (hm : mg "has_figures" = some (.ref f)) (d_are_figures : Def P w K mg base 1 "are_figures" 1 a2n) (z_len : mg "len" = none) : Def P w K mg base 2 "has_figures" 2 a1q := by
 have S := sc_has_figures
 refine a1j (N := ["text", "figures"]) (ps := ["text", "figures"]) (k := 1) (g := g_has_figures) F0 S hm (F0.binds fun _ _ _ _ _ _ us hl => match us, hl with | [_, _], _ => rfl) fun cdv A outer s H E hr => ?_
 unfold g_has_figures
 exact (a0i (a0s (pd_and (pd_cmp (dop_eq hr.units) (a1d a1o rfl z_len PySem.boot_len (a0a (a0c (pv 0)) a0e)) (a0c (pv 1)) (nomark _)) (pd_one (a0m d_are_figures (hr.mono (by decide)) rfl rfl (a0a (a0c (pv 0)) a0e))))))
theorem sc_are_hours : FnScope ["text"] ["text"] (defScope (top 38)) := ⟨rfl, rfl, rfl, by decide +kernel, rfl, by decide +kernel, by decide +kernel⟩
theorem d_are_hours {f : Addr} {fd : FuncData} (F0 : Fun K "are_hours" "are_hours" (top 38) f fd) (hm : mg "are_hours" = some (.ref f)) (a2m : Def P w K mg base 2 "has_figures" 2 a1q) (d_are_figures : Def P w K mg base 1 "are_figures" 1 a2n) (z_len : mg "len" = none) : Def P w K mg base 3 "are_hours" 1 F_are_hours := by
 have S := sc_are_hours
 refine a1j (N := ["text"]) (ps := ["text"]) (k := 2) (g := g_are_hours) F0 S hm (F0.binds fun _ _ _ _ _ _ us hl => match us, hl with | [_], _ => rfl) fun cdv A outer s H E hr => ?_
 unfold g_are_hours
 exact (a0h (a1k (a1r (a0m a2m (hr.mono (by decide)) rfl rfl (a0a (a0c (pv 0)) (a0a a0f a0e)))) (a0i (a0s pd_bl)) a1c)
  (a0i (a0s (pd_and (pd_chain dop_leD dop_leD a0f (a1d a1o rfl z_len PySem.boot_len (a0a (a0c (pv 0)) a0e)) a0f) (pd_and (a0m d_are_figures (hr.mono (by decide)) rfl rfl (a0a (a0c (pv 0)) a0e)) (pd_one (pd_cmp (dop_ne hr.units) (a0u (a0c (pv 0)) a0f (fun _ _ => rfl)) a0r (nomark _))))))))
theorem sc_are_sixtieths : FnScope ["text"] ["text"] (defScope (top 39)) := ⟨rfl, rfl, rfl, by decide +kernel, rfl, by decide +kernel, by decide +kernel⟩
theorem d_are_sixtieths {f : Addr} {fd : FuncData} (F0 : Fun K "are_sixtieths" "are_sixtieths" (top 39) f fd) (hm : mg "are_sixtieths" = some (.ref f)) (a2m : Def P w K mg base 2 "has_figures" 2 a1q) (z_int : mg "int" = none) : Def P w K mg base 3 "are_sixtieths" 1 a2g := by
 have S := sc_are_sixtieths
 refine a1j (N := ["text"]) (ps := ["text"]) (k := 2) (g := g_are_sixtieths) F0 S hm (F0.binds fun _ _ _ _ _ _ us hl => match us, hl with | [_], _ => rfl) fun cdv A outer s H E hr => ?_
 unfold g_are_sixtieths
 exact (a0i (a0s (pd_and (a0m a2m (hr.mono (by decide)) rfl rfl (a0a (a0c (pv 0)) (a0a a0f a0e))) (pd_one (pd_cmp dop_lt (pd_callTy dcall_intS rfl z_int PyProof.Rows.boot_int (a0a (a0c (pv 0)) a0e)) a0f (nomark _))))))
theorem sc_read_parts : FnScope ["text", "sign", "figures", "hours", "minutes", "seconds"] ["text", "sign", "figures"] (defScope (top 37)) := ⟨rfl, rfl, rfl, by decide +kernel, rfl, by decide +kernel, by decide +kernel⟩
theorem d_read_parts {f : Addr} {fd : FuncData} (F0 : Fun K "read_parts" "read_parts" (top 37) f fd) (hm : mg "read_parts" = some (.ref f)) {C_NoTime : Addr} (m_NoTime : mg "NoTime" = some (.ref C_NoTime)) (x_NoTime : PySem.W.excIn K C_NoTime [.type "ValueError", .type "Exception", .type "BaseException", .type "object"] "ValueError.__new__" = true) (d_are_hours : Def P w K mg base 3 "are_hours" 1 F_are_hours) (d_are_sixtieths : Def P w K mg base 3 "are_sixtieths" 1 a2g) (a2m : Def P w K mg base 2 "has_figures" 2 a1q) (z_isinstance : mg "isinstance" = none) (z_str : mg "str" = none) (z_int : mg "int" = none) : DefX P w K mg base 4 "read_parts" 3 a2i := by
 have S := sc_read_parts
 refine defX_of (N := ["text", "sign", "figures", "hours", "minutes", "seconds"]) (ps := ["text", "sign", "figures"]) (k := 3) (g := g_read_parts) F0 S hm (F0.binds fun _ _ _ _ _ _ us hl => match us, hl with | [_, _, _], _ => rfl) fun cdv A outer s H E hr => ?_
 unfold g_read_parts
 exact (a0h (a1k (pdt_not (a1r (a2o rfl (kit_str _) rfl z_isinstance rfl z_str PyProof.Rows.boot_str (a0c (pv 0))))) (a0i (pd_raise raises_def (fun _ _ h => h) x_NoTime PySem.F.excBase_ValueError rfl rfl m_NoTime (a0a a0r a0e))) a1c)
  (a0h (a0v (i := 3) S.nd rfl (by first | exact Or.inl rfl | exact Or.inr rfl) (pd_meth PySem.F.slot_str_partition PySem.F.type_str_partition dmt_partition (a0c (pv 0)) (a0a a0r a0e)))
  (a0h (a0v (i := 4) S.nd rfl (by first | exact Or.inl rfl | exact Or.inr rfl) (pd_meth PySem.F.slot_str_partition PySem.F.type_str_partition dmt_partition (a0u (a0c (pv 3)) a0f (fun _ _ => rfl)) (a0a a0r a0e)))
  (a0h (a0v (i := 5) S.nd rfl (by first | exact Or.inl rfl | exact Or.inr rfl) (pd_meth PySem.F.slot_str_partition PySem.F.type_str_partition dmt_partition (a0u (a0c (pv 4)) a0f (fun _ _ => rfl)) (a0a (a0c (pv 1)) a0e)))
  (a0h (a1k (pdt_not (PDW.t (pdw_and (a1r (a0m d_are_hours (hr.mono (by decide)) rfl rfl (a0a (a0u (a0c (pv 3)) a0f (fun _ _ => rfl)) a0e))) (pdw_and (a1r (a0m d_are_sixtieths (hr.mono (by decide)) rfl rfl (a0a (a0u (a0c (pv 4)) a0f (fun _ _ => rfl)) a0e))) (pdw_and1 (a1r (a0m d_are_sixtieths (hr.mono (by decide)) rfl rfl (a0a (a0u (a0c (pv 5)) a0f (fun _ _ => rfl)) a0e)))))))) (a0i (pd_raise raises_def (fun _ _ h => h) x_NoTime PySem.F.excBase_ValueError rfl rfl m_NoTime (a0a a0r a0e))) a1c)
  (a0h (a1k (pdt_not (a1r (a0m a2m (hr.mono (by decide)) rfl rfl (a0a (a0u (a0c (pv 5)) a0f (fun _ _ => rfl)) (a0a (a0c (pv 2)) a0e))))) (a0i (pd_raise raises_def (fun _ _ h => h) x_NoTime PySem.F.excBase_ValueError rfl rfl m_NoTime (a0a a0r a0e))) a1c)
  (a0i (a0s (pd_tup (a0a (pd_callTy dcall_intS rfl z_int PyProof.Rows.boot_int (a0a (a0u (a0c (pv 3)) a0f (fun _ _ => rfl)) a0e)) (a0a (pd_callTy dcall_intS rfl z_int PyProof.Rows.boot_int (a0a (a0u (a0c (pv 4)) a0f (fun _ _ => rfl)) a0e)) (a0a (pd_callTy dcall_intS rfl z_int PyProof.Rows.boot_int (a0a (a0u (a0c (pv 5)) a0f (fun _ _ => rfl)) a0e)) (a0a (pd_callTy dcall_intS rfl z_int PyProof.Rows.boot_int (a0a (a0u (a0c (pv 5)) a0f (fun _ _ => rfl)) a0e)) a0e)))))))))))))
theorem sc_read_moment : FnScope ["text", "parts", "second"] ["text"] (defScope (top 31)) := ⟨rfl, rfl, rfl, by decide +kernel, rfl, by decide +kernel, by decide +kernel⟩
theorem d_read_moment {f : Addr} {fd : FuncData} (F0 : Fun K "read_moment" "read_moment" (top 31) f fd) (hm : mg "read_moment" = some (.ref f)) (d_read_parts : DefX P w K mg base 4 "read_parts" 3 a2i) : DefX P w K mg base 5 "read_moment" 1 F_read_moment := by
 have S := sc_read_moment
 refine defX_of (N := ["text", "parts", "second"]) (ps := ["text"]) (k := 4) (g := g_read_moment) F0 S hm (F0.binds fun _ _ _ _ _ _ us hl => match us, hl with | [_], _ => rfl) fun cdv A outer s H E hr => ?_
 unfold g_read_moment
 exact (a0h (a0v (i := 1) S.nd rfl (by first | exact Or.inl rfl | exact Or.inr rfl) (pd_callX d_read_parts (hr.mono (by decide)) passes_def (fun _ _ h => h) rfl rfl (a0a (a0c (pv 0)) (a0a a0r (a0a a0f a0e)))))
  (a0h (a0v (i := 2) S.nd rfl (by first | exact Or.inl rfl | exact Or.inr rfl) (a0l a0n (a0l dop_mul a0f (a0l a0n (a0l dop_mul a0f (a0u (a0c (pv 1)) a0f (fun _ _ => rfl))) (a0u (a0c (pv 1)) a0f (fun _ _ => rfl)))) (a0u (a0c (pv 1)) a0f (fun _ _ => rfl))))
  (a0i (a0s (a0l a0n (a0l dop_mul a0f (a0c (pv 2))) (a0u (a0c (pv 1)) a0f (fun _ _ => rfl)))))))
theorem sc_Thousandths_read : FnScope ["self", "text"] ["self", "text"] (defScope (mth (top 43) 1)) := ⟨rfl, rfl, rfl, by decide +kernel, rfl, by decide +kernel, by decide +kernel⟩
theorem d_Thousandths_read {f : Addr} {fd : FuncData} (F0 : Fun K "read" "Thousandths.read" (mth (top 43) 1) f fd) {C_Thousandths : Addr} (m_Thousandths : mg "Thousandths" = some (.ref C_Thousandths)) (nn_Thousandths : PySem.W.nsIn K mainGlobals "Thousandths" = some (some (.ref C_Thousandths))) (pg_Thousandths : PySem.W.plainGet K C_Thousandths Str.empty = true) (hd_Thousandths : PySem.W.hasDictIn K C_Thousandths = true) (po_Thousandths : PySem.W.plainOver K C_Thousandths = true) (sa_Thousandths : PySem.W.findIn K (.ref C_Thousandths) "__setattr__" = some (some (.builtin "object.__setattr__"))) (d_read_moment : DefX P w K mg base 5 "read_moment" 1 F_read_moment) (hat : PySem.W.findIn K (.ref C_Thousandths) "read" = some (some (.ref f))) (hfn : PySem.W.isFn K (.ref f) = true) : DefMX P w K mg base 6 "Thousandths" "read" 2 a1m := by
 have S := sc_Thousandths_read
 refine ⟨C_Thousandths, f, fd, ["self", "text"], nn_Thousandths, ⟨pg_Thousandths, hd_Thousandths, po_Thousandths, sa_Thousandths⟩, ⟨hat, hfn, F0.kp⟩, fn_ofX (N := ["self", "text"]) (ps := ["self", "text"]) (k := 5) (g := a1w) F0 S (fun cdv A outer s H E hr => ?_), (F0.binds fun _ _ _ _ _ _ us hl => match us, hl with | [_, _], _ => rfl)⟩
 unfold a1w
 exact (a0i (a0s (pd_callX d_read_moment (hr.mono (by decide)) passes_def (fun _ _ h => h) rfl rfl (a0a (a0c (pv 1)) a0e))))
theorem sc_Frames_init : FnScope ["self", "numbering"] ["self", "numbering"] (defScope (mth (top 44) 0)) := ⟨rfl, rfl, rfl, by decide +kernel, rfl, by decide +kernel, by decide +kernel⟩
theorem d_Frames_init {f : Addr} {fd : FuncData} (F0 : Fun K "__init__" "Frames.__init__" (mth (top 44) 0) f fd) {C_Frames : Addr} (m_Frames : mg "Frames" = some (.ref C_Frames)) (nn_Frames : PySem.W.nsIn K mainGlobals "Frames" = some (some (.ref C_Frames))) (pg_Frames : PySem.W.plainGet K C_Frames Str.empty = true) (hd_Frames : PySem.W.hasDictIn K C_Frames = true) (po_Frames : PySem.W.plainOver K C_Frames = true) (sa_Frames : PySem.W.findIn K (.ref C_Frames) "__setattr__" = some (some (.builtin "object.__setattr__"))) (na_Frames_numbering : PySem.W.findIn K (.ref C_Frames) "numbering" = some none) (hat : PySem.W.findIn K (.ref C_Frames) "__init__" = some (some (.ref f))) (hfn : PySem.W.isFn K (.ref f) = true) (mk : PySem.W.makesIn K C_Frames = true) (kc : PySem.W.keepIn K (.ref C_Frames) = true) : MkI P w K mg base 1 "Frames" "numbering" := by
 have S := sc_Frames_init
 exact ⟨C_Frames, f, fd, ["self", "numbering"], nn_Frames, m_Frames, ⟨mk, hat, hfn, kc⟩, init_of (k := 0) F0 S rfl ⟨pg_Frames, hd_Frames, po_Frames, sa_Frames⟩ na_Frames_numbering (fun cdv A outer s H E => pss_one (ps_fld (pv 0) (pv 1) rfl)), (F0.binds fun _ _ _ _ _ _ us hl => match us, hl with | [_, _], _ => rfl)⟩
theorem sc_gaps_before_frame : FnScope ["numbering", "frame", "whole", "short", "gaps_in_round", "length", "gaps", "rest"] ["numbering", "frame"] (defScope (top 28)) := ⟨rfl, rfl, rfl, by decide +kernel, rfl, by decide +kernel, by decide +kernel⟩
theorem d_gaps_before_frame {f : Addr} {fd : FuncData} (F0 : Fun K "gaps_before_frame" "gaps_before_frame" (top 28) f fd) (hm : mg "gaps_before_frame" = some (.ref f)) : Def P w K mg base 1 "gaps_before_frame" 2 a1t := by
 have S := sc_gaps_before_frame
 refine a1j (N := ["numbering", "frame", "whole", "short", "gaps_in_round", "length", "gaps", "rest"]) (ps := ["numbering", "frame"]) (k := 0) (g := a2k) F0 S hm (F0.binds fun _ _ _ _ _ _ us hl => match us, hl with | [_, _], _ => rfl) fun cdv A outer s H E hr => ?_
 unfold a2k
 exact (a0h (a0v (i := 2) S.nd rfl (by first | exact Or.inl rfl | exact Or.inr rfl) (a0l dop_mul a0f (a0u (a0c (pv 0)) a0f (fun _ _ => rfl))))
  (a0h (a0v (i := 3) S.nd rfl (by first | exact Or.inl rfl | exact Or.inr rfl) (a0l dop_sub (a0c (pv 2)) (a0u (a0c (pv 0)) a0f (fun _ _ => rfl))))
  (a0h (a0v (i := 4) S.nd rfl (by first | exact Or.inl rfl | exact Or.inr rfl) (a0l dop_sub (a0u (a0c (pv 0)) a0f (fun _ _ => rfl)) a0f))
  (a0h (a0v (i := 5) S.nd rfl (by first | exact Or.inl rfl | exact Or.inr rfl) (a0l a0n (a0c (pv 2)) (a0l dop_mul (a0c (pv 4)) (a0c (pv 3)))))
  (a0h (a0v (i := 6) S.nd rfl (by first | exact Or.inl rfl | exact Or.inr rfl) (a0l dop_mul (a0l a2d (a0c (pv 1)) (a0c (pv 5))) (a0c (pv 4))))
  (a0h (a0v (i := 7) S.nd rfl (by first | exact Or.inl rfl | exact Or.inr rfl) (a0l a1f (a0c (pv 1)) (a0c (pv 5))))
  (a0h (a1k (a1n dop_lt (a0c (pv 7)) (a0c (pv 2)) (nomark _)) (a0i (a0s (a0c (pv 6)))) a1c)
  (a0i (a0s (a0l a0n (a0l a0n (a0c (pv 6)) a0f) (a0l a2d (a0l dop_sub (a0c (pv 7)) (a0c (pv 2))) (a0c (pv 3)))))))))))))
theorem sc_label_of : FnScope ["numbering", "frame", "base", "place", "second", "minute"] ["numbering", "frame"] (defScope (top 23)) := ⟨rfl, rfl, rfl, by decide +kernel, rfl, by decide +kernel, by decide +kernel⟩
theorem d_label_of {f : Addr} {fd : FuncData} (F0 : Fun K "label_of" "label_of" (top 23) f fd) (hm : mg "label_of" = some (.ref f)) (d_gaps_before_frame : Def P w K mg base 1 "gaps_before_frame" 2 a1t) : Def P w K mg base 2 "label_of" 2 F_label_of := by
 have S := sc_label_of
 refine a1j (N := ["numbering", "frame", "base", "place", "second", "minute"]) (ps := ["numbering", "frame"]) (k := 1) (g := g_label_of) F0 S hm (F0.binds fun _ _ _ _ _ _ us hl => match us, hl with | [_, _], _ => rfl) fun cdv A outer s H E hr => ?_
 unfold g_label_of
 exact (a0h (a0v (i := 2) S.nd rfl (by first | exact Or.inl rfl | exact Or.inr rfl) (a0u (a0c (pv 0)) a0f (fun _ _ => rfl)))
  (a0h (a0v (i := 3) S.nd rfl (by first | exact Or.inl rfl | exact Or.inr rfl) (a0l a0n (a0c (pv 1)) (a0l dop_mul (a0u (a0c (pv 0)) a0f (fun _ _ => rfl)) (a0m d_gaps_before_frame (hr.mono (by decide)) rfl rfl (a0a (a0c (pv 0)) (a0a (a0c (pv 1)) a0e))))))
  (a0h (a0v (i := 4) S.nd rfl (by first | exact Or.inl rfl | exact Or.inr rfl) (a0l a2d (a0c (pv 3)) (a0c (pv 2))))
  (a0h (a0v (i := 5) S.nd rfl (by first | exact Or.inl rfl | exact Or.inr rfl) (a0l a2d (a0c (pv 4)) a0f))
  (a0i (a0s (pd_tup (a0a (a0l a2d (a0c (pv 5)) a0f) (a0a (a0l a1f (a0c (pv 5)) a0f) (a0a (a0l a1f (a0c (pv 4)) a0f) (a0a (a0l a1f (a0c (pv 3)) (a0c (pv 2))) a0e)))))))))))
theorem sc_frame_sign : FnScope ["numbering"] ["numbering"] (defScope (top 34)) := ⟨rfl, rfl, rfl, by decide +kernel, rfl, by decide +kernel, by decide +kernel⟩
theorem d_frame_sign {f : Addr} {fd : FuncData} (F0 : Fun K "frame_sign" "frame_sign" (top 34) f fd) (hm : mg "frame_sign" = some (.ref f)) : Def P w K mg base 1 "frame_sign" 1 a1y := by
 have S := sc_frame_sign
 refine a1j (N := ["numbering"]) (ps := ["numbering"]) (k := 0) (g := g_frame_sign) F0 S hm (F0.binds fun _ _ _ _ _ _ us hl => match us, hl with | [_], _ => rfl) fun cdv A outer s H E hr => ?_
 unfold g_frame_sign
 exact (a0i (a0s (pd_if (a1n dop_gt (a0u (a0c (pv 0)) a0f (fun _ _ => rfl)) a0f (nomark _)) a0r a0r)))
theorem sc_frame_figures : FnScope ["numbering"] ["numbering"] (defScope (top 35)) := ⟨rfl, rfl, rfl, by decide +kernel, rfl, by decide +kernel, by decide +kernel⟩
theorem d_frame_figures {f : Addr} {fd : FuncData} (F0 : Fun K "frame_figures" "frame_figures" (top 35) f fd) (hm : mg "frame_figures" = some (.ref f)) (z_str : mg "str" = none) (z_len : mg "len" = none) (z_max : mg "max" = none) : Def P w K mg base 1 "frame_figures" 1 a1g := by
 have S := sc_frame_figures
 refine a1j (N := ["numbering"]) (ps := ["numbering"]) (k := 0) (g := g_frame_figures) F0 S hm (F0.binds fun _ _ _ _ _ _ us hl => match us, hl with | [_], _ => rfl) fun cdv A outer s H E hr => ?_
 unfold g_frame_figures
 exact (a0i (a0s (a1d (dcall_max rfl) rfl z_max PyProof.Rows.boot_max (a0a a0f (a0a (a1d a1o rfl z_len PySem.boot_len (a0a (pd_callTy dcall_str rfl z_str PyProof.Rows.boot_str (a0a (a0l dop_sub (a0u (a0c (pv 0)) a0f (fun _ _ => rfl)) a0f) a0e)) a0e)) a0e)))))
theorem sc_show_frame : FnScope ["numbering", "frame"] ["numbering", "frame"] (defScope (top 32)) := ⟨rfl, rfl, rfl, by decide +kernel, rfl, by decide +kernel, by decide +kernel⟩
theorem d_show_frame {f : Addr} {fd : FuncData} (F0 : Fun K "show_frame" "show_frame" (top 32) f fd) (hm : mg "show_frame" = some (.ref f)) (d_label_of : Def P w K mg base 2 "label_of" 2 F_label_of) (d_frame_sign : Def P w K mg base 1 "frame_sign" 1 a1y) (d_frame_figures : Def P w K mg base 1 "frame_figures" 1 a1g) (d_show_parts : Def P w K mg base 1 "show_parts" 3 F_show_parts) : Def P w K mg base 3 "show_frame" 2 F_show_frame := by
 have S := sc_show_frame
 refine a1j (N := ["numbering", "frame"]) (ps := ["numbering", "frame"]) (k := 2) (g := g_show_frame) F0 S hm (F0.binds fun _ _ _ _ _ _ us hl => match us, hl with | [_, _], _ => rfl) fun cdv A outer s H E hr => ?_
 unfold g_show_frame
 exact (a0i (a0s (a0m d_show_parts (hr.mono (by decide)) rfl rfl (a0a (a0m d_label_of (hr.mono (by decide)) rfl rfl (a0a (a0c (pv 0)) (a0a (a0c (pv 1)) a0e))) (a0a (a0m d_frame_sign (hr.mono (by decide)) rfl rfl (a0a (a0c (pv 0)) a0e)) (a0a (a0m d_frame_figures (hr.mono (by decide)) rfl rfl (a0a (a0c (pv 0)) a0e)) a0e))))))
theorem sc_Frames_show : FnScope ["self", "moment"] ["self", "moment"] (defScope (mth (top 44) 1)) := ⟨rfl, rfl, rfl, by decide +kernel, rfl, by decide +kernel, by decide +kernel⟩
theorem d_Frames_show {f : Addr} {fd : FuncData} (F0 : Fun K "show" "Frames.show" (mth (top 44) 1) f fd) {C_Frames : Addr} (m_Frames : mg "Frames" = some (.ref C_Frames)) (nn_Frames : PySem.W.nsIn K mainGlobals "Frames" = some (some (.ref C_Frames))) (pg_Frames : PySem.W.plainGet K C_Frames Str.empty = true) (hd_Frames : PySem.W.hasDictIn K C_Frames = true) (po_Frames : PySem.W.plainOver K C_Frames = true) (sa_Frames : PySem.W.findIn K (.ref C_Frames) "__setattr__" = some (some (.builtin "object.__setattr__"))) (na_Frames_numbering : PySem.W.findIn K (.ref C_Frames) "numbering" = some none) (d_show_frame : Def P w K mg base 3 "show_frame" 2 F_show_frame) (hat : PySem.W.findIn K (.ref C_Frames) "show" = some (some (.ref f))) (hfn : PySem.W.isFn K (.ref f) = true) : DefM P w K mg base 4 "Frames" "show" 2 F_Frames_show := by
 have S := sc_Frames_show
 refine ⟨C_Frames, f, fd, ["self", "moment"], nn_Frames, ⟨pg_Frames, hd_Frames, po_Frames, sa_Frames⟩, ⟨hat, hfn, F0.kp⟩, fn_ofD (N := ["self", "moment"]) (ps := ["self", "moment"]) (k := 3) (g := g_Frames_show) F0 S (fun cdv A outer s H E hr => ?_), (F0.binds fun _ _ _ _ _ _ us hl => match us, hl with | [_, _], _ => rfl)⟩
 unfold g_Frames_show
 exact (a0i (a0s (a0m d_show_frame (hr.mono (by decide)) rfl rfl (a0a (pd_fld ⟨nn_Frames, ⟨pg_Frames, hd_Frames, po_Frames, sa_Frames⟩⟩ na_Frames_numbering (a0c (pv 0))) (a0a (a0c (pv 1)) a0e)))))
theorem sc_is_whole : FnScope ["thing"] ["thing"] (defScope (top 8)) := ⟨rfl, rfl, rfl, by decide +kernel, rfl, by decide +kernel, by decide +kernel⟩
theorem d_is_whole {f : Addr} {fd : FuncData} (F0 : Fun K "is_whole" "is_whole" (top 8) f fd) (hm : mg "is_whole" = some (.ref f)) (z_isinstance : mg "isinstance" = none) (z_int : mg "int" = none) (z_bool : mg "bool" = none) : Def P w K mg base 1 "is_whole" 1 a2f := by
 have S := sc_is_whole
 refine a1j (N := ["thing"]) (ps := ["thing"]) (k := 0) (g := g_is_whole) F0 S hm (F0.binds fun _ _ _ _ _ _ us hl => match us, hl with | [_], _ => rfl) fun cdv A outer s H E hr => ?_
 unfold g_is_whole
 exact (a0i (a0s (pd_and (a2o rfl (kit_int _) rfl z_isinstance rfl z_int PyProof.Rows.boot_int (a0c (pv 0))) (pd_one (pd_not (a2o rfl (kit_bool _) rfl z_isinstance rfl z_bool PyProof.Rows.boot_bool (a0c (pv 0))))))))
theorem sc_has_form : FnScope ["numbering", "thing"] ["numbering", "thing"] (defScope (top 25)) := ⟨rfl, rfl, rfl, by decide +kernel, rfl, by decide +kernel, by decide +kernel⟩
theorem d_has_form {f : Addr} {fd : FuncData} (F0 : Fun K "has_form" "has_form" (top 25) f fd) (hm : mg "has_form" = some (.ref f)) (d_is_whole : Def P w K mg base 1 "is_whole" 1 a2f) (z_isinstance : mg "isinstance" = none) (z_tuple : mg "tuple" = none) (z_len : mg "len" = none) (z_all : mg "all" = none) : Def P w K mg base 2 "has_form" 2 F_has_form := by
 have S := sc_has_form
 refine a1j (N := ["numbering", "thing"]) (ps := ["numbering", "thing"]) (k := 1) (g := g_has_form) F0 S hm (F0.binds fun _ _ _ _ _ _ us hl => match us, hl with | [_, _], _ => rfl) fun cdv A outer s H E hr => ?_
 unfold g_has_form
 exact (a0h (a1k (PDW.t (pdw_or (pdt_not (a1r (a2o rfl (kit_tuple _) rfl z_isinstance rfl z_tuple PyProof.Rows.boot_tuple (a0c (pv 1))))) (pdw_or1 (a1n (dop_ne hr.units) (a1d a1o rfl z_len PySem.boot_len (a0a (a0c (pv 1)) a0e)) a0f (nomark _))))) (a0i (a0s pd_bl)) a1c)
  (a0h (a1k (pdt_not (a1r (a1d (dcall_all rfl) rfl z_all PyProof.Rows.boot_all (a0a (pd_compG (fr := []) (tn := ["part"]) rfl rfl (by decide +kernel) (by rfl) (fun _ _ h => h) (hhas_of (by rfl)) fr_nil (by decide +kernel) (pdi_any (a0c (pv 1))) (fun C s3 H3 fp => (a1v (pg_name (i := 0) (show (["part"] : List Str).Nodup from by decide +kernel) rfl (by first | exact Or.inl rfl | exact Or.inr rfl)))) (fun C s3 H3 fp => pdts_nil) (fun C s3 H3 fp => (pd_and (a0m d_is_whole (hr.mono (by decide)) rfl rfl (a0a (a0c (pv 0)) a0e)) (pd_one (pd_cmp dop_ge (a0c (pv 0)) a0f (nomark _)))))) a0e)))) (a0i (a0s pd_bl)) a1c)
  (a0i (a0s (pd_and (pd_cmp dop_lt (a0u (a0c (pv 1)) a0f (fun _ _ => rfl)) a0f (nomark _)) (pd_and (pd_cmp dop_lt (a0u (a0c (pv 1)) a0f (fun _ _ => rfl)) a0f (nomark _)) (pd_one (pd_cmp dop_lt (a0u (a0c (pv 1)) a0f (fun _ _ => rfl)) (a0u (a0c (pv 0)) a0f (fun _ _ => rfl)) (nomark _)))))))))
theorem sc_minute_of : FnScope ["label"] ["label"] (defScope (top 27)) := ⟨rfl, rfl, rfl, by decide +kernel, rfl, by decide +kernel, by decide +kernel⟩
theorem d_minute_of {f : Addr} {fd : FuncData} (F0 : Fun K "minute_of" "minute_of" (top 27) f fd) (hm : mg "minute_of" = some (.ref f)) : Def P w K mg base 1 "minute_of" 1 F_minute_of := by
 have S := sc_minute_of
 refine a1j (N := ["label"]) (ps := ["label"]) (k := 0) (g := g_minute_of) F0 S hm (F0.binds fun _ _ _ _ _ _ us hl => match us, hl with | [_], _ => rfl) fun cdv A outer s H E hr => ?_
 unfold g_minute_of
 exact (a0i (a0s (a0l a0n (a0l dop_mul a0f (a0u (a0c (pv 0)) a0f (fun _ _ => rfl))) (a0u (a0c (pv 0)) a0f (fun _ _ => rfl)))))
theorem sc_is_left_out : FnScope ["numbering", "label"] ["numbering", "label"] (defScope (top 26)) := ⟨rfl, rfl, rfl, by decide +kernel, rfl, by decide +kernel, by decide +kernel⟩
theorem d_is_left_out {f : Addr} {fd : FuncData} (F0 : Fun K "is_left_out" "is_left_out" (top 26) f fd) (hm : mg "is_left_out" = some (.ref f)) (d_minute_of : Def P w K mg base 1 "minute_of" 1 F_minute_of) : Def P w K mg base 2 "is_left_out" 2 F_is_left_out := by
 have S := sc_is_left_out
 refine a1j (N := ["numbering", "label"]) (ps := ["numbering", "label"]) (k := 1) (g := g_is_left_out) F0 S hm (F0.binds fun _ _ _ _ _ _ us hl => match us, hl with | [_, _], _ => rfl) fun cdv A outer s H E hr => ?_
 unfold g_is_left_out
 exact (a0h (a1k (a1n (dop_eq hr.units) (a0l a1f (a0m d_minute_of (hr.mono (by decide)) rfl rfl (a0a (a0c (pv 1)) a0e)) (a0u (a0c (pv 0)) a0f (fun _ _ => rfl))) a0f (nomark _)) (a0i (a0s pd_bl)) a1c)
  (a0i (a0s (pd_and (pd_cmp (dop_eq hr.units) (a0u (a0c (pv 1)) a0f (fun _ _ => rfl)) a0f (nomark _)) (pd_one (pd_cmp dop_lt (a0u (a0c (pv 1)) a0f (fun _ _ => rfl)) (a0u (a0c (pv 0)) a0f (fun _ _ => rfl)) (nomark _)))))))
theorem sc_is_label : FnScope ["numbering", "thing"] ["numbering", "thing"] (defScope (top 22)) := ⟨rfl, rfl, rfl, by decide +kernel, rfl, by decide +kernel, by decide +kernel⟩
theorem d_is_label {f : Addr} {fd : FuncData} (F0 : Fun K "is_label" "is_label" (top 22) f fd) (hm : mg "is_label" = some (.ref f)) (d_has_form : Def P w K mg base 2 "has_form" 2 F_has_form) (d_is_left_out : Def P w K mg base 2 "is_left_out" 2 F_is_left_out) : Def P w K mg base 3 "is_label" 2 F_is_label := by
 have S := sc_is_label
 refine a1j (N := ["numbering", "thing"]) (ps := ["numbering", "thing"]) (k := 2) (g := g_is_label) F0 S hm (F0.binds fun _ _ _ _ _ _ us hl => match us, hl with | [_, _], _ => rfl) fun cdv A outer s H E hr => ?_
 unfold g_is_label
 exact (a0i (a0s (pd_and (a0m d_has_form (hr.mono (by decide)) rfl rfl (a0a (a0c (pv 0)) (a0a (a0c (pv 1)) a0e))) (pd_one (pd_not (a0m d_is_left_out (hr.mono (by decide)) rfl rfl (a0a (a0c (pv 0)) (a0a (a0c (pv 1)) a0e))))))))
theorem sc_frame_of : FnScope ["numbering", "label", "minute", "place", "gaps"] ["numbering", "label"] (defScope (top 24)) := ⟨rfl, rfl, rfl, by decide +kernel, rfl, by decide +kernel, by decide +kernel⟩
theorem d_frame_of {f : Addr} {fd : FuncData} (F0 : Fun K "frame_of" "frame_of" (top 24) f fd) (hm : mg "frame_of" = some (.ref f)) (d_is_label : Def P w K mg base 3 "is_label" 2 F_is_label) (d_minute_of : Def P w K mg base 1 "minute_of" 1 F_minute_of) : Def P w K mg base 4 "frame_of" 2 F_frame_of := by
 have S := sc_frame_of
 refine a1j (N := ["numbering", "label", "minute", "place", "gaps"]) (ps := ["numbering", "label"]) (k := 3) (g := g_frame_of) F0 S hm (F0.binds fun _ _ _ _ _ _ us hl => match us, hl with | [_, _], _ => rfl) fun cdv A outer s H E hr => ?_
 unfold g_frame_of
 exact (a0h (a1k (pdt_not (a1r (a0m d_is_label (hr.mono (by decide)) rfl rfl (a0a (a0c (pv 0)) (a0a (a0c (pv 1)) a0e))))) (a0i pd_never) a1c)
  (a0h (a0v (i := 2) S.nd rfl (by first | exact Or.inl rfl | exact Or.inr rfl) (a0m d_minute_of (hr.mono (by decide)) rfl rfl (a0a (a0c (pv 1)) a0e)))
  (a0h (a0v (i := 3) S.nd rfl (by first | exact Or.inl rfl | exact Or.inr rfl) (a0l a0n (a0l dop_mul (a0l a0n (a0l dop_mul a0f (a0c (pv 2))) (a0u (a0c (pv 1)) a0f (fun _ _ => rfl))) (a0u (a0c (pv 0)) a0f (fun _ _ => rfl))) (a0u (a0c (pv 1)) a0f (fun _ _ => rfl))))
  (a0h (a0v (i := 4) S.nd rfl (by first | exact Or.inl rfl | exact Or.inr rfl) (a0l dop_sub (a0c (pv 2)) (a0l a2d (a0c (pv 2)) (a0u (a0c (pv 0)) a0f (fun _ _ => rfl)))))
  (a0i (a0s (a0l dop_sub (a0c (pv 3)) (a0l dop_mul (a0u (a0c (pv 0)) a0f (fun _ _ => rfl)) (a0c (pv 4))))))))))
theorem sc_read_frame : FnScope ["numbering", "text", "label"] ["numbering", "text"] (defScope (top 33)) := ⟨rfl, rfl, rfl, by decide +kernel, rfl, by decide +kernel, by decide +kernel⟩
theorem d_read_frame {f : Addr} {fd : FuncData} (F0 : Fun K "read_frame" "read_frame" (top 33) f fd) (hm : mg "read_frame" = some (.ref f)) {C_NoTime : Addr} (m_NoTime : mg "NoTime" = some (.ref C_NoTime)) (x_NoTime : PySem.W.excIn K C_NoTime [.type "ValueError", .type "Exception", .type "BaseException", .type "object"] "ValueError.__new__" = true) (d_frame_sign : Def P w K mg base 1 "frame_sign" 1 a1y) (d_frame_figures : Def P w K mg base 1 "frame_figures" 1 a1g) (d_read_parts : DefX P w K mg base 4 "read_parts" 3 a2i) (d_is_label : Def P w K mg base 3 "is_label" 2 F_is_label) (d_frame_of : Def P w K mg base 4 "frame_of" 2 F_frame_of) : DefX P w K mg base 5 "read_frame" 2 F_read_frame := by
 have S := sc_read_frame
 refine defX_of (N := ["numbering", "text", "label"]) (ps := ["numbering", "text"]) (k := 4) (g := g_read_frame) F0 S hm (F0.binds fun _ _ _ _ _ _ us hl => match us, hl with | [_, _], _ => rfl) fun cdv A outer s H E hr => ?_
 unfold g_read_frame
 exact (a0h (a0v (i := 2) S.nd rfl (by first | exact Or.inl rfl | exact Or.inr rfl) (pd_callX d_read_parts (hr.mono (by decide)) passes_def (fun _ _ h => h) rfl rfl (a0a (a0c (pv 1)) (a0a (a0m d_frame_sign (hr.mono (by decide)) rfl rfl (a0a (a0c (pv 0)) a0e)) (a0a (a0m d_frame_figures (hr.mono (by decide)) rfl rfl (a0a (a0c (pv 0)) a0e)) a0e)))))
  (a0h (a1k (pdt_not (a1r (a0m d_is_label (hr.mono (by decide)) rfl rfl (a0a (a0c (pv 0)) (a0a (a0c (pv 2)) a0e))))) (a0i (pd_raise raises_def (fun _ _ h => h) x_NoTime PySem.F.excBase_ValueError rfl rfl m_NoTime (a0a a0r a0e))) a1c)
  (a0i (a0s (a0m d_frame_of (hr.mono (by decide)) rfl rfl (a0a (a0c (pv 0)) (a0a (a0c (pv 2)) a0e)))))))
theorem sc_Frames_read : FnScope ["self", "text"] ["self", "text"] (defScope (mth (top 44) 2)) := ⟨rfl, rfl, rfl, by decide +kernel, rfl, by decide +kernel, by decide +kernel⟩
theorem d_Frames_read {f : Addr} {fd : FuncData} (F0 : Fun K "read" "Frames.read" (mth (top 44) 2) f fd) {C_Frames : Addr} (m_Frames : mg "Frames" = some (.ref C_Frames)) (nn_Frames : PySem.W.nsIn K mainGlobals "Frames" = some (some (.ref C_Frames))) (pg_Frames : PySem.W.plainGet K C_Frames Str.empty = true) (hd_Frames : PySem.W.hasDictIn K C_Frames = true) (po_Frames : PySem.W.plainOver K C_Frames = true) (sa_Frames : PySem.W.findIn K (.ref C_Frames) "__setattr__" = some (some (.builtin "object.__setattr__"))) (na_Frames_numbering : PySem.W.findIn K (.ref C_Frames) "numbering" = some none) (d_read_frame : DefX P w K mg base 5 "read_frame" 2 F_read_frame) (hat : PySem.W.findIn K (.ref C_Frames) "read" = some (some (.ref f))) (hfn : PySem.W.isFn K (.ref f) = true) : DefMX P w K mg base 6 "Frames" "read" 2 F_Frames_read := by
 have S := sc_Frames_read
 refine ⟨C_Frames, f, fd, ["self", "text"], nn_Frames, ⟨pg_Frames, hd_Frames, po_Frames, sa_Frames⟩, ⟨hat, hfn, F0.kp⟩, fn_ofX (N := ["self", "text"]) (ps := ["self", "text"]) (k := 5) (g := g_Frames_read) F0 S (fun cdv A outer s H E hr => ?_), (F0.binds fun _ _ _ _ _ _ us hl => match us, hl with | [_, _], _ => rfl)⟩
 unfold g_Frames_read
 exact (a0i (a0s (pd_callX d_read_frame (hr.mono (by decide)) passes_def (fun _ _ h => h) rfl rfl (a0a (pd_fld ⟨nn_Frames, ⟨pg_Frames, hd_Frames, po_Frames, sa_Frames⟩⟩ na_Frames_numbering (a0c (pv 0))) (a0a (a0c (pv 1)) a0e)))))
theorem sc_NoCue_init : FnScope ["self", "row"] ["self", "row"] (defScope (mth (top 4) 0)) := ⟨rfl, rfl, rfl, by decide +kernel, rfl, by decide +kernel, by decide +kernel⟩
theorem a2h {f : Addr} {fd : FuncData} (F0 : Fun K "__init__" "NoCue.__init__" (mth (top 4) 0) f fd) {C_NoCue : Addr} (m_NoCue : mg "NoCue" = some (.ref C_NoCue)) {C_CueError : Addr} (m_CueError : mg "CueError" = some (.ref C_CueError)) (x1_NoCue : XF.excIn1 K C_NoCue XF.VE "ValueError.__new__" = true) (g1_NoCue : PySem.W.findIn K (.ref C_NoCue) "__getattribute__" = some (some (.builtin "BaseException.__getattribute__"))) (g2_NoCue : PySem.W.findIn K (.ref C_NoCue) "__getattr__" = some none) (sa_NoCue : PySem.W.findIn K (.ref C_NoCue) "__setattr__" = some (some (.builtin "object.__setattr__"))) (g7_NoCue : PySem.W.mroIn K C_NoCue (.type "BaseException") = some true) (g6_NoCue : PySem.W.mroIn K C_NoCue (.type "object") = some true) (hd_NoCue : PySem.W.hasDictIn K C_NoCue = true) (st_NoCue : ((PySem.W.clsIn K C_NoCue).any fun cd => XF.strip cd.mro == XF.VE) = true) (na_NoCue_row : PySem.W.findIn K (.ref C_NoCue) "row" = some none) (rd_CueError : PySem.W.readsIn K C_CueError (.type "type") = true) (sp_CueError : PySem.W.specialIn K (.ref C_CueError) "__getattribute__" = some (some (.builtin "type.__getattribute__"))) (fd_CueError : PySem.W.findCls K (.ref C_CueError) (.type "type") "__init__" = some (.val (.builtin "ValueError.__init__"))) (hat : PySem.W.findIn K (.ref C_NoCue) "__init__" = some (some (.ref f))) (hfn : PySem.W.isFn K (.ref f) = true) (kc : PySem.W.keepIn K (.ref C_NoCue) = true) : XDefH P w K mg base 1 "NoCue" "row" C_NoCue := by
 have S := sc_NoCue_init
 exact ⟨f, fd, ["self", "row"], ⟨x1_NoCue, hat, beq_iff_eq.mp hfn, kc⟩, XF.initX_of (k := 0) F0 S rfl (XF.txt3 (a := "row ") (b := " is no row of cues") (by decide +kernel) (by decide +kernel)) (fun cdv A outer s H E => pss_cons (ps_expr (XF.pe_binit x1_NoCue ⟨rd_CueError, sp_CueError, fd_CueError⟩ rfl m_CueError (pa_cons (pv 0) (pa_cons (pe_joined (.cons pe_str (.cons (pe_fv (pv 1)) (.cons pe_str .nil rfl) rfl) rfl)) pa_nil)))) (pss_one (XF.ps_xf ⟨g1_NoCue, g2_NoCue, sa_NoCue, g7_NoCue, g6_NoCue, hd_NoCue, st_NoCue⟩ na_NoCue_row (pv 0) (pv 1)))), XF.initXH_of (k := 0) F0 S rfl (XF.txt3 (a := "row ") (b := " is no row of cues") (by decide +kernel) (by decide +kernel)) (fun cdv A hv outer s H => pss_cons (ps_expr (XF.pe_binit x1_NoCue ⟨rd_CueError, sp_CueError, fd_CueError⟩ rfl m_CueError (pa_cons (pv 0) (pa_cons (pe_joined (.cons pe_str (.cons (pe_fv (pv 1)) (.cons pe_str .nil rfl) rfl) rfl)) pa_nil)))) (pss_one (XF.ps_xf ⟨g1_NoCue, g2_NoCue, sa_NoCue, g7_NoCue, g6_NoCue, hd_NoCue, st_NoCue⟩ na_NoCue_row (pv 0) (pv 1)))), rfl, (F0.binds fun _ _ _ _ _ _ us hl => match us, hl with | [_, _], _ => rfl)⟩
theorem sc_is_name : FnScope ["thing"] ["thing"] (defScope (top 9)) := ⟨rfl, rfl, rfl, by decide +kernel, rfl, by decide +kernel, by decide +kernel⟩
theorem d_is_name {f : Addr} {fd : FuncData} (F0 : Fun K "is_name" "is_name" (top 9) f fd) (hm : mg "is_name" = some (.ref f)) (z_isinstance : mg "isinstance" = none) (z_str : mg "str" = none) (z_len : mg "len" = none) (z_all : mg "all" = none) : Def P w K mg base 1 "is_name" 1 F_is_name := by
 have S := sc_is_name
 refine a1j (N := ["thing"]) (ps := ["thing"]) (k := 0) (g := g_is_name) F0 S hm (F0.binds fun _ _ _ _ _ _ us hl => match us, hl with | [_], _ => rfl) fun cdv A outer s H E hr => ?_
 unfold g_is_name
 exact (a0h (a1k (PDW.t (pdw_or (pdt_not (a1r (a2o rfl (kit_str _) rfl z_isinstance rfl z_str PyProof.Rows.boot_str (a0c (pv 0))))) (pdw_or1 (pdt_not (pdt_chain dop_leD dop_leD a0f (a1d a1o rfl z_len PySem.boot_len (a0a (a0c (pv 0)) a0e)) a0f))))) (a0i (a0s pd_bl)) a1c)
  (a0i (a0s (a1d (dcall_all rfl) rfl z_all PyProof.Rows.boot_all (a0a (pd_compG (fr := []) (tn := ["sign"]) rfl rfl (by decide +kernel) (by rfl) (fun _ _ h => h) (hhas_of (by rfl)) fr_nil (by decide +kernel) (pdi_any (a0c (pv 0))) (fun C s3 H3 fp => (a1v (pg_name (i := 0) (show (["sign"] : List Str).Nodup from by decide +kernel) rfl (by first | exact Or.inl rfl | exact Or.inr rfl)))) (fun C s3 H3 fp => pdts_nil) (fun C s3 H3 fp => (pd_chain dop_leD dop_leD a0r (a0c (pv 0)) a0r))) a0e)))))
theorem sc_is_word_sign : FnScope ["sign"] ["sign"] (defScope (top 12)) := ⟨rfl, rfl, rfl, by decide +kernel, rfl, by decide +kernel, by decide +kernel⟩
theorem d_is_word_sign {f : Addr} {fd : FuncData} (F0 : Fun K "is_word_sign" "is_word_sign" (top 12) f fd) (hm : mg "is_word_sign" = some (.ref f)) {t_PERCENT : Tok} (m_PERCENT : mg "PERCENT" = some (.int 37 t_PERCENT)) (z_ord : mg "ord" = none) : Def P w K mg base 1 "is_word_sign" 1 F_is_word_sign := by
 have S := sc_is_word_sign
 refine a1j (N := ["sign"]) (ps := ["sign"]) (k := 0) (g := g_is_word_sign) F0 S hm (F0.binds fun _ _ _ _ _ _ us hl => match us, hl with | [_], _ => rfl) fun cdv A outer s H E hr => ?_
 unfold g_is_word_sign
 exact (a0i (a0s (pd_and (pd_chain dop_leD dop_leD a0r (a0c (pv 0)) a0r) (pd_one (pd_cmp (dop_ne hr.units) (a1d dcall_ord rfl z_ord PyProof.Rows.boot_ord (a0a (a0c (pv 0)) a0e)) (pd_globI rfl m_PERCENT) (nomark _))))))
theorem sc_is_word : FnScope ["text"] ["text"] (defScope (top 11)) := ⟨rfl, rfl, rfl, by decide +kernel, rfl, by decide +kernel, by decide +kernel⟩
theorem d_is_word {f : Addr} {fd : FuncData} (F0 : Fun K "is_word" "is_word" (top 11) f fd) (hm : mg "is_word" = some (.ref f)) (d_is_word_sign : Def P w K mg base 1 "is_word_sign" 1 F_is_word_sign) (z_len : mg "len" = none) (z_all : mg "all" = none) : Def P w K mg base 2 "is_word" 1 F_is_word := by
 have S := sc_is_word
 refine a1j (N := ["text"]) (ps := ["text"]) (k := 1) (g := g_is_word) F0 S hm (F0.binds fun _ _ _ _ _ _ us hl => match us, hl with | [_], _ => rfl) fun cdv A outer s H E hr => ?_
 unfold g_is_word
 exact (a0i (a0s (pd_and (pd_chain dop_leD dop_leD a0f (a1d a1o rfl z_len PySem.boot_len (a0a (a0c (pv 0)) a0e)) a0f) (pd_one (a1d (dcall_all rfl) rfl z_all PyProof.Rows.boot_all (a0a (pd_compG (fr := []) (tn := ["sign"]) rfl rfl (by decide +kernel) (by rfl) (fun _ _ h => h) (hhas_of (by rfl)) fr_nil (by decide +kernel) (pdi_any (a0c (pv 0))) (fun C s3 H3 fp => (a1v (pg_name (i := 0) (show (["sign"] : List Str).Nodup from by decide +kernel) rfl (by first | exact Or.inl rfl | exact Or.inr rfl)))) (fun C s3 H3 fp => pdts_nil) (fun C s3 H3 fp => (a0m d_is_word_sign (hr.mono (by decide)) rfl rfl (a0a (a0c (pv 0)) a0e)))) a0e))))))
theorem sc_are_words : FnScope ["thing"] ["thing"] (defScope (top 10)) := ⟨rfl, rfl, rfl, by decide +kernel, rfl, by decide +kernel, by decide +kernel⟩
theorem d_are_words {f : Addr} {fd : FuncData} (F0 : Fun K "are_words" "are_words" (top 10) f fd) (hm : mg "are_words" = some (.ref f)) (d_is_word : Def P w K mg base 2 "is_word" 1 F_is_word) (z_isinstance : mg "isinstance" = none) (z_str : mg "str" = none) (z_all : mg "all" = none) : Def P w K mg base 3 "are_words" 1 F_are_words := by
 have S := sc_are_words
 refine a1j (N := ["thing"]) (ps := ["thing"]) (k := 2) (g := g_are_words) F0 S hm (F0.binds fun _ _ _ _ _ _ us hl => match us, hl with | [_], _ => rfl) fun cdv A outer s H E hr => ?_
 unfold g_are_words
 exact (a0i (a0s (pd_and (a2o rfl (kit_str _) rfl z_isinstance rfl z_str PyProof.Rows.boot_str (a0c (pv 0))) (pd_one (a1d (dcall_all rfl) rfl z_all PyProof.Rows.boot_all (a0a (pd_compG (fr := []) (tn := ["part"]) rfl rfl (by decide +kernel) (by rfl) (fun _ _ h => h) (hhas_of (by rfl)) fr_nil (by decide +kernel) (pdi_any (pd_meth PySem.F.slot_str_split PySem.F.type_str_split dmt_split (a0c (pv 0)) (a0a a0r a0e))) (fun C s3 H3 fp => (a1v (pg_name (i := 0) (show (["part"] : List Str).Nodup from by decide +kernel) rfl (by first | exact Or.inl rfl | exact Or.inr rfl)))) (fun C s3 H3 fp => pdts_nil) (fun C s3 H3 fp => (a0m d_is_word (hr.mono (by decide)) rfl rfl (a0a (a0c (pv 0)) a0e)))) a0e))))))
theorem sc_is_cue : FnScope ["thing"] ["thing"] (defScope (top 15)) := ⟨rfl, rfl, rfl, by decide +kernel, rfl, by decide +kernel, by decide +kernel⟩
theorem d_is_cue {f : Addr} {fd : FuncData} (F0 : Fun K "is_cue" "is_cue" (top 15) f fd) (hm : mg "is_cue" = some (.ref f)) (d_is_whole : Def P w K mg base 1 "is_whole" 1 a2f) (d_is_name : Def P w K mg base 1 "is_name" 1 F_is_name) (d_are_words : Def P w K mg base 3 "are_words" 1 F_are_words) (z_isinstance : mg "isinstance" = none) (z_tuple : mg "tuple" = none) (z_len : mg "len" = none) : Def P w K mg base 4 "is_cue" 1 F_is_cue := by
 have S := sc_is_cue
 refine a1j (N := ["thing"]) (ps := ["thing"]) (k := 3) (g := g_is_cue) F0 S hm (F0.binds fun _ _ _ _ _ _ us hl => match us, hl with | [_], _ => rfl) fun cdv A outer s H E hr => ?_
 unfold g_is_cue
 exact (a0h (a1k (PDW.t (pdw_or (pdt_not (a1r (a2o rfl (kit_tuple _) rfl z_isinstance rfl z_tuple PyProof.Rows.boot_tuple (a0c (pv 0))))) (pdw_or1 (a1n (dop_ne hr.units) (a1d a1o rfl z_len PySem.boot_len (a0a (a0c (pv 0)) a0e)) a0f (nomark _))))) (a0i (a0s pd_bl)) a1c)
  (a0h (a1k (PDW.t (pdw_or (pdt_not (a1r (a0m d_is_whole (hr.mono (by decide)) rfl rfl (a0a (a0u (a0c (pv 0)) a0f (fun _ _ => rfl)) a0e)))) (pdw_or1 (pdt_not (a1r (a0m d_is_whole (hr.mono (by decide)) rfl rfl (a0a (a0u (a0c (pv 0)) a0f (fun _ _ => rfl)) a0e))))))) (a0i (a0s pd_bl)) a1c)
  (a0i (a0s (pd_and (pd_chain dop_leD dop_lt a0f (a0u (a0c (pv 0)) a0f (fun _ _ => rfl)) (a0u (a0c (pv 0)) a0f (fun _ _ => rfl))) (pd_and (a0m d_is_name (hr.mono (by decide)) rfl rfl (a0a (a0u (a0c (pv 0)) a0f (fun _ _ => rfl)) a0e)) (pd_one (a0m d_are_words (hr.mono (by decide)) rfl rfl (a0a (a0u (a0c (pv 0)) a0f (fun _ _ => rfl)) a0e)))))))))
theorem sc_show_row : FnScope ["clock", "cue"] ["clock", "cue"] (defScope (top 17)) := ⟨rfl, rfl, rfl, by decide +kernel, rfl, by decide +kernel, by decide +kernel⟩
theorem d_show_row {f : Addr} {fd : FuncData} (F0 : Fun K "show_row" "show_row" (top 17) f fd) (hm : mg "show_row" = some (.ref f)) (d_Frames_show : DefM P w K mg base 4 "Frames" "show" 2 F_Frames_show) (d_Thousandths_show : DefM P w K mg base 3 "Thousandths" "show" 2 a1l) : Def P w K mg base 5 "show_row" 2 F_show_row := by
 have S := sc_show_row
 refine a1j (N := ["clock", "cue"]) (ps := ["clock", "cue"]) (k := 4) (g := g_show_row) F0 S hm (F0.binds fun _ _ _ _ _ _ us hl => match us, hl with | [_, _], _ => rfl) fun cdv A outer s H E hr => ?_
 unfold g_show_row
 exact (a0i (a0s (pd_meth PySem.F.slot_str_join PySem.F.type_str_join dmt_join a0r (a0a (pd_lst (a0a (pd_el (pd_methI d_Thousandths_show (hr.mono (by decide)) rfl (a0c (pv 0)) (a0a (a0u (a0c (pv 1)) a0f (fun _ _ => rfl)) a0e)) (pd_methI d_Frames_show (hr.mono (by decide)) rfl (a0c (pv 0)) (a0a (a0u (a0c (pv 1)) a0f (fun _ _ => rfl)) a0e))) (a0a (pd_el (pd_methI d_Thousandths_show (hr.mono (by decide)) rfl (a0c (pv 0)) (a0a (a0u (a0c (pv 1)) a0f (fun _ _ => rfl)) a0e)) (pd_methI d_Frames_show (hr.mono (by decide)) rfl (a0c (pv 0)) (a0a (a0u (a0c (pv 1)) a0f (fun _ _ => rfl)) a0e))) (a0a (a0u (a0c (pv 1)) a0f (fun _ _ => rfl)) (a0a (a0u (a0c (pv 1)) a0f (fun _ _ => rfl)) a0e))))) a0e))))
theorem sc_show_cues : FnScope ["clock", "cues"] ["clock", "cues"] (defScope (top 16)) := ⟨rfl, rfl, rfl, by decide +kernel, rfl, by decide +kernel, by decide +kernel⟩
theorem d_show_cues {f : Addr} {fd : FuncData} (F0 : Fun K "show_cues" "show_cues" (top 16) f fd) (hm : mg "show_cues" = some (.ref f)) (d_show_row : Def P w K mg base 5 "show_row" 2 F_show_row) : Def P w K mg base 6 "show_cues" 2 F_show_cues := by
 have S := sc_show_cues
 refine a1j (N := ["clock", "cues"]) (ps := ["clock", "cues"]) (k := 5) (g := g_show_cues) F0 S hm (F0.binds fun _ _ _ _ _ _ us hl => match us, hl with | [_, _], _ => rfl) fun cdv A outer s H E hr => ?_
 unfold g_show_cues
 exact (a0i (a0s (pd_meth PySem.F.slot_str_join PySem.F.type_str_join dmt_join a0r (a0a (pd_compG (fr := [(0, "clock")]) (tn := ["cue"]) rfl rfl (by decide +kernel) (by rfl) (fun _ _ h => h) (hhas_of (by rfl)) (fr_cons rfl rfl rfl ⟨_, rfl⟩ fr_nil) (by decide +kernel) (pdi_any (a0c (pv 1))) (fun C s3 H3 fp => (a1v (pg_name (i := 0) (show (["cue", "clock"] : List Str).Nodup from by decide +kernel) rfl (by first | exact Or.inl rfl | exact Or.inr rfl)))) (fun C s3 H3 fp => pdts_nil) (fun C s3 H3 fp => (a0m d_show_row (hr.mono (by decide)) rfl rfl (a0a (a0c (pv 1)) (a0a (a0c (pv 0)) a0e))))) a0e))))
theorem sc_read_row : FnScope ["clock", "row", "number", "parts", "cue"] ["clock", "row", "number"] (defScope (top 20)) := ⟨rfl, rfl, rfl, by decide +kernel, rfl, by decide +kernel, by decide +kernel⟩
theorem d_read_row {f : Addr} {fd : FuncData} (F0 : Fun K "read_row" "read_row" (top 20) f fd) (hm : mg "read_row" = some (.ref f)) {C_NoCue : Addr} (m_NoCue : mg "NoCue" = some (.ref C_NoCue)) {C_NoTime : Addr} (m_NoTime : mg "NoTime" = some (.ref C_NoTime)) (x1_NoTime : XF.excIn1 K C_NoTime XF.VE "ValueError.__new__" = true) (a2h : XDefH P w K mg base 1 "NoCue" "row" C_NoCue) (d_Frames_read : DefMX P w K mg base 6 "Frames" "read" 2 F_Frames_read) (d_Thousandths_read : DefMX P w K mg base 6 "Thousandths" "read" 2 a1m) (d_is_cue : Def P w K mg base 4 "is_cue" 1 F_is_cue) (z_len : mg "len" = none) : DefX P w K mg base 7 "read_row" 3 a2e := by
 have S := sc_read_row
 refine defX_of (N := ["clock", "row", "number", "parts", "cue"]) (ps := ["clock", "row", "number"]) (k := 6) (g := g_read_row) F0 S hm (F0.binds fun _ _ _ _ _ _ us hl => match us, hl with | [_, _, _], _ => rfl) fun cdv A outer s H E hr => ?_
 unfold g_read_row
 exact (a0h (a0v (i := 3) S.nd rfl (by first | exact Or.inl rfl | exact Or.inr rfl) (pd_meth PySem.F.slot_str_split PySem.F.type_str_split dmt_splitN (a0c (pv 1)) (a0a a0r (a0a a0f a0e))))
  (a0h (a1k (a1n (dop_ne hr.units) (a1d a1o rfl z_len PySem.boot_len (a0a (a0c (pv 3)) a0e)) a0f (nomark _)) (a0i (pd_raiseF a2h.x XF.raisesF_def (fun _ _ h => h) (hr.mono (by decide)) rfl rfl m_NoCue (a0a (a0c (pv 2)) a0e))) a1c)
  (a0h (pd_try_asg (i := 4) x1_NoTime (fun ea => PassesOwnAt.leavingOf (SameStack.mark _ _)) rfl rfl rfl rfl m_NoTime S.nd rfl (by first | exact Or.inl rfl | exact Or.inr rfl) (fun E1 => (pdx_tup (pdax_cons (pdx_el (pdx_meth d_Thousandths_read (hr.mono (by decide)) rfl (a0c (pv 0)) (a0a (a0u (a0c (pv 3)) a0f (fun _ _ => rfl)) a0e)) (pdx_meth d_Frames_read (hr.mono (by decide)) rfl (a0c (pv 0)) (a0a (a0u (a0c (pv 3)) a0f (fun _ _ => rfl)) a0e))) (pdax_cons (pdx_el (pdx_meth d_Thousandths_read (hr.mono (by decide)) rfl (a0c (pv 0)) (a0a (a0u (a0c (pv 3)) a0f (fun _ _ => rfl)) a0e)) (pdx_meth d_Frames_read (hr.mono (by decide)) rfl (a0c (pv 0)) (a0a (a0u (a0c (pv 3)) a0f (fun _ _ => rfl)) a0e))) (pdax_cons (pdx_of (a0u (a0c (pv 3)) a0f (fun _ _ => rfl))) (pdax_cons (pdx_of (a0u (a0c (pv 3)) a0f (fun _ _ => rfl))) pdax_nil)))))) (fun pn ea oe vs hpn hin hod ho2 => (a0i (pd_raiseH a2h XF.raisesF_def (fun _ _ h => h) (hr.mono (by decide)) hpn hin hod ho2 rfl m_NoCue (a0a (a0c (pv 2)) a0e)))))
  (a0h (a1k (pdt_not (a1r (a0m d_is_cue (hr.mono (by decide)) rfl rfl (a0a (a0c (pv 4)) a0e)))) (a0i (pd_raiseF a2h.x XF.raisesF_def (fun _ _ h => h) (hr.mono (by decide)) rfl rfl m_NoCue (a0a (a0c (pv 2)) a0e))) a1c)
  (a0i (a0s (a0c (pv 4))))))))
theorem sc_rows_of : FnScope ["text"] ["text"] (defScope (top 19)) := ⟨rfl, rfl, rfl, by decide +kernel, rfl, by decide +kernel, by decide +kernel⟩
theorem d_rows_of {f : Addr} {fd : FuncData} (F0 : Fun K "rows_of" "rows_of" (top 19) f fd) (hm : mg "rows_of" = some (.ref f)) : Def P w K mg base 1 "rows_of" 1 F_rows_of := by
 have S := sc_rows_of
 refine a1j (N := ["text"]) (ps := ["text"]) (k := 0) (g := g_rows_of) F0 S hm (F0.binds fun _ _ _ _ _ _ us hl => match us, hl with | [_], _ => rfl) fun cdv A outer s H E hr => ?_
 unfold g_rows_of
 exact (a0i (a0s (pd_if (pdt_tr (a0c (pv 0))) (pd_meth PySem.F.slot_str_split PySem.F.type_str_split dmt_split (a0c (pv 0)) (a0a a0r a0e)) (pd_lst a0e))))
theorem sc_read_cues : FnScope ["clock", "text", "cues", "number", "row", "cue"] ["clock", "text"] (defScope (top 18)) := ⟨rfl, rfl, rfl, by decide +kernel, rfl, by decide +kernel, by decide +kernel⟩
theorem d_read_cues {f : Addr} {fd : FuncData} (F0 : Fun K "read_cues" "read_cues" (top 18) f fd) (hm : mg "read_cues" = some (.ref f)) {C_NoCue : Addr} (m_NoCue : mg "NoCue" = some (.ref C_NoCue)) (a2h : XDefH P w K mg base 1 "NoCue" "row" C_NoCue) (d_read_row : DefX P w K mg base 7 "read_row" 3 a2e) (d_rows_of : Def P w K mg base 1 "rows_of" 1 F_rows_of) (z_isinstance : mg "isinstance" = none) (z_str : mg "str" = none) (z_enumerate : mg "enumerate" = none) : DefX P w K mg base 8 "read_cues" 2 a1s := by
 have S := sc_read_cues
 refine defX_of (N := ["clock", "text", "cues", "number", "row", "cue"]) (ps := ["clock", "text"]) (k := 7) (g := g_read_cues) F0 S hm (F0.binds fun _ _ _ _ _ _ us hl => match us, hl with | [_, _], _ => rfl) fun cdv A outer s H E hr => ?_
 unfold g_read_cues b_read_cues_0
 exact (a0h (a1k (pdt_not (a1r (a2o rfl (kit_str _) rfl z_isinstance rfl z_str PyProof.Rows.boot_str (a0c (pv 1))))) (a0i (pd_raiseF a2h.x XF.raisesF_def (fun _ _ h => h) (hr.mono (by decide)) rfl rfl m_NoCue (a0a a0f a0e))) a1c)
  (a0h (pd_newL (i := 2) S.nd rfl (by first | exact Or.inl rfl | exact Or.inr rfl) (pdn_lst a0e))
  (a0h (pd_forI PassesOwn.leaving rfl (pdi_enumK rfl z_enumerate (a0a (a0m d_rows_of (hr.mono (by decide)) rfl rfl (a0a (a0c (pv 1)) a0e)) a0e)) (pdg_tup rfl (pdgs_cons (a1v (pg_name (i := 3) S.nd rfl (by first | exact Or.inl rfl | exact Or.inr rfl))) (pdgs_cons (a1v (pg_name (i := 4) S.nd rfl (by first | exact Or.inl rfl | exact Or.inr rfl))) pdgs_nil))) (a0h (a0v (i := 5) S.nd rfl (by first | exact Or.inl rfl | exact Or.inr rfl) (pd_callX d_read_row (hr.mono (by decide)) passes_def (fun _ _ h => h) rfl rfl (a0a (a0c (pv 0)) (a0a (a0c (pv 4)) (a0a (a0c (pv 3)) a0e)))))
  (a0h (a1k (pdt_lend 2 (PDW.t (pdw_and (pdt_tr (a0c (pv 2))) (pdw_and1 (a1n dop_lt (a0u (a0c (pv 5)) a0f (fun _ _ => rfl)) (a0u (a0u (a0c (pv 2)) (pd_neg a0f) (fun _ _ => rfl)) a0f (fun _ _ => rfl)) (nomark _)))))) (a0i (pd_raiseF a2h.x XF.raisesF_def (fun _ _ h => h) (hr.mono (by decide)) rfl rfl m_NoCue (a0a (a0c (pv 3)) a0e))) a1c)
  (a0i (pd_app (i := 2) (pv 2) (a0c (pv 5)))))))
  (a0i (pd_retO (pv 2))))))
theorem sc__law_cell_at : FnScope ["_law_script", "_law_k"] ["_law_script", "_law_k"] (defScope (top 46)) := ⟨rfl, rfl, rfl, by decide +kernel, rfl, by decide +kernel, by decide +kernel⟩
theorem d__law_cell_at {f : Addr} {fd : FuncData} (F0 : Fun K "_law_cell_at" "_law_cell_at" (top 46) f fd) (hm : mg "_law_cell_at" = some (.ref f)) (z_len : mg "len" = none) : Def P w K mg base 1 "_law_cell_at" 2 F__law_cell_at := by
 have S := sc__law_cell_at
 refine a1j (N := ["_law_script", "_law_k"]) (ps := ["_law_script", "_law_k"]) (k := 0) (g := g__law_cell_at) F0 S hm (F0.binds fun _ _ _ _ _ _ us hl => match us, hl with | [_, _], _ => rfl) fun cdv A outer s H E hr => ?_
 unfold g__law_cell_at
 exact (a0h (a1k (a1n dop_lt (a0c (pv 1)) (a1d a1o rfl z_len PySem.boot_len (a0a (a0c (pv 0)) a0e)) (nomark _)) (a0i (a0s (a0u (a0c (pv 0)) (a0c (pv 1)) (fun _ _ => rfl)))) a1c)
  (a0i (a0s a0f)))
theorem sc__law_mixed : FnScope ["_law_cell", "_law_by"] ["_law_cell", "_law_by"] (defScope (top 47)) := ⟨rfl, rfl, rfl, by decide +kernel, rfl, by decide +kernel, by decide +kernel⟩
theorem d__law_mixed {f : Addr} {fd : FuncData} (F0 : Fun K "_law_mixed" "_law_mixed" (top 47) f fd) (hm : mg "_law_mixed" = some (.ref f)) : Def P w K mg base 1 "_law_mixed" 2 a1z := by
 have S := sc__law_mixed
 refine a1j (N := ["_law_cell", "_law_by"]) (ps := ["_law_cell", "_law_by"]) (k := 0) (g := g__law_mixed) F0 S hm (F0.binds fun _ _ _ _ _ _ us hl => match us, hl with | [_, _], _ => rfl) fun cdv A outer s H E hr => ?_
 unfold g__law_mixed
 exact (a0i (a0s (a0l a1f (a0l dop_mul (a0l a1f (a0c (pv 0)) a0f) (a0c (pv 1))) a0f)))
theorem sc__law_figures : FnScope ["_law_number", "_law_many", "_law_text_here"] ["_law_number", "_law_many"] (defScope (top 48)) := ⟨rfl, rfl, rfl, by decide +kernel, rfl, by decide +kernel, by decide +kernel⟩
theorem a2b {f : Addr} {fd : FuncData} (F0 : Fun K "_law_figures" "_law_figures" (top 48) f fd) (hm : mg "_law_figures" = some (.ref f)) (z_len : mg "len" = none) : Def P w K mg base 1 "_law_figures" 2 a1i := by
 have S := sc__law_figures
 refine a1j (N := ["_law_number", "_law_many", "_law_text_here"]) (ps := ["_law_number", "_law_many"]) (k := 0) (g := g__law_figures) F0 S hm (F0.binds fun _ _ _ _ _ _ us hl => match us, hl with | [_, _], _ => rfl) fun cdv A outer s H E hr => ?_
 unfold g__law_figures b__law_figures_0
 exact (a0h (a0v (i := 2) S.nd rfl (by first | exact Or.inl rfl | exact Or.inr rfl) a0r)
  (a0h (pd_while PassesOwn.never (PDW.t (pdw_or (a1n dop_gt (a0c (pv 0)) a0f (nomark _)) (pdw_or1 (a1n dop_lt (a1d a1o rfl z_len PySem.boot_len (a0a (a0c (pv 2)) a0e)) (a0c (pv 1)) (nomark _))))) (a0h (a0v (i := 2) S.nd rfl (by first | exact Or.inl rfl | exact Or.inr rfl) (a0l a0n (a0u a0r (a0l a1f (a0c (pv 0)) a0f) (fun _ _ => rfl)) (a0c (pv 2))))
  (a0i (a0v (i := 0) S.nd rfl (by first | exact Or.inl rfl | exact Or.inr rfl) (a0l a2d (a0c (pv 0)) a0f)))))
  (a0i (a0s (a0c (pv 2))))))
theorem sc__law_text : FnScope ["_law_base", "_law_moment", "_law_seconds", "_law_words_here"] ["_law_base", "_law_moment"] (defScope (top 49)) := ⟨rfl, rfl, rfl, by decide +kernel, rfl, by decide +kernel, by decide +kernel⟩
theorem d__law_text {f : Addr} {fd : FuncData} (F0 : Fun K "_law_text" "_law_text" (top 49) f fd) (hm : mg "_law_text" = some (.ref f)) (a2b : Def P w K mg base 1 "_law_figures" 2 a1i) : Def P w K mg base 2 "_law_text" 2 a2c := by
 have S := sc__law_text
 refine a1j (N := ["_law_base", "_law_moment", "_law_seconds", "_law_words_here"]) (ps := ["_law_base", "_law_moment"]) (k := 1) (g := g__law_text) F0 S hm (F0.binds fun _ _ _ _ _ _ us hl => match us, hl with | [_, _], _ => rfl) fun cdv A outer s H E hr => ?_
 unfold g__law_text
 exact (a0h (a0v (i := 2) S.nd rfl (by first | exact Or.inl rfl | exact Or.inr rfl) (a0l a2d (a0c (pv 1)) (a0c (pv 0))))
  (a0h (a0v (i := 3) S.nd rfl (by first | exact Or.inl rfl | exact Or.inr rfl) (pd_lst (a0a (a0m a2b (hr.mono (by decide)) rfl rfl (a0a (a0l a2d (a0c (pv 2)) a0f) (a0a a0f a0e))) (a0a (a0m a2b (hr.mono (by decide)) rfl rfl (a0a (a0l a1f (a0l a2d (a0c (pv 2)) a0f) a0f) (a0a a0f a0e))) (a0a (a0m a2b (hr.mono (by decide)) rfl rfl (a0a (a0l a1f (a0c (pv 2)) a0f) (a0a a0f a0e))) a0e)))))
  (a0h (a1k (a1n (dop_eq hr.units) (a0c (pv 0)) a0f (nomark _)) (a0i (a0s (a0l a0n (a0l a0n (pd_meth PySem.F.slot_str_join PySem.F.type_str_join dmt_join a0r (a0a (a0c (pv 3)) a0e)) a0r) (a0m a2b (hr.mono (by decide)) rfl rfl (a0a (a0l a1f (a0c (pv 1)) (a0c (pv 0))) (a0a a0f a0e)))))) a1c)
  (a0i (a0s (a0l a0n (a0l a0n (pd_meth PySem.F.slot_str_join PySem.F.type_str_join dmt_join a0r (a0a (a0c (pv 3)) a0e)) a0r) (a0m a2b (hr.mono (by decide)) rfl rfl (a0a (a0l a1f (a0c (pv 1)) (a0c (pv 0))) (a0a a0f a0e)))))))))
theorem sc__law_words : FnScope ["_law_number", "_law_some"] ["_law_number"] (defScope (top 50)) := ⟨rfl, rfl, rfl, by decide +kernel, rfl, by decide +kernel, by decide +kernel⟩
theorem d__law_words {f : Addr} {fd : FuncData} (F0 : Fun K "_law_words" "_law_words" (top 50) f fd) (hm : mg "_law_words" = some (.ref f)) (z_range : mg "range" = none) : Def P w K mg base 1 "_law_words" 1 F__law_words := by
 have S := sc__law_words
 refine a1j (N := ["_law_number", "_law_some"]) (ps := ["_law_number"]) (k := 0) (g := g__law_words) F0 S hm (F0.binds fun _ _ _ _ _ _ us hl => match us, hl with | [_], _ => rfl) fun cdv A outer s H E hr => ?_
 unfold g__law_words
 exact (a0h (a0v (i := 1) S.nd rfl (by first | exact Or.inl rfl | exact Or.inr rfl) (pd_lst (a0a a0r (a0a a0r (a0a a0r (a0a a0r (a0a a0r (a0a a0r (a0a a0r (a0a (a0l dop_mulS a0r a0f) (a0a a0r (a0a a0r a0e))))))))))))
  (a0i (a0s (pd_meth PySem.F.slot_str_join PySem.F.type_str_join dmt_join a0r (a0a (pd_compG (fr := [(1, "_law_some"), (0, "_law_number")]) (tn := ["_law_k"]) rfl rfl (by decide +kernel) (by rfl) (fun _ _ h => h) (hhas_of (by rfl)) (fr_cons rfl rfl rfl ⟨_, rfl⟩ (fr_cons rfl rfl rfl ⟨_, rfl⟩ fr_nil)) (by decide +kernel) (pdi_rng1 rfl z_range (a0a (a0l a0n a0f (a0l a1f (a0c (pv 0)) a0f)) a0e)) (fun C s3 H3 fp => (a1v (pg_name (i := 0) (show (["_law_k", "_law_some", "_law_number"] : List Str).Nodup from by decide +kernel) rfl (by first | exact Or.inl rfl | exact Or.inr rfl)))) (fun C s3 H3 fp => pdts_nil) (fun C s3 H3 fp => (a0u (a0c (pv 1)) (a0l a1f (a0l a2d (a0c (pv 2)) (a0l a0n (a0l dop_mul (a0c (pv 0)) (a0c (pv 0))) a0f)) a0f) (fun _ _ => rfl)))) a0e)))))
theorem sc__law_hand : FnScope ["_law_number"] ["_law_number"] (defScope (top 51)) := ⟨rfl, rfl, rfl, by decide +kernel, rfl, by decide +kernel, by decide +kernel⟩
theorem d__law_hand {f : Addr} {fd : FuncData} (F0 : Fun K "_law_hand" "_law_hand" (top 51) f fd) (hm : mg "_law_hand" = some (.ref f)) (z_range : mg "range" = none) : Def P w K mg base 1 "_law_hand" 1 F__law_hand := by
 have S := sc__law_hand
 refine a1j (N := ["_law_number"]) (ps := ["_law_number"]) (k := 0) (g := g__law_hand) F0 S hm (F0.binds fun _ _ _ _ _ _ us hl => match us, hl with | [_], _ => rfl) fun cdv A outer s H E hr => ?_
 unfold g__law_hand
 exact (a0i (a0s (pd_meth PySem.F.slot_str_join PySem.F.type_str_join dmt_join a0r (a0a (pd_compG (fr := [(0, "_law_number")]) (tn := ["_law_k"]) rfl rfl (by decide +kernel) (by rfl) (fun _ _ h => h) (hhas_of (by rfl)) (fr_cons rfl rfl rfl ⟨_, rfl⟩ fr_nil) (by decide +kernel) (pdi_rng1 rfl z_range (a0a (a0l a0n a0f (a0l a1f (a0c (pv 0)) a0f)) a0e)) (fun C s3 H3 fp => (a1v (pg_name (i := 0) (show (["_law_k", "_law_number"] : List Str).Nodup from by decide +kernel) rfl (by first | exact Or.inl rfl | exact Or.inr rfl)))) (fun C s3 H3 fp => pdts_nil) (fun C s3 H3 fp => (a0u a0r (a0l a1f (a0l a2d (a0c (pv 1)) (a0l a0n (a0c (pv 0)) a0f)) a0f) (fun _ _ => rfl)))) a0e))))
theorem sc__law_row : FnScope ["_law_base", "_law_cue", "_law_number", "_law_other", "_law_low", "_law_high", "_law_way"] ["_law_base", "_law_cue", "_law_number"] (defScope (top 52)) := ⟨rfl, rfl, rfl, by decide +kernel, rfl, by decide +kernel, by decide +kernel⟩
theorem d__law_row {f : Addr} {fd : FuncData} (F0 : Fun K "_law_row" "_law_row" (top 52) f fd) (hm : mg "_law_row" = some (.ref f)) (d__law_text : Def P w K mg base 2 "_law_text" 2 a2c) : Def P w K mg base 3 "_law_row" 3 F__law_row := by
 have S := sc__law_row
 refine a1j (N := ["_law_base", "_law_cue", "_law_number", "_law_other", "_law_low", "_law_high", "_law_way"]) (ps := ["_law_base", "_law_cue", "_law_number"]) (k := 2) (g := g__law_row) F0 S hm (F0.binds fun _ _ _ _ _ _ us hl => match us, hl with | [_, _, _], _ => rfl) fun cdv A outer s H E hr => ?_
 unfold g__law_row
 exact (a0h (a0v (i := 3) S.nd rfl (by first | exact Or.inl rfl | exact Or.inr rfl) a0f)
  (a0h (a1k (a1n (dop_eq hr.units) (a0c (pv 0)) a0f (nomark _)) (a0i (a0v (i := 3) S.nd rfl (by first | exact Or.inl rfl | exact Or.inr rfl) a0f)) a1c)
  (a0h (a0v (i := 4) S.nd rfl (by first | exact Or.inl rfl | exact Or.inr rfl) (a0m d__law_text (hr.mono (by decide)) rfl rfl (a0a (a0c (pv 0)) (a0a (a0u (a0c (pv 1)) a0f (fun _ _ => rfl)) a0e))))
  (a0h (a0v (i := 5) S.nd rfl (by first | exact Or.inl rfl | exact Or.inr rfl) (a0m d__law_text (hr.mono (by decide)) rfl rfl (a0a (a0c (pv 0)) (a0a (a0u (a0c (pv 1)) a0f (fun _ _ => rfl)) a0e))))
  (a0h (a0v (i := 6) S.nd rfl (by first | exact Or.inl rfl | exact Or.inr rfl) (a0l a1f (a0l a2d (a0c (pv 2)) a0f) a0f))
  (a0h (a1k (a1n dop_gt (a0l a1f (a0c (pv 2)) a0f) a0f (nomark _)) (a0i (a0s (a0l a0n (a0l a0n (a0l a0n (a0l a0n (a0l a0n (a0l a0n (a0c (pv 4)) a0r) (a0c (pv 5))) a0r) (a0u (a0c (pv 1)) a0f (fun _ _ => rfl))) a0r) (a0u (a0c (pv 1)) a0f (fun _ _ => rfl))))) a1c)
  (a0h (a1k (a1n (dop_eq hr.units) (a0c (pv 6)) a0f (nomark _)) (a0i (a0s (a0l a0n (a0l a0n (a0l a0n (a0l a0n (a0l a0n (a0l a0n (a0m d__law_text (hr.mono (by decide)) rfl rfl (a0a (a0c (pv 3)) (a0a (a0u (a0c (pv 1)) a0f (fun _ _ => rfl)) a0e))) a0r) (a0c (pv 5))) a0r) (a0u (a0c (pv 1)) a0f (fun _ _ => rfl))) a0r) (a0u (a0c (pv 1)) a0f (fun _ _ => rfl))))) a1c)
  (a0h (a1k (a1n (dop_eq hr.units) (a0c (pv 6)) a0f (nomark _)) (a0i (a0s (a0l a0n (a0l a0n (a0l a0n (a0l a0n (a0l a0n (a0l a0n (a0c (pv 4)) a0r) (a0m d__law_text (hr.mono (by decide)) rfl rfl (a0a (a0c (pv 3)) (a0a (a0u (a0c (pv 1)) a0f (fun _ _ => rfl)) a0e)))) a0r) (a0u (a0c (pv 1)) a0f (fun _ _ => rfl))) a0r) (a0u (a0c (pv 1)) a0f (fun _ _ => rfl))))) a1c)
  (a0h (a1k (a1n (dop_eq hr.units) (a0c (pv 6)) a0f (nomark _)) (a0i (a0s (a0l a0n (a0l a0n (a0l a0n (a0l a0n (a0c (pv 4)) a0r) (a0c (pv 5))) a0r) (a0u (a0c (pv 1)) a0f (fun _ _ => rfl))))) a1c)
  (a0h (a1k (a1n (dop_eq hr.units) (a0c (pv 6)) a0f (nomark _)) (a0i (a0s (a0l a0n (a0l a0n (a0l a0n (a0l a0n (a0c (pv 4)) a0r) (a0c (pv 5))) a0r) (a0u (a0c (pv 1)) a0f (fun _ _ => rfl))))) a1c)
  (a0i (a0s (a0l a0n (a0l a0n (a0l a0n (a0l a0n (a0l a0n (a0l a0n (a0l a0n (a0l a0n (a0c (pv 4)) a0r) (a0c (pv 5))) a0r) (a0u (a0c (pv 1)) a0f (fun _ _ => rfl))) a0r) (a0c (pv 4))) a0r) (a0c (pv 5)))))))))))))))
theorem sc__law_drawn : FnScope ["_law_script", "_law_base", "_law_made", "_law_last", "_law_k", "_law_cell", "_law_number", "_law_begin", "_law_end", "_law_words_here", "_law_cue", "_law_wrong"] ["_law_script", "_law_base"] (defScope (top 53)) := ⟨rfl, rfl, rfl, by decide +kernel, rfl, by decide +kernel, by decide +kernel⟩
theorem d__law_drawn {f : Addr} {fd : FuncData} (F0 : Fun K "_law_drawn" "_law_drawn" (top 53) f fd) (hm : mg "_law_drawn" = some (.ref f)) (d__law_mixed : Def P w K mg base 1 "_law_mixed" 2 a1z) (d__law_words : Def P w K mg base 1 "_law_words" 1 F__law_words) (d__law_hand : Def P w K mg base 1 "_law_hand" 1 F__law_hand) (d__law_row : Def P w K mg base 3 "_law_row" 3 F__law_row) (z_max : mg "max" = none) (z_enumerate : mg "enumerate" = none) : Def P w K mg base 4 "_law_drawn" 2 F__law_drawn := by
 have S := sc__law_drawn
 refine a1j (N := ["_law_script", "_law_base", "_law_made", "_law_last", "_law_k", "_law_cell", "_law_number", "_law_begin", "_law_end", "_law_words_here", "_law_cue", "_law_wrong"]) (ps := ["_law_script", "_law_base"]) (k := 3) (g := g__law_drawn) F0 S hm (F0.binds fun _ _ _ _ _ _ us hl => match us, hl with | [_, _], _ => rfl) fun cdv A outer s H E hr => ?_
 unfold g__law_drawn b__law_drawn_0
 exact (a0h (pd_newL (i := 2) S.nd rfl (by first | exact Or.inl rfl | exact Or.inr rfl) (pdn_lst a0e))
  (a0h (a0v (i := 3) S.nd rfl (by first | exact Or.inl rfl | exact Or.inr rfl) a0f)
  (a0h (pd_forI PassesOwn.never rfl (pdi_enum rfl z_enumerate (a0a (pd_cutS (a0c (pv 0)) (pdo_some a0f) (pdo_some a0f)) a0e)) (pdg_tup rfl (pdgs_cons (a1v (pg_name (i := 4) S.nd rfl (by first | exact Or.inl rfl | exact Or.inr rfl))) (pdgs_cons (a1v (pg_name (i := 5) S.nd rfl (by first | exact Or.inl rfl | exact Or.inr rfl))) pdgs_nil))) (a0h (a0v (i := 6) S.nd rfl (by first | exact Or.inl rfl | exact Or.inr rfl) (a0m d__law_mixed (hr.mono (by decide)) rfl rfl (a0a (a0l a0n (a0c (pv 5)) (a0c (pv 4))) (a0a a0f a0e))))
  (a0h (a0v (i := 7) S.nd rfl (by first | exact Or.inl rfl | exact Or.inr rfl) (a0l a0n (a0c (pv 3)) (a0u (pd_lst (a0a a0f (a0a (a0l a1f (a0l a2d (a0c (pv 6)) a0f) a0f) a0e))) (a0l a1f (a0c (pv 6)) a0f) (fun _ _ => rfl))))
  (a0h (a1k (a1n (dop_eq hr.units) (a0l a1f (a0l a2d (a0c (pv 6)) a0f) a0f) a0f (nomark _)) (a0i (a0v (i := 7) S.nd rfl (by first | exact Or.inl rfl | exact Or.inr rfl) (a0l dop_sub (a0c (pv 3)) a0f))) a1c)
  (a0h (a0v (i := 8) S.nd rfl (by first | exact Or.inl rfl | exact Or.inr rfl) (a0l a0n (a0l a0n (a0c (pv 7)) a0f) (a0l a1f (a0l a2d (a0c (pv 6)) a0f) a0f)))
  (a0h (a1k (a1n (dop_eq hr.units) (a0l a1f (a0l a2d (a0c (pv 6)) a0f) a0f) a0f (nomark _)) (a0i (a0v (i := 8) S.nd rfl (by first | exact Or.inl rfl | exact Or.inr rfl) (a0c (pv 7)))) a1c)
  (a0h (a0v (i := 9) S.nd rfl (by first | exact Or.inl rfl | exact Or.inr rfl) (a0m d__law_words (hr.mono (by decide)) rfl rfl (a0a (a0m d__law_mixed (hr.mono (by decide)) rfl rfl (a0a (a0c (pv 5)) (a0a a0f a0e))) a0e)))
  (a0h (a0v (i := 10) S.nd rfl (by first | exact Or.inl rfl | exact Or.inr rfl) (pd_tup (a0a (a1d (dcall_max rfl) rfl z_max PyProof.Rows.boot_max (a0a a0f (a0a (a0c (pv 7)) a0e))) (a0a (a1d (dcall_max rfl) rfl z_max PyProof.Rows.boot_max (a0a a0f (a0a (a0c (pv 8)) a0e))) (a0a (a0m d__law_hand (hr.mono (by decide)) rfl rfl (a0a (a0m d__law_mixed (hr.mono (by decide)) rfl rfl (a0a (a0c (pv 5)) (a0a a0f a0e))) a0e)) (a0a (a0c (pv 9)) a0e))))))
  (a0h (a0v (i := 11) S.nd rfl (by first | exact Or.inl rfl | exact Or.inr rfl) (pd_or (pd_cmp (dop_eq hr.units) (a0l a1f (a0c (pv 6)) a0f) a0f (nomark _)) (pd_or (pd_cmp dop_ge (a0u (a0c (pv 10)) a0f (fun _ _ => rfl)) (a0u (a0c (pv 10)) a0f (fun _ _ => rfl)) (nomark _)) (pd_one (pd_cmp dop_lt (a0u (a0c (pv 10)) a0f (fun _ _ => rfl)) (a0c (pv 3)) (nomark _))))))
  (a0h (pd_app (i := 2) (pv 2) (pd_tup (a0a (a0m d__law_row (hr.mono (by decide)) rfl rfl (a0a (a0c (pv 1)) (a0a (a0c (pv 10)) (a0a (a0c (pv 6)) a0e)))) (a0a (a0c (pv 10)) (a0a (a0c (pv 11)) a0e)))))
  (a0i (a0v (i := 3) S.nd rfl (by first | exact Or.inl rfl | exact Or.inr rfl) (a0u (a0c (pv 10)) a0f (fun _ _ => rfl))))))))))))))
  (a0i (pd_retO (pv 2))))))
theorem sc__law_told : FnScope ["_law_clock", "_law_text_here", "_law_found", "e"] ["_law_clock", "_law_text_here"] (defScope (top 54)) := ⟨rfl, rfl, rfl, by decide +kernel, rfl, by decide +kernel, by decide +kernel⟩
theorem d__law_told {f : Addr} {fd : FuncData} (F0 : Fun K "_law_told" "_law_told" (top 54) f fd) (hm : mg "_law_told" = some (.ref f)) {C_NoCue : Addr} (m_NoCue : mg "NoCue" = some (.ref C_NoCue)) (x1_NoCue : XF.excIn1 K C_NoCue XF.VE "ValueError.__new__" = true) (g1_NoCue : PySem.W.findIn K (.ref C_NoCue) "__getattribute__" = some (some (.builtin "BaseException.__getattribute__"))) (g2_NoCue : PySem.W.findIn K (.ref C_NoCue) "__getattr__" = some none) (sa_NoCue : PySem.W.findIn K (.ref C_NoCue) "__setattr__" = some (some (.builtin "object.__setattr__"))) (g7_NoCue : PySem.W.mroIn K C_NoCue (.type "BaseException") = some true) (g6_NoCue : PySem.W.mroIn K C_NoCue (.type "object") = some true) (hd_NoCue : PySem.W.hasDictIn K C_NoCue = true) (st_NoCue : ((PySem.W.clsIn K C_NoCue).any fun cd => XF.strip cd.mro == XF.VE) = true) (na_NoCue_row : PySem.W.findIn K (.ref C_NoCue) "row" = some none) (d_read_cues : DefX P w K mg base 8 "read_cues" 2 a1s) : Def P w K mg base 9 "_law_told" 2 F__law_told := by
 have S := sc__law_told
 refine a1j (N := ["_law_clock", "_law_text_here", "_law_found", "e"]) (ps := ["_law_clock", "_law_text_here"]) (k := 8) (g := g__law_told) F0 S hm (F0.binds fun _ _ _ _ _ _ us hl => match us, hl with | [_, _], _ => rfl) fun cdv A outer s H E hr => ?_
 unfold g__law_told
 exact (a0h (a0v (i := 2) S.nd rfl (by first | exact Or.inl rfl | exact Or.inr rfl) pd_non)
  (a0h (pd_try_xf (i := 3) x1_NoCue rfl rfl rfl m_NoCue S.nd rfl rfl (fun pn xe Ex hps => (a0i (a0v (i := 2) S.nd rfl (by first | exact Or.inl rfl | exact Or.inr rfl) (pd_callX d_read_cues (hr.mono (by decide)) hps (fun _ _ h => h) rfl rfl (a0a (a0c (pv 0)) (a0a (a0c (pv 1)) a0e)))))) (fun pn a oe ax od j tk hin hoe hnc hdi hin2 hlk => (a0i (a0v (i := 2) S.nd rfl (by first | exact Or.inl rfl | exact Or.inr rfl) (pd_tup (a0a a0r (a0a (pd_xat (i := 3) ⟨g1_NoCue, g2_NoCue, sa_NoCue, g7_NoCue, g6_NoCue, hd_NoCue, st_NoCue⟩ na_NoCue_row hin hoe hnc hdi hin2 hlk rfl (Or.inl rfl)) a0e)))))))
  (a0i (a0s (a0c (pv 2))))))
theorem sc__law_same : FnScope ["_law_found", "_law_cues", "_law_one"] ["_law_found", "_law_cues"] (defScope (top 55)) := ⟨rfl, rfl, rfl, by decide +kernel, rfl, by decide +kernel, by decide +kernel⟩
theorem d__law_same {f : Addr} {fd : FuncData} (F0 : Fun K "_law_same" "_law_same" (top 55) f fd) (hm : mg "_law_same" = some (.ref f)) (z_isinstance : mg "isinstance" = none) (z_list : mg "list" = none) (z_tuple : mg "tuple" = none) (z_bool : mg "bool" = none) : Def P w K mg base 1 "_law_same" 2 F__law_same := by
 have S := sc__law_same
 refine a1j (N := ["_law_found", "_law_cues", "_law_one"]) (ps := ["_law_found", "_law_cues"]) (k := 0) (g := g__law_same) F0 S hm (F0.binds fun _ _ _ _ _ _ us hl => match us, hl with | [_, _], _ => rfl) fun cdv A outer s H E hr => ?_
 unfold g__law_same b__law_same_0
 exact (a0h (a1k (PDW.t (pdw_or (pdt_not (a1r (a2o rfl (kit_list _) rfl z_isinstance rfl z_list PyProof.Rows.boot_list (a0c (pv 0))))) (pdw_or1 (a1n (dop_ne hr.units) (a0c (pv 0)) (a0c (pv 1)) (nomark _))))) (a0i (a0s pd_bl)) a1c)
  (a0h (pd_forI PassesOwn.never rfl (pdi_any (a0c (pv 0))) (a1v (pg_name (i := 2) S.nd rfl (by first | exact Or.inl rfl | exact Or.inr rfl))) (a0i (a1k (PDW.t (pdw_or (pdt_not (a1r (a2o rfl (kit_tuple _) rfl z_isinstance rfl z_tuple PyProof.Rows.boot_tuple (a0c (pv 2))))) (pdw_or (a1r (a2o rfl (kit_bool _) rfl z_isinstance rfl z_bool PyProof.Rows.boot_bool (a0u (a0c (pv 2)) a0f (fun _ _ => rfl)))) (pdw_or1 (a1r (a2o rfl (kit_bool _) rfl z_isinstance rfl z_bool PyProof.Rows.boot_bool (a0u (a0c (pv 2)) a0f (fun _ _ => rfl)))))))) (a0i (a0s pd_bl)) a1c)))
  (a0i (a0s pd_bl))))
theorem sc_law : FnScope ["_law_script", "_law_base", "_law_clock", "_law_made", "_law_text_here", "_law_cues", "_law_one", "_law_turn", "_law_found"] ["_law_script"] (defScope (top 56)) := ⟨rfl, rfl, rfl, by decide +kernel, rfl, by decide +kernel, by decide +kernel⟩
theorem fn_law {f : Addr} {fd : FuncData} (F0 : Fun K "law" "law" (top 56) f fd) {C_Thousandths : Addr} (m_Thousandths : mg "Thousandths" = some (.ref C_Thousandths)) {C_Frames : Addr} (m_Frames : mg "Frames" = some (.ref C_Frames)) (nn_Thousandths : PySem.W.nsIn K mainGlobals "Thousandths" = some (some (.ref C_Thousandths))) (mk_Thousandths : PySem.W.makesIn K C_Thousandths = true) (ii_Thousandths : PySem.W.findIn K (.ref C_Thousandths) "__init__" = some (some (.builtin "object.__init__"))) (so_Thousandths : PySem.W.subIn K (.ref C_Thousandths) (.type "object") = some true) (kc_Thousandths : PySem.W.keepIn K (.ref C_Thousandths) = true) (nn_Frames : PySem.W.nsIn K mainGlobals "Frames" = some (some (.ref C_Frames))) (d__law_cell_at : Def P w K mg base 1 "_law_cell_at" 2 F__law_cell_at) (d__law_mixed : Def P w K mg base 1 "_law_mixed" 2 a1z) (d_Frames_init : MkI P w K mg base 1 "Frames" "numbering") (d__law_drawn : Def P w K mg base 4 "_law_drawn" 2 F__law_drawn) (d__law_told : Def P w K mg base 9 "_law_told" 2 F__law_told) (d__law_same : Def P w K mg base 1 "_law_same" 2 F__law_same) (d_show_cues : Def P w K mg base 6 "show_cues" 2 F_show_cues) (z_len : mg "len" = none) (z_range : mg "range" = none) : FnOk P w K mg base CX0 10 f fd ["_law_script"] (spD K 1 F_law) := by
 have S := sc_law
 refine fn_ofD (N := ["_law_script", "_law_base", "_law_clock", "_law_made", "_law_text_here", "_law_cues", "_law_one", "_law_turn", "_law_found"]) (ps := ["_law_script"]) (k := 9) (g := g_law) F0 S fun cdv A outer s H E hr => ?_
 unfold g_law b_law_1 b_law_0
 exact (a0h (a0v (i := 1) S.nd rfl (by first | exact Or.inl rfl | exact Or.inr rfl) (a0u (pd_lst (a0a a0f (a0a a0f (a0a a0f (a0a a0f (a0a a0f (a0a a0f a0e))))))) (a0l a1f (a0m d__law_mixed (hr.mono (by decide)) rfl rfl (a0a (a0m d__law_cell_at (hr.mono (by decide)) rfl rfl (a0a (a0c (pv 0)) (a0a a0f a0e))) (a0a a0f a0e))) a0f) (fun _ _ => rfl)))
  (a0h (a0v (i := 2) S.nd rfl (by first | exact Or.inl rfl | exact Or.inr rfl) (pd_mk0 ⟨mk_Thousandths, ii_Thousandths, so_Thousandths, kc_Thousandths⟩ nn_Thousandths rfl m_Thousandths))
  (a0h (a1k (a1n dop_lt (a0c (pv 1)) a0f (nomark _)) (a0i (a0v (i := 2) S.nd rfl (by first | exact Or.inl rfl | exact Or.inr rfl) (pd_mk1 d_Frames_init (hr.mono (by decide)) rfl (a0a (pd_tup (a0a (a0c (pv 1)) (a0a a0f (a0a (a0l a0n a0f (a0l a1f (a0m d__law_cell_at (hr.mono (by decide)) rfl rfl (a0a (a0c (pv 0)) (a0a a0f a0e))) a0f)) a0e)))) a0e)))) a1c)
  (a0h (a0v (i := 3) S.nd rfl (by first | exact Or.inl rfl | exact Or.inr rfl) (a0m d__law_drawn (hr.mono (by decide)) rfl rfl (a0a (a0c (pv 0)) (a0a (a0c (pv 1)) a0e))))
  (a0h (a0v (i := 4) S.nd rfl (by first | exact Or.inl rfl | exact Or.inr rfl) (pd_meth PySem.F.slot_str_join PySem.F.type_str_join dmt_join a0r (a0a (pd_compG (fr := []) (tn := ["_law_one"]) rfl rfl (by decide +kernel) (by rfl) (fun _ _ h => h) (hhas_of (by rfl)) fr_nil (by decide +kernel) (pdi_any (a0c (pv 3))) (fun C s3 H3 fp => (a1v (pg_name (i := 0) (show (["_law_one"] : List Str).Nodup from by decide +kernel) rfl (by first | exact Or.inl rfl | exact Or.inr rfl)))) (fun C s3 H3 fp => pdts_nil) (fun C s3 H3 fp => (a0u (a0c (pv 0)) a0f (fun _ _ => rfl)))) a0e)))
  (a0h (pd_newL (i := 5) S.nd rfl (by first | exact Or.inl rfl | exact Or.inr rfl) (pdn_lst a0e))
  (a0h (pd_forI PassesOwn.never rfl (pdi_any (a0c (pv 3))) (a1v (pg_name (i := 6) S.nd rfl (by first | exact Or.inl rfl | exact Or.inr rfl))) (a0h (a1k (a1r (a0u (a0c (pv 6)) a0f (fun _ _ => rfl))) (a0i pd_break) a1c)
  (a0i (pd_app (i := 5) (pv 5) (a0u (a0c (pv 6)) a0f (fun _ _ => rfl))))))
  (pds_frz 5 (a0h (pd_forI PassesOwn.never rfl (pdi_rng1 rfl z_range (a0a a0f a0e)) (a1v (pg_name (i := 7) S.nd rfl (by first | exact Or.inl rfl | exact Or.inr rfl))) (a0h (a0v (i := 8) S.nd rfl (by first | exact Or.inl rfl | exact Or.inr rfl) (a0m d__law_told (hr.mono (by decide)) rfl rfl (a0a (a0c (pv 2)) (a0a (a0c (pv 4)) a0e))))
  (a0h (a1k (PDW.t (pdw_and (a1n dop_lt (a1d a1o rfl z_len PySem.boot_len (a0a (a0c (pv 5)) a0e)) (a1d a1o rfl z_len PySem.boot_len (a0a (a0c (pv 3)) a0e)) (nomark _)) (pdw_and1 (a1n (dop_ne hr.units) (a0c (pv 8)) (pd_tup (a0a a0r (a0a (a0l a0n (a1d a1o rfl z_len PySem.boot_len (a0a (a0c (pv 5)) a0e)) a0f) a0e))) (nomark _))))) (a0i (a0s pd_bl)) a1c)
  (a0h (a1k (PDW.t (pdw_and (a1n (dop_eq hr.units) (a1d a1o rfl z_len PySem.boot_len (a0a (a0c (pv 5)) a0e)) (a1d a1o rfl z_len PySem.boot_len (a0a (a0c (pv 3)) a0e)) (nomark _)) (pdw_and1 (PDW.t (pdw_or (pdt_not (a1r (a0m d__law_same (hr.mono (by decide)) rfl rfl (a0a (a0c (pv 8)) (a0a (a0c (pv 5)) a0e))))) (pdw_or1 (a1n (dop_ne hr.units) (a0m d_show_cues (hr.mono (by decide)) rfl rfl (a0a (a0c (pv 2)) (a0a (a0c (pv 8)) a0e))) (a0c (pv 4)) (nomark _)))))))) (a0i (a0s pd_bl)) a1c)
  (a0i (a1k (pdt_not (a1r (a0m d__law_same (hr.mono (by decide)) rfl rfl (a0a (a0m d__law_told (hr.mono (by decide)) rfl rfl (a0a (a0c (pv 2)) (a0a (pd_meth PySem.F.slot_str_join PySem.F.type_str_join dmt_join a0r (a0a (pd_compG (fr := []) (tn := ["_law_one"]) rfl rfl (by decide +kernel) (by rfl) (fun _ _ h => h) (hhas_of (by rfl)) fr_nil (by decide +kernel) (pdi_any (pd_cutS (a0c (pv 3)) pdo_none (pdo_some (a1d a1o rfl z_len PySem.boot_len (a0a (a0c (pv 5)) a0e))))) (fun C s3 H3 fp => (a1v (pg_name (i := 0) (show (["_law_one"] : List Str).Nodup from by decide +kernel) rfl (by first | exact Or.inl rfl | exact Or.inr rfl)))) (fun C s3 H3 fp => pdts_nil) (fun C s3 H3 fp => (a0u (a0c (pv 0)) a0f (fun _ _ => rfl)))) a0e)) a0e))) (a0a (a0c (pv 5)) a0e))))) (a0i (a0s pd_bl)) a1c))))))
  (a0i (a0s pd_bl)))))))))))
end
theorem all_mk {l : PySem.W.OpenLaw} {w : World} {K : PySem.W.Frag} {h : Heap} {mg : Str -> Option Value} {fa f0 f1 f2 f3 f4 f5 f6 f7 f8 f9 f10 f11 f12 f13 f14 f15 f16 f17 f18 f19 f20 f21 f22 f23 f24 f25 f26 f27 f28 f29 f30 f31 f32 f33 f34 f35 f36 f37 f38 f39 f40 f41 f42 f43 f44 f45 f46 : Addr} (X : K.In h) (G : h.Ns mainGlobals mg) (hfa : mg "law" = some (.ref fa))
  {od0 an0 od1 an1 od2 an2 od3 an3 od4 an4 od5 an5 od6 an6 od7 an7 od8 an8 od9 an9 od10 an10 od11 an11 od12 an12 od13 an13 od14 an14 od15 an15 od16 an16 od17 an17 od18 an18 od19 an19 od20 an20 od21 an21 od22 an22 od23 an23 od24 an24 od25 an25 od26 an26 od27 an27 od28 an28 od29 an29 od30 an30 od31 an31 od32 an32 od33 an33 od34 an34 od35 an35 od36 an36 od37 an37 od38 an38 od39 an39 od40 an40 od41 an41 od42 an42 od43 an43 od44 an44 od45 an45 od46 an46 : Option Addr} {sl0 sl1 sl2 sl3 sl4 sl5 sl6 sl7 sl8 sl9 sl10 sl11 sl12 sl13 sl14 sl15 sl16 sl17 sl18 sl19 sl20 sl21 sl22 sl23 sl24 sl25 sl26 sl27 sl28 sl29 sl30 sl31 sl32 sl33 sl34 sl35 sl36 sl37 sl38 sl39 sl40 sl41 sl42 sl43 sl44 sl45 sl46 : Array (Option Value)} {oc0 kV0 dc0 pm0 cd0 ct0 oc1 kV1 dc1 pm1 cd1 ct1 oc2 kV2 dc2 pm2 cd2 ct2 oc3 kV3 dc3 pm3 cd3 ct3 oc4 kV4 dc4 pm4 cd4 ct4 oc5 kV5 dc5 pm5 cd5 ct5 oc6 kV6 dc6 pm6 cd6 ct6 oc7 kV7 dc7 pm7 cd7 ct7 oc8 kV8 dc8 pm8 cd8 ct8 oc9 kV9 dc9 pm9 cd9 ct9 oc10 kV10 dc10 pm10 cd10 ct10 oc11 kV11 dc11 pm11 cd11 ct11 oc12 kV12 dc12 pm12 cd12 ct12 oc13 kV13 dc13 pm13 cd13 ct13 oc14 kV14 dc14 pm14 cd14 ct14 oc15 kV15 dc15 pm15 cd15 ct15 oc16 kV16 dc16 pm16 cd16 ct16 oc17 kV17 dc17 pm17 cd17 ct17 oc18 kV18 dc18 pm18 cd18 ct18 oc19 kV19 dc19 pm19 cd19 ct19 oc20 kV20 dc20 pm20 cd20 ct20 oc21 kV21 dc21 pm21 cd21 ct21 oc22 kV22 dc22 pm22 cd22 ct22 oc23 kV23 dc23 pm23 cd23 ct23 oc24 kV24 dc24 pm24 cd24 ct24 oc25 kV25 dc25 pm25 cd25 ct25 oc26 kV26 dc26 pm26 cd26 ct26 oc27 kV27 dc27 pm27 cd27 ct27 oc28 kV28 dc28 pm28 cd28 ct28 oc29 kV29 dc29 pm29 cd29 ct29 oc30 kV30 dc30 pm30 cd30 ct30 oc31 kV31 dc31 pm31 cd31 ct31 oc32 kV32 dc32 pm32 cd32 ct32 oc33 kV33 dc33 pm33 cd33 ct33 oc34 kV34 dc34 pm34 cd34 ct34 oc35 kV35 dc35 pm35 cd35 ct35 oc36 kV36 dc36 pm36 cd36 ct36 oc37 kV37 dc37 pm37 cd37 ct37 oc38 kV38 dc38 pm38 cd38 ct38 oc39 kV39 dc39 pm39 cd39 ct39 oc40 kV40 dc40 pm40 cd40 ct40 oc41 kV41 dc41 pm41 cd41 ct41 oc42 kV42 dc42 pm42 cd42 ct42 oc43 kV43 dc43 pm43 cd43 ct43 oc44 kV44 dc44 pm44 cd44 ct44 oc45 kV45 dc45 pm45 cd45 ct45 oc46 kV46 dc46 pm46 cd46 ct46 : Value}
  (a0 : PySem.W.nsIn K mainGlobals "show_parts" = some (some (.ref f0))) (l0 : K.lookup f0 = some ⟨oc0, od0, .func (PySem.W.fnOf "show_parts" "show_parts" (defArgs (top 36)) (defBody (top 36)) (defScope (top 36)) .none kV0 dc0 pm0 an0 cd0 ct0), sl0⟩) (c0 : PySem.W.codeIn K cd0 "show_parts" = true) (k0 : PySem.W.keepIn K (.ref f0) = true)
  (a1 : PySem.W.nsIn K mainGlobals "show_moment" = some (some (.ref f1))) (l1 : K.lookup f1 = some ⟨oc1, od1, .func (PySem.W.fnOf "show_moment" "show_moment" (defArgs (top 30)) (defBody (top 30)) (defScope (top 30)) .none kV1 dc1 pm1 an1 cd1 ct1), sl1⟩) (c1 : PySem.W.codeIn K cd1 "show_moment" = true) (k1 : PySem.W.keepIn K (.ref f1) = true)
  (a3 : PySem.W.nsIn K mainGlobals "are_figures" = some (some (.ref f3))) (l3 : K.lookup f3 = some ⟨oc3, od3, .func (PySem.W.fnOf "are_figures" "are_figures" (defArgs (top 13)) (defBody (top 13)) (defScope (top 13)) .none kV3 dc3 pm3 an3 cd3 ct3), sl3⟩) (c3 : PySem.W.codeIn K cd3 "are_figures" = true) (k3 : PySem.W.keepIn K (.ref f3) = true)
  (a4 : PySem.W.nsIn K mainGlobals "has_figures" = some (some (.ref f4))) (l4 : K.lookup f4 = some ⟨oc4, od4, .func (PySem.W.fnOf "has_figures" "has_figures" (defArgs (top 40)) (defBody (top 40)) (defScope (top 40)) .none kV4 dc4 pm4 an4 cd4 ct4), sl4⟩) (c4 : PySem.W.codeIn K cd4 "has_figures" = true) (k4 : PySem.W.keepIn K (.ref f4) = true)
  (a5 : PySem.W.nsIn K mainGlobals "are_hours" = some (some (.ref f5))) (l5 : K.lookup f5 = some ⟨oc5, od5, .func (PySem.W.fnOf "are_hours" "are_hours" (defArgs (top 38)) (defBody (top 38)) (defScope (top 38)) .none kV5 dc5 pm5 an5 cd5 ct5), sl5⟩) (c5 : PySem.W.codeIn K cd5 "are_hours" = true) (k5 : PySem.W.keepIn K (.ref f5) = true)
  (a6 : PySem.W.nsIn K mainGlobals "are_sixtieths" = some (some (.ref f6))) (l6 : K.lookup f6 = some ⟨oc6, od6, .func (PySem.W.fnOf "are_sixtieths" "are_sixtieths" (defArgs (top 39)) (defBody (top 39)) (defScope (top 39)) .none kV6 dc6 pm6 an6 cd6 ct6), sl6⟩) (c6 : PySem.W.codeIn K cd6 "are_sixtieths" = true) (k6 : PySem.W.keepIn K (.ref f6) = true)
  (a7 : PySem.W.nsIn K mainGlobals "read_parts" = some (some (.ref f7))) (l7 : K.lookup f7 = some ⟨oc7, od7, .func (PySem.W.fnOf "read_parts" "read_parts" (defArgs (top 37)) (defBody (top 37)) (defScope (top 37)) .none kV7 dc7 pm7 an7 cd7 ct7), sl7⟩) (c7 : PySem.W.codeIn K cd7 "read_parts" = true) (k7 : PySem.W.keepIn K (.ref f7) = true)
  (a8 : PySem.W.nsIn K mainGlobals "read_moment" = some (some (.ref f8))) (l8 : K.lookup f8 = some ⟨oc8, od8, .func (PySem.W.fnOf "read_moment" "read_moment" (defArgs (top 31)) (defBody (top 31)) (defScope (top 31)) .none kV8 dc8 pm8 an8 cd8 ct8), sl8⟩) (c8 : PySem.W.codeIn K cd8 "read_moment" = true) (k8 : PySem.W.keepIn K (.ref f8) = true)
  (a11 : PySem.W.nsIn K mainGlobals "gaps_before_frame" = some (some (.ref f11))) (l11 : K.lookup f11 = some ⟨oc11, od11, .func (PySem.W.fnOf "gaps_before_frame" "gaps_before_frame" (defArgs (top 28)) (defBody (top 28)) (defScope (top 28)) .none kV11 dc11 pm11 an11 cd11 ct11), sl11⟩) (c11 : PySem.W.codeIn K cd11 "gaps_before_frame" = true) (k11 : PySem.W.keepIn K (.ref f11) = true)
  (a12 : PySem.W.nsIn K mainGlobals "label_of" = some (some (.ref f12))) (l12 : K.lookup f12 = some ⟨oc12, od12, .func (PySem.W.fnOf "label_of" "label_of" (defArgs (top 23)) (defBody (top 23)) (defScope (top 23)) .none kV12 dc12 pm12 an12 cd12 ct12), sl12⟩) (c12 : PySem.W.codeIn K cd12 "label_of" = true) (k12 : PySem.W.keepIn K (.ref f12) = true)
  (a13 : PySem.W.nsIn K mainGlobals "frame_sign" = some (some (.ref f13))) (l13 : K.lookup f13 = some ⟨oc13, od13, .func (PySem.W.fnOf "frame_sign" "frame_sign" (defArgs (top 34)) (defBody (top 34)) (defScope (top 34)) .none kV13 dc13 pm13 an13 cd13 ct13), sl13⟩) (c13 : PySem.W.codeIn K cd13 "frame_sign" = true) (k13 : PySem.W.keepIn K (.ref f13) = true)
  (a14 : PySem.W.nsIn K mainGlobals "frame_figures" = some (some (.ref f14))) (l14 : K.lookup f14 = some ⟨oc14, od14, .func (PySem.W.fnOf "frame_figures" "frame_figures" (defArgs (top 35)) (defBody (top 35)) (defScope (top 35)) .none kV14 dc14 pm14 an14 cd14 ct14), sl14⟩) (c14 : PySem.W.codeIn K cd14 "frame_figures" = true) (k14 : PySem.W.keepIn K (.ref f14) = true)
  (a15 : PySem.W.nsIn K mainGlobals "show_frame" = some (some (.ref f15))) (l15 : K.lookup f15 = some ⟨oc15, od15, .func (PySem.W.fnOf "show_frame" "show_frame" (defArgs (top 32)) (defBody (top 32)) (defScope (top 32)) .none kV15 dc15 pm15 an15 cd15 ct15), sl15⟩) (c15 : PySem.W.codeIn K cd15 "show_frame" = true) (k15 : PySem.W.keepIn K (.ref f15) = true)
  (a17 : PySem.W.nsIn K mainGlobals "is_whole" = some (some (.ref f17))) (l17 : K.lookup f17 = some ⟨oc17, od17, .func (PySem.W.fnOf "is_whole" "is_whole" (defArgs (top 8)) (defBody (top 8)) (defScope (top 8)) .none kV17 dc17 pm17 an17 cd17 ct17), sl17⟩) (c17 : PySem.W.codeIn K cd17 "is_whole" = true) (k17 : PySem.W.keepIn K (.ref f17) = true)
  (a18 : PySem.W.nsIn K mainGlobals "has_form" = some (some (.ref f18))) (l18 : K.lookup f18 = some ⟨oc18, od18, .func (PySem.W.fnOf "has_form" "has_form" (defArgs (top 25)) (defBody (top 25)) (defScope (top 25)) .none kV18 dc18 pm18 an18 cd18 ct18), sl18⟩) (c18 : PySem.W.codeIn K cd18 "has_form" = true) (k18 : PySem.W.keepIn K (.ref f18) = true)
  (a19 : PySem.W.nsIn K mainGlobals "minute_of" = some (some (.ref f19))) (l19 : K.lookup f19 = some ⟨oc19, od19, .func (PySem.W.fnOf "minute_of" "minute_of" (defArgs (top 27)) (defBody (top 27)) (defScope (top 27)) .none kV19 dc19 pm19 an19 cd19 ct19), sl19⟩) (c19 : PySem.W.codeIn K cd19 "minute_of" = true) (k19 : PySem.W.keepIn K (.ref f19) = true)
  (a20 : PySem.W.nsIn K mainGlobals "is_left_out" = some (some (.ref f20))) (l20 : K.lookup f20 = some ⟨oc20, od20, .func (PySem.W.fnOf "is_left_out" "is_left_out" (defArgs (top 26)) (defBody (top 26)) (defScope (top 26)) .none kV20 dc20 pm20 an20 cd20 ct20), sl20⟩) (c20 : PySem.W.codeIn K cd20 "is_left_out" = true) (k20 : PySem.W.keepIn K (.ref f20) = true)
  (a21 : PySem.W.nsIn K mainGlobals "is_label" = some (some (.ref f21))) (l21 : K.lookup f21 = some ⟨oc21, od21, .func (PySem.W.fnOf "is_label" "is_label" (defArgs (top 22)) (defBody (top 22)) (defScope (top 22)) .none kV21 dc21 pm21 an21 cd21 ct21), sl21⟩) (c21 : PySem.W.codeIn K cd21 "is_label" = true) (k21 : PySem.W.keepIn K (.ref f21) = true)
  (a22 : PySem.W.nsIn K mainGlobals "frame_of" = some (some (.ref f22))) (l22 : K.lookup f22 = some ⟨oc22, od22, .func (PySem.W.fnOf "frame_of" "frame_of" (defArgs (top 24)) (defBody (top 24)) (defScope (top 24)) .none kV22 dc22 pm22 an22 cd22 ct22), sl22⟩) (c22 : PySem.W.codeIn K cd22 "frame_of" = true) (k22 : PySem.W.keepIn K (.ref f22) = true)
  (a23 : PySem.W.nsIn K mainGlobals "read_frame" = some (some (.ref f23))) (l23 : K.lookup f23 = some ⟨oc23, od23, .func (PySem.W.fnOf "read_frame" "read_frame" (defArgs (top 33)) (defBody (top 33)) (defScope (top 33)) .none kV23 dc23 pm23 an23 cd23 ct23), sl23⟩) (c23 : PySem.W.codeIn K cd23 "read_frame" = true) (k23 : PySem.W.keepIn K (.ref f23) = true)
  (a26 : PySem.W.nsIn K mainGlobals "is_name" = some (some (.ref f26))) (l26 : K.lookup f26 = some ⟨oc26, od26, .func (PySem.W.fnOf "is_name" "is_name" (defArgs (top 9)) (defBody (top 9)) (defScope (top 9)) .none kV26 dc26 pm26 an26 cd26 ct26), sl26⟩) (c26 : PySem.W.codeIn K cd26 "is_name" = true) (k26 : PySem.W.keepIn K (.ref f26) = true)
  (a27 : PySem.W.nsIn K mainGlobals "is_word_sign" = some (some (.ref f27))) (l27 : K.lookup f27 = some ⟨oc27, od27, .func (PySem.W.fnOf "is_word_sign" "is_word_sign" (defArgs (top 12)) (defBody (top 12)) (defScope (top 12)) .none kV27 dc27 pm27 an27 cd27 ct27), sl27⟩) (c27 : PySem.W.codeIn K cd27 "is_word_sign" = true) (k27 : PySem.W.keepIn K (.ref f27) = true)
  (a28 : PySem.W.nsIn K mainGlobals "is_word" = some (some (.ref f28))) (l28 : K.lookup f28 = some ⟨oc28, od28, .func (PySem.W.fnOf "is_word" "is_word" (defArgs (top 11)) (defBody (top 11)) (defScope (top 11)) .none kV28 dc28 pm28 an28 cd28 ct28), sl28⟩) (c28 : PySem.W.codeIn K cd28 "is_word" = true) (k28 : PySem.W.keepIn K (.ref f28) = true)
  (a29 : PySem.W.nsIn K mainGlobals "are_words" = some (some (.ref f29))) (l29 : K.lookup f29 = some ⟨oc29, od29, .func (PySem.W.fnOf "are_words" "are_words" (defArgs (top 10)) (defBody (top 10)) (defScope (top 10)) .none kV29 dc29 pm29 an29 cd29 ct29), sl29⟩) (c29 : PySem.W.codeIn K cd29 "are_words" = true) (k29 : PySem.W.keepIn K (.ref f29) = true)
  (a30 : PySem.W.nsIn K mainGlobals "is_cue" = some (some (.ref f30))) (l30 : K.lookup f30 = some ⟨oc30, od30, .func (PySem.W.fnOf "is_cue" "is_cue" (defArgs (top 15)) (defBody (top 15)) (defScope (top 15)) .none kV30 dc30 pm30 an30 cd30 ct30), sl30⟩) (c30 : PySem.W.codeIn K cd30 "is_cue" = true) (k30 : PySem.W.keepIn K (.ref f30) = true)
  (a31 : PySem.W.nsIn K mainGlobals "show_row" = some (some (.ref f31))) (l31 : K.lookup f31 = some ⟨oc31, od31, .func (PySem.W.fnOf "show_row" "show_row" (defArgs (top 17)) (defBody (top 17)) (defScope (top 17)) .none kV31 dc31 pm31 an31 cd31 ct31), sl31⟩) (c31 : PySem.W.codeIn K cd31 "show_row" = true) (k31 : PySem.W.keepIn K (.ref f31) = true)
  (a32 : PySem.W.nsIn K mainGlobals "show_cues" = some (some (.ref f32))) (l32 : K.lookup f32 = some ⟨oc32, od32, .func (PySem.W.fnOf "show_cues" "show_cues" (defArgs (top 16)) (defBody (top 16)) (defScope (top 16)) .none kV32 dc32 pm32 an32 cd32 ct32), sl32⟩) (c32 : PySem.W.codeIn K cd32 "show_cues" = true) (k32 : PySem.W.keepIn K (.ref f32) = true)
  (a33 : PySem.W.nsIn K mainGlobals "read_row" = some (some (.ref f33))) (l33 : K.lookup f33 = some ⟨oc33, od33, .func (PySem.W.fnOf "read_row" "read_row" (defArgs (top 20)) (defBody (top 20)) (defScope (top 20)) .none kV33 dc33 pm33 an33 cd33 ct33), sl33⟩) (c33 : PySem.W.codeIn K cd33 "read_row" = true) (k33 : PySem.W.keepIn K (.ref f33) = true)
  (a34 : PySem.W.nsIn K mainGlobals "rows_of" = some (some (.ref f34))) (l34 : K.lookup f34 = some ⟨oc34, od34, .func (PySem.W.fnOf "rows_of" "rows_of" (defArgs (top 19)) (defBody (top 19)) (defScope (top 19)) .none kV34 dc34 pm34 an34 cd34 ct34), sl34⟩) (c34 : PySem.W.codeIn K cd34 "rows_of" = true) (k34 : PySem.W.keepIn K (.ref f34) = true)
  (a35 : PySem.W.nsIn K mainGlobals "read_cues" = some (some (.ref f35))) (l35 : K.lookup f35 = some ⟨oc35, od35, .func (PySem.W.fnOf "read_cues" "read_cues" (defArgs (top 18)) (defBody (top 18)) (defScope (top 18)) .none kV35 dc35 pm35 an35 cd35 ct35), sl35⟩) (c35 : PySem.W.codeIn K cd35 "read_cues" = true) (k35 : PySem.W.keepIn K (.ref f35) = true)
  (a36 : PySem.W.nsIn K mainGlobals "_law_cell_at" = some (some (.ref f36))) (l36 : K.lookup f36 = some ⟨oc36, od36, .func (PySem.W.fnOf "_law_cell_at" "_law_cell_at" (defArgs (top 46)) (defBody (top 46)) (defScope (top 46)) .none kV36 dc36 pm36 an36 cd36 ct36), sl36⟩) (c36 : PySem.W.codeIn K cd36 "_law_cell_at" = true) (k36 : PySem.W.keepIn K (.ref f36) = true)
  (a37 : PySem.W.nsIn K mainGlobals "_law_mixed" = some (some (.ref f37))) (l37 : K.lookup f37 = some ⟨oc37, od37, .func (PySem.W.fnOf "_law_mixed" "_law_mixed" (defArgs (top 47)) (defBody (top 47)) (defScope (top 47)) .none kV37 dc37 pm37 an37 cd37 ct37), sl37⟩) (c37 : PySem.W.codeIn K cd37 "_law_mixed" = true) (k37 : PySem.W.keepIn K (.ref f37) = true)
  (a38 : PySem.W.nsIn K mainGlobals "_law_figures" = some (some (.ref f38))) (l38 : K.lookup f38 = some ⟨oc38, od38, .func (PySem.W.fnOf "_law_figures" "_law_figures" (defArgs (top 48)) (defBody (top 48)) (defScope (top 48)) .none kV38 dc38 pm38 an38 cd38 ct38), sl38⟩) (c38 : PySem.W.codeIn K cd38 "_law_figures" = true) (k38 : PySem.W.keepIn K (.ref f38) = true)
  (a39 : PySem.W.nsIn K mainGlobals "_law_text" = some (some (.ref f39))) (l39 : K.lookup f39 = some ⟨oc39, od39, .func (PySem.W.fnOf "_law_text" "_law_text" (defArgs (top 49)) (defBody (top 49)) (defScope (top 49)) .none kV39 dc39 pm39 an39 cd39 ct39), sl39⟩) (c39 : PySem.W.codeIn K cd39 "_law_text" = true) (k39 : PySem.W.keepIn K (.ref f39) = true)
  (a40 : PySem.W.nsIn K mainGlobals "_law_words" = some (some (.ref f40))) (l40 : K.lookup f40 = some ⟨oc40, od40, .func (PySem.W.fnOf "_law_words" "_law_words" (defArgs (top 50)) (defBody (top 50)) (defScope (top 50)) .none kV40 dc40 pm40 an40 cd40 ct40), sl40⟩) (c40 : PySem.W.codeIn K cd40 "_law_words" = true) (k40 : PySem.W.keepIn K (.ref f40) = true)
  (a41 : PySem.W.nsIn K mainGlobals "_law_hand" = some (some (.ref f41))) (l41 : K.lookup f41 = some ⟨oc41, od41, .func (PySem.W.fnOf "_law_hand" "_law_hand" (defArgs (top 51)) (defBody (top 51)) (defScope (top 51)) .none kV41 dc41 pm41 an41 cd41 ct41), sl41⟩) (c41 : PySem.W.codeIn K cd41 "_law_hand" = true) (k41 : PySem.W.keepIn K (.ref f41) = true)
  (a42 : PySem.W.nsIn K mainGlobals "_law_row" = some (some (.ref f42))) (l42 : K.lookup f42 = some ⟨oc42, od42, .func (PySem.W.fnOf "_law_row" "_law_row" (defArgs (top 52)) (defBody (top 52)) (defScope (top 52)) .none kV42 dc42 pm42 an42 cd42 ct42), sl42⟩) (c42 : PySem.W.codeIn K cd42 "_law_row" = true) (k42 : PySem.W.keepIn K (.ref f42) = true)
  (a43 : PySem.W.nsIn K mainGlobals "_law_drawn" = some (some (.ref f43))) (l43 : K.lookup f43 = some ⟨oc43, od43, .func (PySem.W.fnOf "_law_drawn" "_law_drawn" (defArgs (top 53)) (defBody (top 53)) (defScope (top 53)) .none kV43 dc43 pm43 an43 cd43 ct43), sl43⟩) (c43 : PySem.W.codeIn K cd43 "_law_drawn" = true) (k43 : PySem.W.keepIn K (.ref f43) = true)
  (a44 : PySem.W.nsIn K mainGlobals "_law_told" = some (some (.ref f44))) (l44 : K.lookup f44 = some ⟨oc44, od44, .func (PySem.W.fnOf "_law_told" "_law_told" (defArgs (top 54)) (defBody (top 54)) (defScope (top 54)) .none kV44 dc44 pm44 an44 cd44 ct44), sl44⟩) (c44 : PySem.W.codeIn K cd44 "_law_told" = true) (k44 : PySem.W.keepIn K (.ref f44) = true)
  (a45 : PySem.W.nsIn K mainGlobals "_law_same" = some (some (.ref f45))) (l45 : K.lookup f45 = some ⟨oc45, od45, .func (PySem.W.fnOf "_law_same" "_law_same" (defArgs (top 55)) (defBody (top 55)) (defScope (top 55)) .none kV45 dc45 pm45 an45 cd45 ct45), sl45⟩) (c45 : PySem.W.codeIn K cd45 "_law_same" = true) (k45 : PySem.W.keepIn K (.ref f45) = true)
  (a46 : PySem.W.nsIn K mainGlobals "law" = some (some (.ref f46))) (l46 : K.lookup f46 = some ⟨oc46, od46, .func (PySem.W.fnOf "law" "law" (defArgs (top 56)) (defBody (top 56)) (defScope (top 56)) .none kV46 dc46 pm46 an46 cd46 ct46), sl46⟩) (c46 : PySem.W.codeIn K cd46 "law" = true) (k46 : PySem.W.keepIn K (.ref f46) = true)
  (z_str : PySem.W.nsIn K mainGlobals "str" = some none)
  (z_all : PySem.W.nsIn K mainGlobals "all" = some none)
  (z_len : PySem.W.nsIn K mainGlobals "len" = some none)
  (z_int : PySem.W.nsIn K mainGlobals "int" = some none)
  (z_isinstance : PySem.W.nsIn K mainGlobals "isinstance" = some none)
  (z_max : PySem.W.nsIn K mainGlobals "max" = some none)
  (z_bool : PySem.W.nsIn K mainGlobals "bool" = some none)
  (z_tuple : PySem.W.nsIn K mainGlobals "tuple" = some none)
  (z_ord : PySem.W.nsIn K mainGlobals "ord" = some none)
  (z_enumerate : PySem.W.nsIn K mainGlobals "enumerate" = some none)
  (z_range : PySem.W.nsIn K mainGlobals "range" = some none)
  (z_list : PySem.W.nsIn K mainGlobals "list" = some none)
  {C_Thousandths : Addr} (n_Thousandths : PySem.W.nsIn K mainGlobals "Thousandths" = some (some (.ref C_Thousandths)))
  {C_NoTime : Addr} (n_NoTime : PySem.W.nsIn K mainGlobals "NoTime" = some (some (.ref C_NoTime)))
  {C_Frames : Addr} (n_Frames : PySem.W.nsIn K mainGlobals "Frames" = some (some (.ref C_Frames)))
  {C_NoCue : Addr} (n_NoCue : PySem.W.nsIn K mainGlobals "NoCue" = some (some (.ref C_NoCue)))
  {C_CueError : Addr} (n_CueError : PySem.W.nsIn K mainGlobals "CueError" = some (some (.ref C_CueError)))
  (a2 : PySem.W.findIn K (.ref C_Thousandths) "show" = some (some (.ref f2))) (l2 : K.lookup f2 = some ⟨oc2, od2, .func (PySem.W.fnOf "show" "Thousandths.show" (defArgs (mth (top 43) 0)) (defBody (mth (top 43) 0)) (defScope (mth (top 43) 0)) .none kV2 dc2 pm2 an2 cd2 ct2), sl2⟩) (c2 : PySem.W.codeIn K cd2 "Thousandths.show" = true) (k2 : PySem.W.keepIn K (.ref f2) = true) (i2 : PySem.W.isFn K (.ref f2) = true)
  (a9 : PySem.W.findIn K (.ref C_Thousandths) "read" = some (some (.ref f9))) (l9 : K.lookup f9 = some ⟨oc9, od9, .func (PySem.W.fnOf "read" "Thousandths.read" (defArgs (mth (top 43) 1)) (defBody (mth (top 43) 1)) (defScope (mth (top 43) 1)) .none kV9 dc9 pm9 an9 cd9 ct9), sl9⟩) (c9 : PySem.W.codeIn K cd9 "Thousandths.read" = true) (k9 : PySem.W.keepIn K (.ref f9) = true) (i9 : PySem.W.isFn K (.ref f9) = true)
  (a10 : PySem.W.findIn K (.ref C_Frames) "__init__" = some (some (.ref f10))) (l10 : K.lookup f10 = some ⟨oc10, od10, .func (PySem.W.fnOf "__init__" "Frames.__init__" (defArgs (mth (top 44) 0)) (defBody (mth (top 44) 0)) (defScope (mth (top 44) 0)) .none kV10 dc10 pm10 an10 cd10 ct10), sl10⟩) (c10 : PySem.W.codeIn K cd10 "Frames.__init__" = true) (k10 : PySem.W.keepIn K (.ref f10) = true) (i10 : PySem.W.isFn K (.ref f10) = true)
  (mk10 : PySem.W.makesIn K C_Frames = true) (kc10 : PySem.W.keepIn K (.ref C_Frames) = true)
  (a16 : PySem.W.findIn K (.ref C_Frames) "show" = some (some (.ref f16))) (l16 : K.lookup f16 = some ⟨oc16, od16, .func (PySem.W.fnOf "show" "Frames.show" (defArgs (mth (top 44) 1)) (defBody (mth (top 44) 1)) (defScope (mth (top 44) 1)) .none kV16 dc16 pm16 an16 cd16 ct16), sl16⟩) (c16 : PySem.W.codeIn K cd16 "Frames.show" = true) (k16 : PySem.W.keepIn K (.ref f16) = true) (i16 : PySem.W.isFn K (.ref f16) = true)
  (a24 : PySem.W.findIn K (.ref C_Frames) "read" = some (some (.ref f24))) (l24 : K.lookup f24 = some ⟨oc24, od24, .func (PySem.W.fnOf "read" "Frames.read" (defArgs (mth (top 44) 2)) (defBody (mth (top 44) 2)) (defScope (mth (top 44) 2)) .none kV24 dc24 pm24 an24 cd24 ct24), sl24⟩) (c24 : PySem.W.codeIn K cd24 "Frames.read" = true) (k24 : PySem.W.keepIn K (.ref f24) = true) (i24 : PySem.W.isFn K (.ref f24) = true)
  (a25 : PySem.W.findIn K (.ref C_NoCue) "__init__" = some (some (.ref f25))) (l25 : K.lookup f25 = some ⟨oc25, od25, .func (PySem.W.fnOf "__init__" "NoCue.__init__" (defArgs (mth (top 4) 0)) (defBody (mth (top 4) 0)) (defScope (mth (top 4) 0)) .none kV25 dc25 pm25 an25 cd25 ct25), sl25⟩) (c25 : PySem.W.codeIn K cd25 "NoCue.__init__" = true) (k25 : PySem.W.keepIn K (.ref f25) = true) (i25 : PySem.W.isFn K (.ref f25) = true)
  (kc25 : PySem.W.keepIn K (.ref C_NoCue) = true)
  {t_FIGURES : Tok} (n_FIGURES : PySem.W.nsIn K mainGlobals "FIGURES" = some (some (.str "0123456789" t_FIGURES)))
  {t_PERCENT : Tok} (n_PERCENT : PySem.W.nsIn K mainGlobals "PERCENT" = some (some (.int 37 t_PERCENT)))
  (nn_Thousandths : PySem.W.nsIn K mainGlobals "Thousandths" = some (some (.ref C_Thousandths)))
  (pg_Thousandths : PySem.W.plainGet K C_Thousandths Str.empty = true)
  (hd_Thousandths : PySem.W.hasDictIn K C_Thousandths = true)
  (po_Thousandths : PySem.W.plainOver K C_Thousandths = true)
  (sa_Thousandths : PySem.W.findIn K (.ref C_Thousandths) "__setattr__" = some (some (.builtin "object.__setattr__")))
  (x_NoTime : PySem.W.excIn K C_NoTime [.type "ValueError", .type "Exception", .type "BaseException", .type "object"] "ValueError.__new__" = true)
  (nn_Frames : PySem.W.nsIn K mainGlobals "Frames" = some (some (.ref C_Frames)))
  (pg_Frames : PySem.W.plainGet K C_Frames Str.empty = true)
  (hd_Frames : PySem.W.hasDictIn K C_Frames = true)
  (po_Frames : PySem.W.plainOver K C_Frames = true)
  (sa_Frames : PySem.W.findIn K (.ref C_Frames) "__setattr__" = some (some (.builtin "object.__setattr__")))
  (na_Frames_numbering : PySem.W.findIn K (.ref C_Frames) "numbering" = some none)
  (x1_NoCue : XF.excIn1 K C_NoCue XF.VE "ValueError.__new__" = true)
  (g1_NoCue : PySem.W.findIn K (.ref C_NoCue) "__getattribute__" = some (some (.builtin "BaseException.__getattribute__")))
  (g2_NoCue : PySem.W.findIn K (.ref C_NoCue) "__getattr__" = some none)
  (sa_NoCue : PySem.W.findIn K (.ref C_NoCue) "__setattr__" = some (some (.builtin "object.__setattr__")))
  (g7_NoCue : PySem.W.mroIn K C_NoCue (.type "BaseException") = some true)
  (g6_NoCue : PySem.W.mroIn K C_NoCue (.type "object") = some true)
  (hd_NoCue : PySem.W.hasDictIn K C_NoCue = true)
  (st_NoCue : ((PySem.W.clsIn K C_NoCue).any fun cd => XF.strip cd.mro == XF.VE) = true)
  (na_NoCue_row : PySem.W.findIn K (.ref C_NoCue) "row" = some none)
  (rd_CueError : PySem.W.readsIn K C_CueError (.type "type") = true)
  (sp_CueError : PySem.W.specialIn K (.ref C_CueError) "__getattribute__" = some (some (.builtin "type.__getattribute__")))
  (fd_CueError : PySem.W.findCls K (.ref C_CueError) (.type "type") "__init__" = some (.val (.builtin "ValueError.__init__")))
  (x1_NoTime : XF.excIn1 K C_NoTime XF.VE "ValueError.__new__" = true)
  (mk_Thousandths : PySem.W.makesIn K C_Thousandths = true)
  (ii_Thousandths : PySem.W.findIn K (.ref C_Thousandths) "__init__" = some (some (.builtin "object.__init__")))
  (so_Thousandths : PySem.W.subIn K (.ref C_Thousandths) (.type "object") = some true)
  (kc_Thousandths : PySem.W.keepIn K (.ref C_Thousandths) = true) :
  ∃ fd : FuncData, (∀ (s : Shared) (v : Value), BindsTo s fd ⟨[v], []⟩ [("_law_script", v)]) /\ ∀ base : Heap, K.In base -> base.Ns mainGlobals mg -> FnOk l.prog w K mg base CX0 10 fa fd ["_law_script"] (spD K 1 F_law) := by
 have e := hfa.symm.trans (PySem.W.mg_of X G a46)
 cases e
 have zz_str := PySem.W.mg_none_of X G z_str
 have zz_all := PySem.W.mg_none_of X G z_all
 have zz_len := PySem.W.mg_none_of X G z_len
 have zz_int := PySem.W.mg_none_of X G z_int
 have zz_isinstance := PySem.W.mg_none_of X G z_isinstance
 have zz_max := PySem.W.mg_none_of X G z_max
 have zz_bool := PySem.W.mg_none_of X G z_bool
 have zz_tuple := PySem.W.mg_none_of X G z_tuple
 have zz_ord := PySem.W.mg_none_of X G z_ord
 have zz_enumerate := PySem.W.mg_none_of X G z_enumerate
 have zz_range := PySem.W.mg_none_of X G z_range
 have zz_list := PySem.W.mg_none_of X G z_list
 refine ⟨PySem.W.fnOf "law" "law" (defArgs (top 56)) (defBody (top 56)) (defScope (top 56)) .none kV46 dc46 pm46 an46 cd46 ct46, fun s v => .of_eq rfl, fun base _ _ => ?_⟩
 have m_Thousandths := PySem.W.mg_of X G n_Thousandths
 have m_NoTime := PySem.W.mg_of X G n_NoTime
 have m_Frames := PySem.W.mg_of X G n_Frames
 have m_NoCue := PySem.W.mg_of X G n_NoCue
 have m_CueError := PySem.W.mg_of X G n_CueError
 have m_FIGURES := PySem.W.mg_of X G n_FIGURES
 have m_PERCENT := PySem.W.mg_of X G n_PERCENT
 have D0 : Def l.prog w K mg base 1 "show_parts" 3 F_show_parts := d_show_parts (a1b l0 c0 k0) (PySem.W.mg_of X G a0) zz_str
 have D1 : Def l.prog w K mg base 2 "show_moment" 1 F_show_moment := d_show_moment (a1b l1 c1 k1) (PySem.W.mg_of X G a1) D0
 have D2 : DefM l.prog w K mg base 3 "Thousandths" "show" 2 a1l := d_Thousandths_show (a1b l2 c2 k2) m_Thousandths nn_Thousandths pg_Thousandths hd_Thousandths po_Thousandths sa_Thousandths D1 a2 i2
 have D3 : Def l.prog w K mg base 1 "are_figures" 1 a2n := d_are_figures (a1b l3 c3 k3) (PySem.W.mg_of X G a3) m_FIGURES zz_all
 have D4 : Def l.prog w K mg base 2 "has_figures" 2 a1q := a2m (a1b l4 c4 k4) (PySem.W.mg_of X G a4) D3 zz_len
 have D5 : Def l.prog w K mg base 3 "are_hours" 1 F_are_hours := d_are_hours (a1b l5 c5 k5) (PySem.W.mg_of X G a5) D4 D3 zz_len
 have D6 : Def l.prog w K mg base 3 "are_sixtieths" 1 a2g := d_are_sixtieths (a1b l6 c6 k6) (PySem.W.mg_of X G a6) D4 zz_int
 have D7 : DefX l.prog w K mg base 4 "read_parts" 3 a2i := d_read_parts (a1b l7 c7 k7) (PySem.W.mg_of X G a7) m_NoTime x_NoTime D5 D6 D4 zz_isinstance zz_str zz_int
 have D8 : DefX l.prog w K mg base 5 "read_moment" 1 F_read_moment := d_read_moment (a1b l8 c8 k8) (PySem.W.mg_of X G a8) D7
 have D9 : DefMX l.prog w K mg base 6 "Thousandths" "read" 2 a1m := d_Thousandths_read (a1b l9 c9 k9) m_Thousandths nn_Thousandths pg_Thousandths hd_Thousandths po_Thousandths sa_Thousandths D8 a9 i9
 have D10 : MkI l.prog w K mg base 1 "Frames" "numbering" := d_Frames_init (a1b l10 c10 k10) m_Frames nn_Frames pg_Frames hd_Frames po_Frames sa_Frames na_Frames_numbering a10 i10 mk10 kc10
 have D11 : Def l.prog w K mg base 1 "gaps_before_frame" 2 a1t := d_gaps_before_frame (a1b l11 c11 k11) (PySem.W.mg_of X G a11)
 have D12 : Def l.prog w K mg base 2 "label_of" 2 F_label_of := d_label_of (a1b l12 c12 k12) (PySem.W.mg_of X G a12) D11
 have D13 : Def l.prog w K mg base 1 "frame_sign" 1 a1y := d_frame_sign (a1b l13 c13 k13) (PySem.W.mg_of X G a13)
 have D14 : Def l.prog w K mg base 1 "frame_figures" 1 a1g := d_frame_figures (a1b l14 c14 k14) (PySem.W.mg_of X G a14) zz_str zz_len zz_max
 have D15 : Def l.prog w K mg base 3 "show_frame" 2 F_show_frame := d_show_frame (a1b l15 c15 k15) (PySem.W.mg_of X G a15) D12 D13 D14 D0
 have D16 : DefM l.prog w K mg base 4 "Frames" "show" 2 F_Frames_show := d_Frames_show (a1b l16 c16 k16) m_Frames nn_Frames pg_Frames hd_Frames po_Frames sa_Frames na_Frames_numbering D15 a16 i16
 have D17 : Def l.prog w K mg base 1 "is_whole" 1 a2f := d_is_whole (a1b l17 c17 k17) (PySem.W.mg_of X G a17) zz_isinstance zz_int zz_bool
 have D18 : Def l.prog w K mg base 2 "has_form" 2 F_has_form := d_has_form (a1b l18 c18 k18) (PySem.W.mg_of X G a18) D17 zz_isinstance zz_tuple zz_len zz_all
 have D19 : Def l.prog w K mg base 1 "minute_of" 1 F_minute_of := d_minute_of (a1b l19 c19 k19) (PySem.W.mg_of X G a19)
 have D20 : Def l.prog w K mg base 2 "is_left_out" 2 F_is_left_out := d_is_left_out (a1b l20 c20 k20) (PySem.W.mg_of X G a20) D19
 have D21 : Def l.prog w K mg base 3 "is_label" 2 F_is_label := d_is_label (a1b l21 c21 k21) (PySem.W.mg_of X G a21) D18 D20
 have D22 : Def l.prog w K mg base 4 "frame_of" 2 F_frame_of := d_frame_of (a1b l22 c22 k22) (PySem.W.mg_of X G a22) D21 D19
 have D23 : DefX l.prog w K mg base 5 "read_frame" 2 F_read_frame := d_read_frame (a1b l23 c23 k23) (PySem.W.mg_of X G a23) m_NoTime x_NoTime D13 D14 D7 D21 D22
 have D24 : DefMX l.prog w K mg base 6 "Frames" "read" 2 F_Frames_read := d_Frames_read (a1b l24 c24 k24) m_Frames nn_Frames pg_Frames hd_Frames po_Frames sa_Frames na_Frames_numbering D23 a24 i24
 have D25 : XDefH l.prog w K mg base 1 "NoCue" "row" C_NoCue := a2h (a1b l25 c25 k25) m_NoCue m_CueError x1_NoCue g1_NoCue g2_NoCue sa_NoCue g7_NoCue g6_NoCue hd_NoCue st_NoCue na_NoCue_row rd_CueError sp_CueError fd_CueError a25 i25 kc25
 have D26 : Def l.prog w K mg base 1 "is_name" 1 F_is_name := d_is_name (a1b l26 c26 k26) (PySem.W.mg_of X G a26) zz_isinstance zz_str zz_len zz_all
 have D27 : Def l.prog w K mg base 1 "is_word_sign" 1 F_is_word_sign := d_is_word_sign (a1b l27 c27 k27) (PySem.W.mg_of X G a27) m_PERCENT zz_ord
 have D28 : Def l.prog w K mg base 2 "is_word" 1 F_is_word := d_is_word (a1b l28 c28 k28) (PySem.W.mg_of X G a28) D27 zz_len zz_all
 have D29 : Def l.prog w K mg base 3 "are_words" 1 F_are_words := d_are_words (a1b l29 c29 k29) (PySem.W.mg_of X G a29) D28 zz_isinstance zz_str zz_all
 have D30 : Def l.prog w K mg base 4 "is_cue" 1 F_is_cue := d_is_cue (a1b l30 c30 k30) (PySem.W.mg_of X G a30) D17 D26 D29 zz_isinstance zz_tuple zz_len
 have D31 : Def l.prog w K mg base 5 "show_row" 2 F_show_row := d_show_row (a1b l31 c31 k31) (PySem.W.mg_of X G a31) D16 D2
 have D32 : Def l.prog w K mg base 6 "show_cues" 2 F_show_cues := d_show_cues (a1b l32 c32 k32) (PySem.W.mg_of X G a32) D31
 have D33 : DefX l.prog w K mg base 7 "read_row" 3 a2e := d_read_row (a1b l33 c33 k33) (PySem.W.mg_of X G a33) m_NoCue m_NoTime x1_NoTime D25 D24 D9 D30 zz_len
 have D34 : Def l.prog w K mg base 1 "rows_of" 1 F_rows_of := d_rows_of (a1b l34 c34 k34) (PySem.W.mg_of X G a34)
 have D35 : DefX l.prog w K mg base 8 "read_cues" 2 a1s := d_read_cues (a1b l35 c35 k35) (PySem.W.mg_of X G a35) m_NoCue D25 D33 D34 zz_isinstance zz_str zz_enumerate
 have D36 : Def l.prog w K mg base 1 "_law_cell_at" 2 F__law_cell_at := d__law_cell_at (a1b l36 c36 k36) (PySem.W.mg_of X G a36) zz_len
 have D37 : Def l.prog w K mg base 1 "_law_mixed" 2 a1z := d__law_mixed (a1b l37 c37 k37) (PySem.W.mg_of X G a37)
 have D38 : Def l.prog w K mg base 1 "_law_figures" 2 a1i := a2b (a1b l38 c38 k38) (PySem.W.mg_of X G a38) zz_len
 have D39 : Def l.prog w K mg base 2 "_law_text" 2 a2c := d__law_text (a1b l39 c39 k39) (PySem.W.mg_of X G a39) D38
 have D40 : Def l.prog w K mg base 1 "_law_words" 1 F__law_words := d__law_words (a1b l40 c40 k40) (PySem.W.mg_of X G a40) zz_range
 have D41 : Def l.prog w K mg base 1 "_law_hand" 1 F__law_hand := d__law_hand (a1b l41 c41 k41) (PySem.W.mg_of X G a41) zz_range
 have D42 : Def l.prog w K mg base 3 "_law_row" 3 F__law_row := d__law_row (a1b l42 c42 k42) (PySem.W.mg_of X G a42) D39
 have D43 : Def l.prog w K mg base 4 "_law_drawn" 2 F__law_drawn := d__law_drawn (a1b l43 c43 k43) (PySem.W.mg_of X G a43) D37 D40 D41 D42 zz_max zz_enumerate
 have D44 : Def l.prog w K mg base 9 "_law_told" 2 F__law_told := d__law_told (a1b l44 c44 k44) (PySem.W.mg_of X G a44) m_NoCue x1_NoCue g1_NoCue g2_NoCue sa_NoCue g7_NoCue g6_NoCue hd_NoCue st_NoCue na_NoCue_row D35
 have D45 : Def l.prog w K mg base 1 "_law_same" 2 F__law_same := d__law_same (a1b l45 c45 k45) (PySem.W.mg_of X G a45) zz_isinstance zz_list zz_tuple zz_bool
 exact fn_law (a1b l46 c46 k46) m_Thousandths m_Frames nn_Thousandths mk_Thousandths ii_Thousandths so_Thousandths kc_Thousandths nn_Frames D36 D37 D10 D43 D44 D45 D32 zz_len zz_range
end K19
def PySem.W.Fast.tw6184448102303272933 : Nat := 0
def PySem.W.Fast.tw10307708471675251986 : Nat := 0
def PySem.W.Fast.tw5974279538388933430 : Nat := 0
def PySem.W.Fast.tw13808240033038692559 : Nat := 0
def PySem.W.Fast.tw14906017111814403607 : Nat := 0
def PySem.W.Fast.tw9743022458546352527 : Nat := 0
def PySem.W.Fast.tw2385999955203673547 : Nat := 0
def PySem.W.Fast.tw11108850030546097389 : Nat := 0
def PySem.W.Fast.tw10159066188038509439 : Nat := 0
def PySem.W.Fast.tw8956139863089828831 : Nat := 0
def PySem.W.Fast.tw15796819568282273104 : Nat := 0
def PySem.W.Fast.tw11355662571995073464 : Nat := 0
def PySem.W.Fast.tw16710596476639266840 : Nat := 0
open PySem PySem.W PyProof.Rows
set_option maxRecDepth 100000 in
set_option maxHeartbeats 0 in
theorem PySem.Challenge.cw_cuetimer_k19_whole_rows_of_cues_holds : PySem.Challenge.rw_cuetimer_k19_whole_rows_of_cues.Holds := by
 w_on; o_law; k_head; (case hw => w_witness2)
 k_fill
 refine DL.walk (l := PySem.Challenge.rw_cuetimer_k19_whole_rows_of_cues) (k := 10) (F := K19.F_law) (x := "_law_script") rfl rfl K19.law_true ⟨rfl, by decide, by decide⟩ (fun w h Y => PySem.W.kIn_of Y) ?T
 case T =>
  intro w mg fa h KX G hmg
  refine' K19.all_mk KX G hmg ?a0 ?l0 ?c0 ?k0 ?a1 ?l1 ?c1 ?k1 ?a3 ?l3 ?c3 ?k3 ?a4 ?l4 ?c4 ?k4 ?a5 ?l5 ?c5 ?k5 ?a6 ?l6 ?c6 ?k6 ?a7 ?l7 ?c7 ?k7 ?a8 ?l8 ?c8 ?k8 ?a11 ?l11 ?c11 ?k11 ?a12 ?l12 ?c12 ?k12 ?a13 ?l13 ?c13 ?k13 ?a14 ?l14 ?c14 ?k14 ?a15 ?l15 ?c15 ?k15 ?a17 ?l17 ?c17 ?k17 ?a18 ?l18 ?c18 ?k18 ?a19 ?l19 ?c19 ?k19 ?a20 ?l20 ?c20 ?k20 ?a21 ?l21 ?c21 ?k21 ?a22 ?l22 ?c22 ?k22 ?a23 ?l23 ?c23 ?k23 ?a26 ?l26 ?c26 ?k26 ?a27 ?l27 ?c27 ?k27 ?a28 ?l28 ?c28 ?k28 ?a29 ?l29 ?c29 ?k29 ?a30 ?l30 ?c30 ?k30 ?a31 ?l31 ?c31 ?k31 ?a32 ?l32 ?c32 ?k32 ?a33 ?l33 ?c33 ?k33 ?a34 ?l34 ?c34 ?k34 ?a35 ?l35 ?c35 ?k35 ?a36 ?l36 ?c36 ?k36 ?a37 ?l37 ?c37 ?k37 ?a38 ?l38 ?c38 ?k38 ?a39 ?l39 ?c39 ?k39 ?a40 ?l40 ?c40 ?k40 ?a41 ?l41 ?c41 ?k41 ?a42 ?l42 ?c42 ?k42 ?a43 ?l43 ?c43 ?k43 ?a44 ?l44 ?c44 ?k44 ?a45 ?l45 ?c45 ?k45 ?a46 ?l46 ?c46 ?k46 ?z_str ?z_all ?z_len ?z_int ?z_isinstance ?z_max ?z_bool ?z_tuple ?z_ord ?z_enumerate ?z_range ?z_list ?n_Thousandths ?n_NoTime ?n_Frames ?n_NoCue ?n_CueError ?a2 ?l2 ?c2 ?k2 ?i2 ?a9 ?l9 ?c9 ?k9 ?i9 ?a10 ?l10 ?c10 ?k10 ?i10 ?mk10 ?kc10 ?a16 ?l16 ?c16 ?k16 ?i16 ?a24 ?l24 ?c24 ?k24 ?i24 ?a25 ?l25 ?c25 ?k25 ?i25 ?kc25 ?n_FIGURES ?n_PERCENT ?nn_Thousandths ?pg_Thousandths ?hd_Thousandths ?po_Thousandths ?sa_Thousandths ?x_NoTime ?nn_Frames ?pg_Frames ?hd_Frames ?po_Frames ?sa_Frames ?na_Frames_numbering ?x1_NoCue ?g1_NoCue ?g2_NoCue ?sa_NoCue ?g7_NoCue ?g6_NoCue ?hd_NoCue ?st_NoCue ?na_NoCue_row ?rd_CueError ?sp_CueError ?fd_CueError ?x1_NoTime ?mk_Thousandths ?ii_Thousandths ?so_Thousandths ?kc_Thousandths
  (case a0 => k_is)
  (case l0 => k_is)
  (case c0 => k_is)
  (case k0 => k_is)
  (case a1 => k_is)
  (case l1 => k_is)
  (case c1 => k_is)
  (case k1 => k_is)
  (case a3 => k_is)
  (case l3 => k_is)
  (case c3 => k_is)
  (case k3 => k_is)
  (case a4 => k_is)
  (case l4 => k_is)
  (case c4 => k_is)
  (case k4 => k_is)
  (case a5 => k_is)
  (case l5 => k_is)
  (case c5 => k_is)
  (case k5 => k_is)
  (case a6 => k_is)
  (case l6 => k_is)
  (case c6 => k_is)
  (case k6 => k_is)
  (case a7 => k_is)
  (case l7 => k_is)
  (case c7 => k_is)
  (case k7 => k_is)
  (case a8 => k_is)
  (case l8 => k_is)
  (case c8 => k_is)
  (case k8 => k_is)
  (case a11 => k_is)
  (case l11 => k_is)
  (case c11 => k_is)
  (case k11 => k_is)
  (case a12 => k_is)
  (case l12 => k_is)
  (case c12 => k_is)
  (case k12 => k_is)
  (case a13 => k_is)
  (case l13 => k_is)
  (case c13 => k_is)
  (case k13 => k_is)
  (case a14 => k_is)
  (case l14 => k_is)
  (case c14 => k_is)
  (case k14 => k_is)
  (case a15 => k_is)
  (case l15 => k_is)
  (case c15 => k_is)
  (case k15 => k_is)
  (case a17 => k_is)
  (case l17 => k_is)
  (case c17 => k_is)
  (case k17 => k_is)
  (case a18 => k_is)
  (case l18 => k_is)
  (case c18 => k_is)
  (case k18 => k_is)
  (case a19 => k_is)
  (case l19 => k_is)
  (case c19 => k_is)
  (case k19 => k_is)
  (case a20 => k_is)
  (case l20 => k_is)
  (case c20 => k_is)
  (case k20 => k_is)
  (case a21 => k_is)
  (case l21 => k_is)
  (case c21 => k_is)
  (case k21 => k_is)
  (case a22 => k_is)
  (case l22 => k_is)
  (case c22 => k_is)
  (case k22 => k_is)
  (case a23 => k_is)
  (case l23 => k_is)
  (case c23 => k_is)
  (case k23 => k_is)
  (case a26 => k_is)
  (case l26 => k_is)
  (case c26 => k_is)
  (case k26 => k_is)
  (case a27 => k_is)
  (case l27 => k_is)
  (case c27 => k_is)
  (case k27 => k_is)
  (case a28 => k_is)
  (case l28 => k_is)
  (case c28 => k_is)
  (case k28 => k_is)
  (case a29 => k_is)
  (case l29 => k_is)
  (case c29 => k_is)
  (case k29 => k_is)
  (case a30 => k_is)
  (case l30 => k_is)
  (case c30 => k_is)
  (case k30 => k_is)
  (case a31 => k_is)
  (case l31 => k_is)
  (case c31 => k_is)
  (case k31 => k_is)
  (case a32 => k_is)
  (case l32 => k_is)
  (case c32 => k_is)
  (case k32 => k_is)
  (case a33 => k_is)
  (case l33 => k_is)
  (case c33 => k_is)
  (case k33 => k_is)
  (case a34 => k_is)
  (case l34 => k_is)
  (case c34 => k_is)
  (case k34 => k_is)
  (case a35 => k_is)
  (case l35 => k_is)
  (case c35 => k_is)
  (case k35 => k_is)
  (case a36 => k_is)
  (case l36 => k_is)
  (case c36 => k_is)
  (case k36 => k_is)
  (case a37 => k_is)
  (case l37 => k_is)
  (case c37 => k_is)
  (case k37 => k_is)
  (case a38 => k_is)
  (case l38 => k_is)
  (case c38 => k_is)
  (case k38 => k_is)
  (case a39 => k_is)
  (case l39 => k_is)
  (case c39 => k_is)
  (case k39 => k_is)
  (case a40 => k_is)
  (case l40 => k_is)
  (case c40 => k_is)
  (case k40 => k_is)
  (case a41 => k_is)
  (case l41 => k_is)
  (case c41 => k_is)
  (case k41 => k_is)
  (case a42 => k_is)
  (case l42 => k_is)
  (case c42 => k_is)
  (case k42 => k_is)
  (case a43 => k_is)
  (case l43 => k_is)
  (case c43 => k_is)
  (case k43 => k_is)
  (case a44 => k_is)
  (case l44 => k_is)
  (case c44 => k_is)
  (case k44 => k_is)
  (case a45 => k_is)
  (case l45 => k_is)
  (case c45 => k_is)
  (case k45 => k_is)
  (case a46 => k_is)
  (case l46 => k_is)
  (case c46 => k_is)
  (case k46 => k_is)
  (case z_str => k_is)
  (case z_all => k_is)
  (case z_len => k_is)
  (case z_int => k_is)
  (case z_isinstance => k_is)
  (case z_max => k_is)
  (case z_bool => k_is)
  (case z_tuple => k_is)
  (case z_ord => k_is)
  (case z_enumerate => k_is)
  (case z_range => k_is)
  (case z_list => k_is)
  (case n_Thousandths => k_is)
  (case n_NoTime => k_is)
  (case n_Frames => k_is)
  (case n_NoCue => k_is)
  (case n_CueError => k_is)
  (case a2 => k_is)
  (case l2 => k_is)
  (case c2 => k_is)
  (case k2 => k_is)
  (case i2 => k_is)
  (case a9 => k_is)
  (case l9 => k_is)
  (case c9 => k_is)
  (case k9 => k_is)
  (case i9 => k_is)
  (case a10 => k_is)
  (case l10 => k_is)
  (case c10 => k_is)
  (case k10 => k_is)
  (case i10 => k_is)
  (case mk10 => k_is)
  (case kc10 => k_is)
  (case a16 => k_is)
  (case l16 => k_is)
  (case c16 => k_is)
  (case k16 => k_is)
  (case i16 => k_is)
  (case a24 => k_is)
  (case l24 => k_is)
  (case c24 => k_is)
  (case k24 => k_is)
  (case i24 => k_is)
  (case a25 => k_is)
  (case l25 => k_is)
  (case c25 => k_is)
  (case k25 => k_is)
  (case i25 => k_is)
  (case kc25 => k_is)
  (case n_FIGURES => k_is)
  (case n_PERCENT => k_is)
  (case nn_Thousandths => k_is)
  (case pg_Thousandths => k_is)
  (case hd_Thousandths => k_is)
  (case po_Thousandths => k_is)
  (case sa_Thousandths => k_is)
  (case x_NoTime => k_exc)
  (case nn_Frames => k_is)
  (case pg_Frames => k_is)
  (case hd_Frames => k_is)
  (case po_Frames => k_is)
  (case sa_Frames => k_is)
  (case na_Frames_numbering => k_is)
  (case x1_NoCue => kernel_rfl)
  (case g1_NoCue => k_is)
  (case g2_NoCue => k_is)
  (case sa_NoCue => k_is)
  (case g7_NoCue => k_is)
  (case g6_NoCue => k_is)
  (case hd_NoCue => k_is)
  (case st_NoCue => kernel_rfl)
  (case na_NoCue_row => k_is)
  (case rd_CueError => k_is)
  (case sp_CueError => k_is)
  (case fd_CueError => k_is)
  (case x1_NoTime => kernel_rfl)
  (case mk_Thousandths => k_is)
  (case ii_Thousandths => k_is)
  (case so_Thousandths => k_is)
  (case kc_Thousandths => k_is)
#print axioms PySem.Challenge.cw_cuetimer_k19_whole_rows_of_cues_holds
