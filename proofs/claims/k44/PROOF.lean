import PyProof.Rows.All
import Wide.All
import OpenK.AllK
import Wide.FinOn
import Lean
import PyProof.EqAt
import PyProof.EqKinds
import PyProof.TupleCall
import PySem.Challenge.RW_cuetimer_k44_whole_lets_by_just_these
set_option Elab.async false
set_option linter.all false
set_option maxRecDepth 100000
set_option maxHeartbeats 4000000
open List renaming length_append->η,length_map->θ,mem_cons_of_mem->ι,getElem?_append_left->ξ,mem_cons_self->ο,replicate->ρ,getElem?_eq_some_iff->ς,getElem?_append_right->χ,getElem?_eq_getElem->ψ,mem_cons->Γ,getD_eq_getElem?_getD->Δ,map_cons->Θ,getElem?_map->Λ,size_toArray->Ξ,length_cons->Φ,length_set->Ω,length_replicate->Z1,range->Z3,append_nil->Z4,mem_append->Z7,length_range->Z9,mem_append_right->Y0,map_append->Y4,map_map->Y5,mem_filter->Y7,getElem?_eq_none->Y9,getElem?_replicate->X5,replicate_succ->X9,getElem?_range->W0,append_assoc->W2,mem_of_getElem?->W4,nodup_cons->W5,not_mem_nil->W6,mem_map->W8,mem_singleton->W9,lookup->V0,sum_cons->V3,getElem?_set->V5,drop_length->V6,map_congr_left->V8,length_take->V9,range'->U4,flatten_cons->U5,map_set->U6,map_inj_right->U7,all_cons->U9,reverse_cons->T4,of_mem_zip->T9,getElem?_take->S4,ext_getElem?->S5
open Nat renaming le_refl->υ,lt_of_lt_of_le->Z2,ne_of_lt->Z8,lt_or_ge->Y6,sub_self->X0,not_lt_zero->X6,zero_le->X8,le_trans->W1,le_of_lt->W7,lt_irrefl->V4
open Bool renaming false_ne_true->ω,and_eq_true->Z5
open Int renaming toNat_natCast->Y8,mul_zero->U8,le_refl->T7
open Array renaming length_toList->T8
open PySem PySem.Spec
noncomputable section
open PySem.PyData renaming int->ε,list->Ψ,bool->W3,canLay0->V2,tuple->U2,canLayAll0->U3
open PySem.W renaming Frag->ζ,nsIn->Z0,findIn->Z6,mg_none_of->Y3,emptyDict->V1,keepIn->V7,kia_one->U0,instObj->U1,fnOf->T6
namespace L2
open PyProof.Rows
abbrev Key:=Sum Int Str
noncomputable def keyIs:Key->Value->Bool
 | .inl k,v=>Value.isInt k v
 | .inr x,v=>Value.isStrOf x v
noncomputable def keyH(w:World):Key->Int
 | .inl k=>hashInt k
 | .inr x=>hashStr w x
theorem cz:∀{k:Key} {v:Value},keyIs k v=true->(∃i t,k=Sum.inl i/\v=Value.int i t)\/(∃x t,k=Sum.inr x/\v=Value.str x t)
 | .inl i,v,h=>by
  obtain⟨t,e⟩:=Value.isInt_shape (k:=i) (v:=v) h
  exact .inl ⟨i,t,rfl,e⟩
 | .inr x,v,h=>by
  obtain⟨t,e⟩:=Value.isStrOf_shape (x:=x) (v:=v) h
  exact .inr ⟨x,t,rfl,e⟩
theorem key_ll(a b:Int):decide ((Sum.inl a:Key)=Sum.inl b)=(a==b):=by
 by_cases e:a=b
 ·subst e;simp
 ·have h:¬(Sum.inl a:Key)=Sum.inl b:=λq=>e (Sum.inl.inj q)
  rw[decide_eq_false h]
  exact(beq_eq_false_iff_ne.mpr e).symm
theorem key_rr(a b:Str):decide ((Sum.inr a:Key)=Sum.inr b)=decide (a=b):=by
 by_cases e:a=b
 ·subst e;simp
 ·have h:¬(Sum.inr a:Key)=Sum.inr b:=λq=>e (Sum.inr.inj q)
  rw[decide_eq_false h,decide_eq_false e]
theorem key_lr(a:Int)(b:Str):decide ((Sum.inl a:Key)=Sum.inr b)=false:=decide_eq_false (λq=>nomatch q)
theorem key_rl(a:Str)(b:Int):decide ((Sum.inr a:Key)=Sum.inl b)=false:=decide_eq_false (λq=>nomatch q)
noncomputable def qG(prog:Program)(w:World):PySem.KeyKind prog w Key where
 is:=keyIs
 hash:=keyH w
 inj:=λv a b ha hb=>by
  rcases cz ha with ⟨i,t,rfl,rfl⟩ | ⟨x,t,rfl,rfl⟩
  ·rcases cz hb with ⟨j,u,rfl,e⟩ | ⟨y,u,rfl,e⟩
   ·injection e with e1 _;rw[e1]
   ·exact nomatch e
  ·rcases cz hb with ⟨j,u,rfl,e⟩ | ⟨y,u,rfl,e⟩
   ·exact nomatch e
   ·injection e with e1 _;rw[e1]
 byValue:=λk v h=>by
  rcases cz h with ⟨i,t,rfl,rfl⟩ | ⟨x,t,rfl,rfl⟩<;>rfl
 pyHash:=λhv h=>by
  rcases cz hv with ⟨i,t,rfl,rfl⟩ | ⟨x,t,rfl,rfl⟩
  ·exact wpAny_pyHash_int h
  ·exact wpAny_pyHash_str h
 eqBool:=λhu hv h=>by
  rcases cz hu with ⟨i,t,rfl,rfl⟩ | ⟨x,t,rfl,rfl⟩
  ·rcases cz hv with ⟨j,u,rfl,rfl⟩ | ⟨y,u,rfl,rfl⟩
   ·rw[key_ll] at h;exact wpAny_eqBool_int h
   ·rw[key_lr] at h;exact SeqAt.EqAt.int_str i t y u _ _ _ _ h
  ·rcases cz hv with ⟨j,u,rfl,rfl⟩ | ⟨y,u,rfl,rfl⟩
   ·rw[key_rl] at h;exact SeqAt.EqAt.str_int x t j u _ _ _ _ h
   ·rw[key_rr] at h;exact wpAny_eqBool_str h
 «strs»:=λk x t v h=>by
  rcases cz h with ⟨i,u,rfl,e⟩ | ⟨y,u,rfl,e⟩
  ·exact nomatch e
  ·injection e with e1 _
   subst e1
   cases v<;>rfl
end L2
namespace L2
open PyProof.Rows
inductive V where
 | non | bl (b:Bool) | int (i:Int) | str (x:Str) | byt (b:Array UInt8) | flt (b:UInt64) | ref (a:Addr) | ty (n:String)
 deriving DecidableEq
def bR:V->Value->Prop
 | .non,u=>u=Value.none
 | .bl b,u=>u=Value.bool b
 | .int i,u=>∃t,u=Value.int i t
 | .str x,u=>∃t,u=Value.str x t
 | .byt b,u=>∃t,u=Value.bytes b t
 | .flt b,u=>∃t,u=Value.float b t
 | .ref a,u=>u=Value.ref a
 | .ty n,u=>u=Value.type n
abbrev aS:List V->List Value->Prop:=Paired bR
theorem aS.length{xs:List V}{us:List Value}(r:aS xs us):xs.length=us.length:=Paired.length r
theorem aS.get:∀{xs:List V} {us:List Value} {i:Nat} {x:V},aS xs us->xs[i]?=some x->∃u,us[i]?=some u/\bR x u
 | _,_,_,_,.nil,e=>by simp at e
 | _,_,0,_,.cons r _,e=>by simp at e;subst e;exact⟨_,rfl,r⟩
 | _,_,i+1,x,.cons _ t,e=>by
  obtain⟨u,h1,h2⟩:=aS.get (i:=i) (x:=x) t (by simpa using e)
  exact⟨u,by simpa using h1,h2⟩
theorem aS.set{x:V}{u:Value}(r:bR x u):∀{xs:List V} {us:List Value} (i:Nat),aS xs us->aS (xs.set i x) (us.set i u)
 | _,_,_,.nil=>.nil
 | _,_,0,.cons _ t=>.cons r t
 | _,_,i+1,.cons q t=>.cons q (aS.set r i t)
theorem aS.append:∀{xs ys:List V} {us ws:List Value},aS xs us->aS ys ws->aS (xs++ys) (us++ws)
 | _,_,_,_,.nil,s=>s
 | _,_,_,_,.cons r t,s=>.cons r (aS.append t s)
theorem aS.take:∀{xs:List V} {us:List Value} (n:Nat),aS xs us->aS (xs.take n) (us.take n)
 | _,_,0,_=>.nil
 | _,_,_+1,.nil=>.nil
 | _,_,n+1,.cons r t=>.cons r (aS.take n t)
theorem aS.drop:∀{xs:List V} {us:List Value} (n:Nat),aS xs us->aS (xs.drop n) (us.drop n)
 | _,_,0,r=>r
 | _,_,_+1,.nil=>.nil
 | _,_,n+1,.cons _ t=>aS.drop n t
def o5:Option V->Option Value->Prop
 | some v,some u=>bR v u
 | none,none=>True
 | _,_=>False
def KV:List (κ×V)->List (κ×Value)->Prop:=Paired λ(p:κ×V) (q:κ×Value)=>p.1=q.1/\bR p.2 q.2
noncomputable def kV:Key->V
 | .inl i=>.int i
 | .inr x=>.str x
inductive HO where
 | lst (xs:List V)
 | tup (xs:List V)
 | dK (kvs:List (Key×V)) | dT (kvs:List (List Key×V))
 | set (S:Int->Bool) (n:Nat)
 | ins (C dx:Addr) (fs:List (Str×V))
 | own (x:Addr)
 | xd (fs:List (Str×V))
 | met (f x:Addr)
 | rng (lo hi:Int)
 | frz (o:Obj) (u:HO)
 | tbl (ps:Array Value)
 | ext (φ:Heap->Prop)
abbrev Hp:=Addr->Option HO
noncomputable def upd(H:Hp)(a:Addr)(o:HO):Hp:=λb=>if b=a then some o else H b
theorem aK:upd H a o a=some o:=by unfold upd;rw[if_pos rfl]
theorem upd_ne(h:b≠a):upd H a o b=H b:=by unfold upd;rw[if_neg h]
theorem ne_of{H:Hp}{a b:Addr}{o u:HO}(h:H a=some o)(h':H b=some u)(d:o≠u):a≠b:=by
 intro e;subst e;rw[h] at h';exact d (Option.some.inj h')
theorem aJ{H:Hp}{a b:Addr}{o:HO}(h:H a=some o)(h':H b=none):a≠b:=by
 intro e;subst e;rw[h] at h';cases h'
section
variable(P:Program)(w:World)
def fM(H:Hp)(h:Heap)(a:Addr):HO->Prop
 | .lst xs=>xs.length<=sizeLine/\∃(its:List Value) (n:Nat),aS xs its/\h.get? a=some { cls:=.type "list",data:=.seq its.toArray n }
 | .tup xs=>xs.length<=sizeLine/\∃its:List Value,aS xs its/\IsTup h a its.toArray
 | .dK kvs=>kvs.length<=sizeLine/\(a==sysModules)=false/\∃vs,KV kvs vs/\h.DictOf (qG P w) a vs
 | .dT kvs=>kvs.length<=sizeLine/\(a==sysModules)=false/\∃xs:List (List Key×Addr×Value),
   Paired (λ(p:List Key×V) (q:List Key×Addr×Value)=>p.1=q.1/\H q.2.1=some (.tup (p.1.map kV))/\bR p.2 q.2.2) kvs xs /\
   ∃o es ep,h.get? a=some o/\o.ExactDict/\o.data=.dict es ep/\es.toList=xs.map (entryOfKey (tupleKind (qG P w)))/\(xs.map (·.1)).Nodup
 | .set S n=>h.SetOf (intKind P w) a S n
 | .ins C dx fs=>H dx=some (.own a)/\fs.length<=1000/\dx≠a/\h.get? a=some (U1 C dx) /\
   ∃mA,h.Ns1 dx mA/\(∀f,o5 (fs.lookup f) (mA f))/\PySem.Within mA (fs.map (·.1))
 | .own _=>∃o,h.get? a=some o
 | .xd fs=>∃mA,h.Ns1 a mA/\∀f,o5 (fs.lookup f) (mA f)
 | .rng lo hi=>∃t u v,h.get? a=some { cls:=.type "range",data:=.fields #[.int lo t,.int hi u,.int 1 v] }
 | .frz o u=>h.get? a=some o/\fM H h a u
 | .tbl ps=>h.get? a=some { cls:=.none,data:=.fields ps }
 | .met f x=>h.get? a=some (PySem.W.methodObj (.ref f) (.ref x))
 | .ext φ=>φ h/\(∃o,h.get? a=some o)/\∀h1 h2:Heap,φ h1->(∀o,h1.get? a=some o->h2.get? a=some o)->φ h2
def HOk(H:Hp)(h:Heap):Prop:=∀a o,H a=some o->fM P w H h a o
end
section
variable{P:Program}{w:World}{H H':Hp}{h h':Heap}{a:Addr}{o:HO}
theorem fM.lt(x:fM P w H h a o):a<h.objs.size:=by
 cases o with
 | lst xs=>obtain⟨_,_,_,_,e⟩:=x;exact Heap.lt_size e
 | tup xs=>obtain⟨_,_,_,p⟩:=x;exact p.lt
 | dK kvs=>obtain⟨_,_,_,_,o,_,_,e,_⟩:=x;exact Heap.lt_size e
 | dT kvs=>obtain⟨_,_,_,_,o,_,_,e,_⟩:=x;exact Heap.lt_size e
 | set S n=>obtain⟨o,_,_,_,e,_⟩:=x;exact Heap.lt_size e
 | ins C dx fs=>obtain⟨_,_,_,e,_⟩:=x;exact Heap.lt_size e
 | own y=>obtain⟨_,e⟩:=x;exact Heap.lt_size e
 | xd fs=>obtain⟨_,⟨_,_,_,e,_⟩,_⟩:=x;exact Heap.lt_size e
 | rng lo hi=>obtain⟨_,_,_,e⟩:=x;exact Heap.lt_size e
 | frz ob u=>obtain⟨e,_⟩:=x;exact Heap.lt_size e
 | tbl ps=>exact Heap.lt_size (show h.get? a=some _ from x)
 | met f y=>exact Heap.lt_size (show h.get? a=some _ from x)
 | ext φ=>obtain⟨_,⟨_,e⟩,_⟩:=x;exact Heap.lt_size e
theorem Paired.mapP:∀{l₁:List α} {l₂:List β},Paired F l₁ l₂->(∀a b,F a b->G a b)->Paired G l₁ l₂
 | _,_,.nil,_=>.nil
 | _,_,.cons r t,f=>.cons (f _ _ r) (Paired.mapP t f)
theorem fM.stay(x:fM P w H h a o)(k:∀b u,(b=a\/H b=some (.own a))->h.get? b=some u->h'.get? b=some u)
  (ho:∀b,H b=some (.own a)->H' b=some (.own a)) (ht:∀b xs,H b=some (.tup xs)->H' b=some (.tup xs)):fM P w H' h' a o:=by
 induction o with
 | lst xs=>obtain⟨z,its,n,r,e⟩:=x;exact⟨z,its,n,r,k _ _ (.inl rfl) e⟩
 | tup xs=>obtain⟨z,its,r,ob,e,c⟩:=x;exact⟨z,its,r,ob,k _ _ (.inl rfl) e,c⟩
 | dK kvs=>obtain⟨z,y,vs,r,ob,es,ep,e,c⟩:=x;exact⟨z,y,vs,r,ob,es,ep,k _ _ (.inl rfl) e,c⟩
 | dT kvs =>
  obtain⟨z,y,xs,r,ob,es,ep,e,c⟩:=x
  exact⟨z,y,xs,Paired.mapP r λp q z=>⟨z.1,ht _ _ z.2.1,z.2.2⟩,ob,es,ep,k _ _ (.inl rfl) e,c⟩
 | set S n=>obtain⟨ob,es,ep,t,e,c⟩:=x;exact⟨ob,es,ep,t,k _ _ (.inl rfl) e,c⟩
 | ins C dx fs =>
  obtain⟨d,z,ne,e,mA,⟨od,es,ep,e2,c⟩,r⟩:=x
  exact⟨ho _ d,z,ne,k _ _ (.inl rfl) e,mA,⟨od,es,ep,k _ _ (.inr d) e2,c⟩,r⟩
 | own y=>obtain⟨ob,e⟩:=x;exact⟨ob,k _ _ (.inl rfl) e⟩
 | xd fs=>obtain⟨mA,⟨od,es,ep,e,c⟩,r⟩:=x;exact⟨mA,⟨od,es,ep,k _ _ (.inl rfl) e,c⟩,r⟩
 | rng lo hi=>obtain⟨t,u,v,e⟩:=x;exact⟨t,u,v,k _ _ (.inl rfl) e⟩
 | frz ob u ih=>obtain⟨e,q⟩:=x;exact⟨k _ _ (.inl rfl) e,ih q⟩
 | tbl ps =>
  have e:h.get? a=some { cls:=.none,data:=.fields ps }:=x
  show h'.get? a=some { cls:=.none,data:=.fields ps }
  exact k a _ (.inl rfl) e
 | met f y =>
  have e:h.get? a=some (PySem.W.methodObj (.ref f) (.ref y)):=x
  show h'.get? a=some (PySem.W.methodObj (.ref f) (.ref y))
  exact k a _ (.inl rfl) e
 | ext φ=>obtain⟨p,⟨o,e⟩,st⟩:=x;exact⟨st _ _ p λo q=>k _ _ (.inl rfl) q,⟨o,k _ _ (.inl rfl) e⟩,st⟩
theorem HOk.lt(x:HOk P w H h)(e:H a=some o):a<h.objs.size:=(x a o e).lt
theorem HOk.fresh(x:HOk P w H h)(e:h.objs.size<=a):H a=none:=by
 cases q:H a with
 | none=>rfl
 | some u=>exact absurd (Z2 (x.lt q) e) (V4 _)
theorem HOk.kept(x:HOk P w H h)(k:∀b u,h.get? b=some u->h'.get? b=some u):HOk P w H h':=λa o e =>
 (x a o e).stay (λb u _ q=>k b u q) (λ_ q=>q) λ_ _ q=>q
theorem HOk.laid(x:HOk P w H h)(k:∀b u,h.get? b=some u->h'.get? b=some u)(hp:h.objs.size<=a)(new:fM P w (upd H a o) h' a o):HOk P w (upd H a o) h':=λb u e=>by
 have hn:=x.fresh hp
 by_cases hb:b=a
 ·subst hb;rw[aK] at e;cases e;exact new
 ·rw[upd_ne hb] at e
  exact(x b u e).stay (λc v _ q=>k c v q) (λc q=>by rw[upd_ne (aJ q hn)];exact q) λc xs q=>by rw[upd_ne (aJ q hn)];exact q
end
def Rd(H:Hp)(a:Addr)(u:HO):Prop:=H a=some u\/∃o,H a=some (.frz o u)
theorem Rd.ok(r:Rd H a u)(x:HOk P w H h):fM P w H h a u:=by
 rcases r with r | ⟨o,r⟩
 ·exact x a u r
 ·obtain⟨_,q⟩:=x a _ r
  exact q
def Mut:Option HO->Prop
 | some (.lst _)=>True
 | some (.dK _)=>True
 | some (.dT _)=>True
 | some (.set _ _)=>True
 | some (.ins _ _ _)=>True
 | some (.ext _)=>True
 | _=>False
section
theorem HOk.write(ok:HOk P w H h)(mu:Mut (H x))(he:e=x\/H e=some (.own x))(k:∀b u,b≠e->h.get? b=some u->h'.get? b=some u)(heo:∃u,h'.get? e=some u)
  (new:fM P w (upd H x o') h' x o'):HOk P w (upd H x o') h':=λb u q=>by
 have nown:∀c y,H c=some (.own y)->c≠x:=λc y r z=>by subst z;rw[r] at mu;exact mu
 have ntup:∀c xs,H c=some (.tup xs)->c≠x:=λc xs r z=>by subst z;rw[r] at mu;exact mu
 by_cases hb:b=x
 ·subst hb;rw[aK] at q;cases q;exact new
 ·rw[upd_ne hb] at q
  by_cases hbe:b=e
  ·have q':H b=some (.own x):=by
    rcases he with z | z
    ·exact absurd (hbe.trans z) hb
    ·rw[hbe];exact z
   rw[q] at q';cases q'
   obtain⟨v,hv⟩:=heo
   exact⟨v,by rw[hbe];exact hv⟩
  ·refine(ok b u q).stay (λc v hc r=>k c v ?_ r) (λc r=>by rw[upd_ne (nown c b r)];exact r) λc xs r=>by rw[upd_ne (ntup c xs r)];exact r
   rcases hc with rfl | hc
   ·exact hbe
   ·rintro rfl
    rcases he with z | z
    ·exact nown c b hc z
    ·rw[hc] at z;cases z;exact hb rfl
end
structure Un(fs ex:List Addr)(H H':Hp)(h h':Heap):Prop where
 keep:∀b o,h.get? b=some o->H b=none->b∉fs->b∉ex->h'.get? b=some o
 slot:∀b o,h.get? b=some o->H b=none->b∈fs->b∉ex->∃sl,h'.get? b=some { o with slots:=sl }
 free:∀b o,h.get? b=some o->H b=none->b∉ex->H' b=none
 there:∀b o,h.get? b=some o->b∉ex->∃o',h'.get? b=some o'
 tups:∀b xs,H b=some (.tup xs)->H' b=some (.tup xs)
 frzs:∀b o u,H b=some (.frz o u)->H' b=some (.frz o u)
 tbls:∀b ps,H b=some (.tbl ps)->∃more,H' b=some (.tbl (ps++more))
section
variable{fs fs' ex ex':List Addr}{H H1 H2:Hp}{h h1 h2 h':Heap}{a x e:Addr}{o:HO}
theorem Un.any(u:Un fs ex H H1 h h1)(q:h.get? b=some ob)(n:H b=none)(hx:b∉ex):∃sl,h1.get? b=some { ob with slots:=sl }:=by
 by_cases hb:b∈fs
 ·exact u.slot b ob q n hb hx
 ·exact⟨ob.slots,u.keep b ob q n hb hx⟩
theorem Un.kept(k:∀b u,h.get? b=some u->h'.get? b=some u):Un fs ex H H h h' :=
 ⟨λb ob q _ _ _=>k b ob q,λb ob q _ _ _=>⟨ob.slots,k b ob q⟩,λ_ _ _ n _=>n,λb ob q _=>⟨ob,k b ob q⟩,λ_ _ q=>q,λ_ _ _ q=>q,λ_ ps q=>⟨#[],by rw[q];simp⟩⟩
theorem Un.refl:Un fs ex H H h h:=Un.kept λ_ _ q=>q
theorem Un.laid(k:∀b u,h.get? b=some u->h'.get? b=some u)(hp:h.objs.size<=a)(hn:H a=none):Un fs ex H (upd H a o) h h' where
 keep:=λb u q _ _ _=>k b u q
 slot:=λb u q _ _ _=>⟨u.slots,k b u q⟩
 free:=λb u q n _=>by rw[upd_ne (Z8 (Z2 (Heap.lt_size q) hp))];exact n
 there:=λb u q _=>⟨u,k b u q⟩
 tups:=λb xs q=>by rw[upd_ne (aJ q hn)];exact q
 frzs:=λb u xs q=>by rw[upd_ne (aJ q hn)];exact q
 tbls:=λb ps q=>⟨#[],by rw[upd_ne (aJ q hn),q];simp⟩
theorem Un.write(mu:Mut (H x))(he:e=x\/H e=some (.own x))(k:∀b u,b≠e->h.get? b=some u->h'.get? b=some u)(heo:∃u,h'.get? e=some u):Un fs ex H (upd H x o) h h':=by
 have hx:∀b,H b=none->b≠x:=λb n z=>by subst z;rw[n] at mu;exact mu
 have hb:∀b,H b=none->b≠e:=λb n z=>by
  subst z
  rcases he with r | r
  ·exact hx b n r
  ·rw[n] at r;cases r
 have hm:∀b u,H b=some u->¬Mut (some u)->b≠x:=λb u q nm z=>by subst z;rw[q] at mu;exact nm mu
 refine⟨λb u q n _ _=>k b u (hb b n) q,λb u q n _ _=>⟨u.slots,k b u (hb b n) q⟩,λb u q n _=>by rw[upd_ne (hx b n)];exact n,λb u q _=>?_,
  λb xs q=>by rw[upd_ne (hm b _ q λz=>z)];exact q,λb u xs q=>by rw[upd_ne (hm b _ q λz=>z)];exact q,λb ps q=>⟨#[],by rw[upd_ne (hm b _ q λz=>z),q];simp⟩⟩
 by_cases hbe:b=e
 ·subst hbe;exact heo
 ·exact⟨u,k b u hbe q⟩
end
noncomputable def trk(h:Heap)(H:Hp):List Addr:=(Z3 h.objs.size).filter λa=>(H a).isSome
noncomputable def qO(h:Heap)(H:Hp):Heap:=PySem.W.hideAll h (trk h H)
theorem wK(h:Heap)(H:Hp):(qO h H).objs.size=h.objs.size:=PySem.W.hideAll_size _ _
theorem hidT_get(e:h.get? b=some o)(n:H b=none):(qO h H).get? b=some o :=
 PySem.W.hideAll_get _ e λhm=>by
  have q:(H b).isSome=true:=(Y7.mp hm).2
  rw[n] at q;simp at q
theorem of_hidT(e:(qO h H).get? b=some o):h.get? b=some o/\H b=none:=by
 have e':h.get? b=some o:=PySem.W.of_hideAll (trk h H) e
 refine⟨e',?_⟩
 cases q:H b with
 | none=>rfl
 | some x =>
  have hm:b∈trk h H:=Y7.mpr ⟨List.mem_range.mpr (Heap.lt_size e'),by simp [q]⟩
  have z:(qO h H).get? b=none:=PySem.W.hideAll_none (trk h H) hm
  rw[z] at e;cases e
noncomputable def allNews(g h:Heap)(L:Addr):List (Addr×Obj):=(Z3 h.objs.size).filterMap λa=>if a=L\/(g.get? a).isSome=true then none else (h.get? a).map λo=>(a,o)
noncomputable def rest(g h:Heap)(L d:Addr):List (Addr×Obj):=(allNews g h L).filter λp=>decide (p.1≠d)
end L2
namespace L2
open PyProof.Rows
structure Mod(K:ζ)(mg:Str->Option Value)(base:Heap):Prop where
 kin:K.In base
 glob:base.Ns mainGlobals mg
 blt:∃mb,base.Ns builtinsNs mb/\∀x:Str,x ≠ "__name__" -> mb x=bootBuiltins x
 nolimit:base.NoLimit
structure Cx where
 prog:Program
 w:World
 K:ζ
 mg:Str->Option Value
 base:Heap
 A:Around
 N:List Str
 s₀:Shared
 H₀:Hp
 env:Env
 outer:List Env
 stack:List Env
 ex:List Addr
 fn:Str->Bool
 calm:Bool
 pn:List (Addr×Obj)
 xe:Value->Shared->Prop
noncomputable def frs(l:List Env):List Addr:=l.filterMap (·.frame)
abbrev Cx.fs(X:Cx):List Addr:=frs X.outer
def Vis(sc:Scope)(x:Str):Prop:=sc.names.lookup x=some .local\/sc.names.lookup x=some .cell\/sc.names.lookup x=some .free
def Loc(sc:Scope)(x:Str):Prop:=sc.names.lookup x=some .local\/sc.names.lookup x=some .cell
def Look(env:Env)(h:Heap)(m:Str->Option Value)(x:Str)(u:Value):Prop :=
 (env.kindOf x=some .local/\m x=some u)\/((env.kindOf x=some .cell\/env.kindOf x=some .free)/\∃c,env.cells.lookup x=some c/\h.IsCell c (some u))
structure Cx.Ok(X:Cx):Prop where
 mod:Mod X.K X.mg X.base
 kind:X.env.scope.kind=.function
 glob:X.env.globals=mainGlobals
 blt:X.env.builtins=builtinsNs
 above:X.s₀.heap.objs.size<=X.env.locals
 inj:∀x y c,X.env.cells.lookup x=some c->X.env.cells.lookup y=some c->x=y
 has:∀x,(X.env.kindOf x=some .cell\/X.env.kindOf x=some .free)->∃c,X.env.cells.lookup x=some c
 cab:∀x c,X.fn x=true->X.env.cells.lookup x=some c->X.s₀.heap.objs.size<=c
 hd:X.calm=true->X.A.handled=none
 frames:X.A.frames=some X.stack
 stk:X.stack=X.outer\/(X.stack=X.env::X.outer/\X.env.frame=some X.env.locals)
 exf:∀b∈X.ex,b≠X.env.locals/\∀x c,X.env.cells.lookup x=some c->c≠b
 bs:∀b o,X.base.get? b=some o->X.s₀.heap.get? b=some o/\X.H₀ b=none
 bsz:X.base.objs.size<=X.s₀.heap.objs.size
 noex:∀b o,X.base.get? b=some o->b∉X.ex
 exfs:∀b∈X.ex,b∉X.fs
 funs:X.s₀.heap.FunFrames X.base X.outer
 frf:∀b∈X.fs,X.H₀ b=none
structure Inv(X:Cx)(pins:List (Addr×Obj))(σ:List (Option V))(H:Hp)(s:Shared):Prop where
 ok:X.Ok
 os:s.os=X.s₀.os
 bare:AllBare s.gens
 base:Un X.fs X.ex X.H₀ H X.s₀.heap s.heap
 loc:∃m,s.heap.Ns X.env.locals m/\∀(i:Nat) (x:Str) (v:V),X.N[i]?=some x->σ[i]?=some (some v)->Vis X.env.scope x->∃u,bR v u/\Look X.env s.heap m x u
 cell:∀x c,X.env.cells.lookup x=some c->∃v,s.heap.IsCell c v
 free:H X.env.locals=none
 freeC:∀x c,X.env.cells.lookup x=some c->H c=none
 pin:∀p∈X.pn++pins,s.heap.get? p.1=some p.2/\H p.1=none/\p.1≠X.env.locals/\p.1∉X.fs/\∀v,p.2.data≠.cell v
 hok:HOk X.prog X.w H s.heap
 len:σ.length=X.N.length
section
variable{X:Cx}{pins:List (Addr×Obj)}{σ:List (Option V)}{H H':Hp}{s:Shared}{h':Heap}
theorem Cx.Ok.nofr(ok:X.Ok){b:Addr}{o:Obj}(e:X.base.get? b=some o):b∉X.fs:=λhb=>by
 have:=(ok.funs.mem hb).1
 rw[e] at this;cases this
theorem Inv.bs(I:Inv X pins σ H s):∀b o,X.base.get? b=some o->s.heap.get? b=some o/\H b=none:=λb o e =>
 ⟨I.base.keep b o (I.ok.bs b o e).1 (I.ok.bs b o e).2 (I.ok.nofr e) (I.ok.noex b o e),I.base.free b o (I.ok.bs b o e).1 (I.ok.bs b o e).2 (I.ok.noex b o e)⟩
theorem Inv.bk(I:Inv X pins σ H s):∀b o,X.base.get? b=some o->s.heap.get? b=some o:=λb o e=>(I.bs b o e).1
theorem Inv.mod(I:Inv X pins σ H s):Mod X.K X.mg X.base:=I.ok.mod
theorem Inv.kIn(I:Inv X pins σ H s):X.K.In s.heap:=I.ok.mod.kin.keeps I.bk
theorem Inv.lt(I:Inv X pins σ H s):X.env.locals<s.heap.objs.size:=let ⟨_,hn,_⟩:=I.loc;hn.lt
theorem Inv.sz(I:Inv X pins σ H s):X.s₀.heap.objs.size<=s.heap.objs.size:=W1 I.ok.above (W7 I.lt)
theorem Inv.nofs(I:Inv X pins σ H s)(h:s.heap.objs.size<=a):a∉X.fs:=λhb=>by
 obtain⟨_,o,ho,_⟩:=I.ok.funs.mem hb
 exact absurd (Z2 (Heap.lt_size ho) (W1 I.sz h)) (V4 _)
theorem Inv.cne(I:Inv X pins σ H s):∀x c,X.env.cells.lookup x=some c->c≠X.env.locals:=λx c e z=>by
 obtain⟨v,o,ho,hd⟩:=I.cell x c e
 obtain⟨m,⟨o',es,ep,ho',hd',_⟩,_⟩:=I.loc
 rw[z,ho'] at ho;cases ho;rw[hd'] at hd;cases hd
theorem Inv.funs(I:Inv X pins σ H s):s.heap.FunFrames X.base X.outer:=by
 have all:∀(l:List Env),(∀b∈frs l,b∈X.fs)->X.s₀.heap.FunFrames X.base l->s.heap.FunFrames X.base l:=by
  intro l
  induction l with
  | nil=>intro _ _;trivial
  | cons env r ih =>
   intro hs hl
   obtain⟨hk,⟨L,o,hf,hn,ho,hd⟩,hr⟩:=hl
   have hL:L∈X.fs:=hs L (by unfold frs;rw[List.filterMap_cons,hf];exact ο)
   obtain⟨sl,e⟩:=I.base.slot L o ho (I.ok.frf L hL) hL λz=>I.ok.exfs L z hL
   exact⟨hk,⟨L,_,hf,hn,e,hd⟩,ih (λb hb=>hs b (by unfold frs;rw[List.filterMap_cons,hf];exact ι _ hb)) hr⟩
 exact all X.outer (λ_ hb=>hb) I.ok.funs
theorem Inv.stack(I:Inv X pins σ H s):s.heap.FunFrames X.base X.stack:=by
 rcases I.ok.stk with e | ⟨e,hf⟩
 ·rw[e];exact I.funs
 ·rw[e]
  obtain⟨m,hn,_⟩:=I.loc
  refine .cons (by rw[I.ok.kind];decide) hf hn ?_ I.funs
  exact Heap.get?_none_of_le (W1 I.ok.bsz I.ok.above)
theorem Inv.stkSub(I:Inv X pins σ H s):∀b∈frs X.stack,b∈X.env.locals::X.fs:=λb hb=>by
 rcases I.ok.stk with e | ⟨e,hf⟩
 ·rw[e] at hb;exact ι _ hb
 ·rw[e] at hb
  unfold frs at hb
  rw[List.filterMap_cons,hf] at hb
  exact hb
theorem Inv.stkFree(I:Inv X pins σ H s):∀b∈frs X.stack,H b=none:=λb hb=>by
 rcases Γ.mp (I.stkSub b hb) with e | hb
 ·rw[e];exact I.free
 ·obtain⟨_,o,ho,_⟩:=I.ok.funs.mem hb
  exact I.base.free b o ho (I.ok.frf b hb) λz=>I.ok.exfs b z hb
theorem Inv.step{g':Array GenState}{t':Nat}{d':Drawn}{ch:List Addr}(I:Inv X pins σ H s)
  (hch:∀b∈ch,(b∈X.ex\/X.s₀.heap.objs.size<=b)/\b≠X.env.locals/\(∀x c,X.env.cells.lookup x=some c->c≠b)/\∀p∈X.pn++pins,p.1≠b)
  (keep:∀b o,b≠X.env.locals->b∉X.fs->b∉ch->s.heap.get? b=some o->H b=none->h'.get? b=some o)
  (slot:∀b o,b≠X.env.locals->b∈X.fs->b∉ch->s.heap.get? b=some o->H b=none->∃sl,h'.get? b=some { o with slots:=sl }) (free:∀b o,b∉ch->s.heap.get? b=some o->H b=none->H' b=none)
  (there:∀b o,b∉ch->s.heap.get? b=some o->∃o',h'.get? b=some o')
  (tups:∀b xs,H b=some (.tup xs)->H' b=some (.tup xs)) (frzs:∀b o u,H b=some (.frz o u)->H' b=some (.frz o u)) (tbls:∀b ps,H b=some (.tbl ps)->∃more,H' b=some (.tbl (ps++more)))
  (ns:∀m,s.heap.Ns X.env.locals m->h'.Ns X.env.locals m) (hok:HOk X.prog X.w H' h') (hg:AllBare g') :
  Inv X pins σ H' { s with heap:=h',gens:=g',drawn:=d',toks:=t' }:=by
 have neL:∀b o,X.s₀.heap.get? b=some o->b≠X.env.locals:=λb o e=>Z8 (Z2 (Heap.lt_size e) I.ok.above)
 have neC:∀b o,X.s₀.heap.get? b=some o->b∉X.ex->b∉ch:=λb o e hx hb=>by
  rcases (hch b hb).1 with z | z
  ·exact hx z
  ·exact absurd (Z2 (Heap.lt_size e) z) (V4 _)
 have cellK:∀x c,X.env.cells.lookup x=some c->∀v,s.heap.IsCell c v->h'.IsCell c v:=λx c e v ⟨o,ho,hd⟩=>by
  have nch:c∉ch:=λz=>(hch c z).2.2.1 x c e rfl
  by_cases hc:c∈X.fs
  ·obtain⟨sl,q⟩:=slot c o (I.cne x c e) hc nch ho (I.freeC x c e)
   exact⟨_,q,hd⟩
  ·exact⟨o,keep c o (I.cne x c e) hc nch ho (I.freeC x c e),hd⟩
 refine⟨I.ok,I.os,hg,⟨λb o e n hb hx=>?_,λb o e n hb hx=>?_,λb o e n hx=>?_,λb o e hx=>?_,λb xs e=>tups b xs (I.base.tups b xs e),λb o xs e=>frzs b o xs (I.base.frzs b o xs e),λb ps e=>?_⟩,?_,λx c e=>?_,?_,λx c e=>?_,λp hp=>?_,hok,I.len⟩
 ·exact keep b o (neL b o e) hb (neC b o e hx) (I.base.keep b o e n hb hx) (I.base.free b o e n hx)
 ·obtain⟨sl,e1⟩:=I.base.slot b o e n hb hx
  obtain⟨sl',e2⟩:=slot b _ (neL b o e) hb (neC b o e hx) e1 (I.base.free b o e n hx)
  exact⟨sl',e2⟩
 ·obtain⟨o',e1⟩:=I.base.there b o e hx
  exact free b o' (neC b o e hx) e1 (I.base.free b o e n hx)
 ·obtain⟨o',e1⟩:=I.base.there b o e hx
  exact there b o' (neC b o e hx) e1
 ·obtain⟨m1,e1⟩:=I.base.tbls b ps e
  obtain⟨m2,e2⟩:=tbls b _ e1
  exact⟨m1++m2,by rw[e2,Array.append_assoc]⟩
 ·obtain⟨m,hn,hl⟩:=I.loc
  refine⟨m,ns m hn,λi x v e1 e2 e3=>?_⟩
  obtain⟨u,r,l⟩:=hl i x v e1 e2 e3
  refine⟨u,r,?_⟩
  rcases l with l | ⟨k,c,e,z⟩
  ·exact .inl l
  ·exact .inr ⟨k,c,e,cellK x c e _ z⟩
 ·obtain⟨v,z⟩:=I.cell x c e
  exact⟨v,cellK x c e v z⟩
 ·obtain⟨m,⟨o,_,_,ho,_⟩,_⟩:=I.loc
  exact free _ o (λz=>(hch _ z).2.1 rfl) ho I.free
 ·obtain⟨v,o,ho,hd⟩:=I.cell x c e
  exact free c o (λz=>(hch c z).2.2.1 x c e rfl) ho (I.freeC x c e)
 ·obtain⟨e,n,ne,nf,d⟩:=I.pin p hp
  have nch:p.1∉ch:=λz=>(hch p.1 z).2.2.2 p hp rfl
  exact⟨keep p.1 p.2 ne nf nch e n,free p.1 p.2 nch e n,ne,nf,d⟩
theorem Inv.un{t':Nat}(I:Inv X pins σ H s)(u:Un X.fs [] H H' s.heap h')(hok:HOk X.prog X.w H' h'):Inv X pins σ H' { s with heap:=h',toks:=t' }:=by
 obtain⟨m,⟨o,es,ep,ho,r⟩,_⟩:=id I.loc
 obtain⟨sl,hL⟩:=u.any ho I.free (by simp)
 exact I.step (g':=s.gens) (d':=s.drawn) (ch:=[]) (λ_ z=>nomatch z) (λb o _ hb _ e n=>u.keep b o e n hb (by simp)) (λb o _ hb _ e n=>u.slot b o e n hb (by simp)) (λb o _ e n=>u.free b o e n (by simp)) (λb o _ e=>u.there b o e (by simp)) u.tups u.frzs u.tbls (λm' hm=>by
  obtain⟨o',es',ep',ho',r'⟩:=hm
  rw[ho] at ho';cases ho'
  exact⟨_,es',ep',hL,r'⟩) hok I.bare
theorem Inv.call{g':Array GenState}{t':Nat}{d':Drawn}{ch:List Addr}(I:Inv X pins σ H s)(u:Un (frs X.stack) ch H H' s.heap h')(hok:HOk X.prog X.w H' h')(hg:AllBare g')
  (hch:∀b∈ch,(b∈X.ex\/X.s₀.heap.objs.size<=b)/\b≠X.env.locals/\(∀x c,X.env.cells.lookup x=some c->c≠b)/\∀p∈X.pn++pins,p.1≠b) :
  Inv X pins σ H' { s with heap:=h',gens:=g',drawn:=d',toks:=t' }:=by
 obtain⟨m,⟨o,es,ep,ho,r⟩,_⟩:=id I.loc
 obtain⟨sl,hL⟩:=u.any ho I.free λz=>(hch _ z).2.1 rfl
 exact I.step (ch:=ch) hch (λb o hL hb hc e n=>u.keep b o e n (λz=>(Γ.mp (I.stkSub b z)).elim hL hb) hc) (λb o _ _ hc e n=>u.any e n hc) (λb o hc e n=>u.free b o e n hc) (λb o hc e=>u.there b o e hc) u.tups u.frzs u.tbls (λm' hm=>by
  obtain⟨o',es',ep',ho',r'⟩:=hm
  rw[ho] at ho';cases ho'
  exact⟨_,es',ep',hL,r'⟩) hok hg
theorem Inv.turned{t':Nat}{it:Addr}(I:Inv X pins σ H s)(k:∀b o,b≠it->s.heap.get? b=some o->h'.get? b=some o)(hn:H it=none)(hL:it≠X.env.locals)
  (h1:it∈X.ex\/X.s₀.heap.objs.size<=it) (h2:∀x c,X.env.cells.lookup x=some c->c≠it) (h3:∀p∈X.pn++pins,p.1≠it):Inv X pins σ H { s with heap:=h',toks:=t' }:=by
 have nit:∀b u,H b=some u->b≠it:=λb u e z=>by rw[z,hn] at e;cases e
 refine I.step (g':=s.gens) (d':=s.drawn) (ch:=[it]) (λb hb=>?_) (λb o _ _ hc e _=>k b o (λz=>hc (by simp [z])) e) (λb o _ _ hc e _=>⟨o.slots,k b o (λz=>hc (by simp [z])) e⟩) (λ_ _ _ _ n=>n)
  (λb o hc e=>⟨o,k b o (λz=>hc (by simp [z])) e⟩) (λ_ _ e=>e) (λ_ _ _ e=>e) (λb ps e=>⟨#[],by rw[e];simp⟩) (λm hm=>?_) (λb u e=>?_) I.bare
 ·have e:b=it:=by simpa using hb
  subst e
  exact⟨h1,hL,h2,h3⟩
 ·obtain⟨o,es,ep,ho,r⟩:=hm
  exact⟨o,es,ep,k _ o (Ne.symm hL) ho,r⟩
 ·refine(I.hok b u e).stay (λc v hc q=>k c v ?_ q) (λ_ q=>q) λ_ _ q=>q
  rcases hc with z | z
  ·rw[z];exact nit b u e
  ·exact nit c _ z
theorem Inv.tok(I:Inv X pins σ H s)(t:Nat):Inv X pins σ H { s with toks:=t }:=I.un (h':=s.heap) (t':=t) Un.refl I.hok
theorem Inv.kept(I:Inv X pins σ H s)(k:∀b u,s.heap.get? b=some u->h'.get? b=some u):Inv X pins σ H { s with heap:=h',toks:=t' }:=I.un (Un.kept k) (I.hok.kept k)
theorem Inv.laid(I:Inv X pins σ H s)(k:∀b u,s.heap.get? b=some u->h'.get? b=some u)(hp:s.heap.objs.size<=a)(new:fM X.prog X.w (upd H a o) h' a o) :
  Inv X pins σ (upd H a o) { s with heap:=h',toks:=t' }:=I.un (Un.laid k hp (I.hok.fresh hp)) (I.hok.laid k hp new)
theorem Inv.write(I:Inv X pins σ H s)(mu:Mut (H x))(he:e=x\/H e=some (.own x))(k:∀b u,b≠e->s.heap.get? b=some u->h'.get? b=some u)(heo:∃u,h'.get? e=some u)
  (new:fM X.prog X.w (upd H x o) h' x o):Inv X pins σ (upd H x o) { s with heap:=h',toks:=t' }:=I.un (Un.write mu he k heo) (I.hok.write mu he k heo new)
theorem Inv.pins_of(I:Inv X pins σ H s)(h:∀p∈pins',s.heap.get? p.1=some p.2/\H p.1=none/\p.1≠X.env.locals/\p.1∉X.fs/\∀v,p.2.data≠.cell v):Inv X pins' σ H s :=
 ⟨I.ok,I.os,I.bare,I.base,I.loc,I.cell,I.free,I.freeC,λp hp=>(Z7.mp hp).elim (λz=>I.pin p (List.mem_append_left _ z)) (h p),I.hok,I.len⟩
theorem sy{N:List Str}(hN:N.Nodup){i j:Nat}{x:Str}(a:N[i]?=some x)(b:N[j]?=some x):i=j:=by
 obtain⟨h1,e1⟩:=ς.mp a
 obtain⟨h2,e2⟩:=ς.mp b
 exact(List.getElem_inj hN).mp (e1.trans e2.symm)
theorem pz{M:Model}{A:Around}{E:Value->Shared->Prop}{i:Nat}{x:Str}{v:V}{u:Value}{Q:Unit->Shared->Prop}(I:Inv X pins σ H s)(hN:X.N.Nodup)(hi:X.N[i]?=some x)(hx:Loc X.env.scope x)(r:bR v u)
  (h:∀s',Inv X pins (σ.set i (some v)) H s'->(∃a,Heap.SameBut a s.heap s'.heap/\(a=X.env.locals\/X.env.cells.lookup x=some a))->Q () s') (hf:X.fn x=true\/X.env.scope.names.lookup x=some .local:=by first | exact .inl rfl | exact .inr rfl | assumption):wpAny M A (storeName X.env x u) Q E s:=by
 obtain⟨m,hn,hl⟩:=id I.loc
 have hcls:(X.env.scope.kind==.class||(X.env.scope.kind==.module&&X.env.locals != X.env.globals))=false:=by rw[I.ok.kind];rfl
 have hiσ:i<σ.length:=by rw[I.len];exact(ς.mp hi).1
 have cne:=I.cne
 have tracked:∀{a:Addr} {h':Heap},(∃o,s.heap.get? a=some o/\H a=none)->Heap.SameBut a s.heap h'->HOk X.prog X.w H h':=λ{a h'} ha hs b ob e=>by
  obtain⟨_,_,hfree⟩:=ha
  refine(I.hok b ob e).stay (λc w' hc q=>(hs.2 c ?_).trans q) (λ_ q=>q) λ_ _ q=>q
  rintro rfl
  rcases hc with rfl | hc
  ·rw[hfree] at e;cases e
  ·rw[hfree] at hc;cases hc
 rcases hx with hk | hk
 ·refine wpAny_storeName_local hk hn (λh' hn' hs=>?_) hcls
  obtain⟨oL,_,_,hoL,_⟩:=id hn
  refine h _ ⟨I.ok,I.os,I.bare,⟨λb o e n hb hx=>?_,λb o e n hb hx=>?_,I.base.free,λb o e hx=>?_,I.base.tups,I.base.frzs,I.base.tbls⟩,⟨_,hn',λj y v' e1 e2 e3=>?_⟩,λy c e=>?_,I.free,I.freeC,λp hp=>?_,tracked ⟨oL,hoL,I.free⟩ hs,by simpa using I.len⟩ ⟨_,hs,.inl rfl⟩
  ·exact(hs.2 b (Z8 (Z2 (Heap.lt_size e) I.ok.above))).trans (I.base.keep b o e n hb hx)
  ·obtain⟨sl,e1⟩:=I.base.slot b o e n hb hx
   exact⟨sl,(hs.2 b (Z8 (Z2 (Heap.lt_size e) I.ok.above))).trans e1⟩
  ·obtain⟨o',e1⟩:=I.base.there b o e hx
   exact⟨o',(hs.2 b (Z8 (Z2 (Heap.lt_size e) I.ok.above))).trans e1⟩
  ·by_cases hj:j=i
   ·subst hj
    rw[hi] at e1;cases e1
    rw[List.getElem?_set_self hiσ] at e2
    cases e2
    exact⟨u,r,.inl ⟨hk,by simp⟩⟩
   ·rw[List.getElem?_set_ne (Ne.symm hj)] at e2
    obtain⟨u',r',q⟩:=hl j y v' e1 e2 e3
    refine⟨u',r',?_⟩
    rcases q with ⟨k,e⟩ | ⟨k,c,e,z⟩
    ·refine .inl ⟨k,?_⟩
     have:y≠x:=λe=>hj (sy hN e1 (e▸hi))
     simp [this,e]
    ·exact .inr ⟨k,c,e,z.sameBut hs (cne y c e)⟩
  ·obtain⟨w',z⟩:=I.cell y c e
   exact⟨w',z.sameBut hs (cne y c e)⟩
  ·obtain⟨e,n,ne,nf,d⟩:=I.pin p hp
   exact⟨(hs.2 p.1 ne).trans e,n,ne,nf,d⟩
 ·have hfn:X.fn x=true:=by
   rcases hf with z | z
   ·exact z
   ·rw[z] at hk;cases hk
  obtain⟨c,hc⟩:=I.ok.has x (.inl hk)
  obtain⟨w',z⟩:=I.cell x c hc
  refine wpAny_storeName_cell I.ok.kind hk hc z (λh' hc' hs=>?_)
  obtain⟨oc,hoc,hocd⟩:=id z
  refine h { s with heap:=h' } ⟨I.ok,I.os,I.bare,⟨λb o e n hb hx=>?_,λb o e n hb hx=>?_,I.base.free,λb o e hx=>?_,I.base.tups,I.base.frzs,I.base.tbls⟩,⟨m,hn.sameBut hs (Ne.symm (cne x c hc)),λj y v' e1 e2 e3=>?_⟩,λy c' e=>?_,I.free,I.freeC,λp hp=>?_,tracked ⟨oc,hoc,I.freeC x c hc⟩ hs,by simpa using I.len⟩ ⟨c,hs,.inr hc⟩
  ·exact(hs.2 b (Z8 (Z2 (Heap.lt_size e) (I.ok.cab x c hfn hc)))).trans (I.base.keep b o e n hb hx)
  ·obtain⟨sl,e1⟩:=I.base.slot b o e n hb hx
   exact⟨sl,(hs.2 b (Z8 (Z2 (Heap.lt_size e) (I.ok.cab x c hfn hc)))).trans e1⟩
  ·obtain⟨o',e1⟩:=I.base.there b o e hx
   exact⟨o',(hs.2 b (Z8 (Z2 (Heap.lt_size e) (I.ok.cab x c hfn hc)))).trans e1⟩
  ·by_cases hj:j=i
   ·subst hj
    rw[hi] at e1;cases e1
    rw[List.getElem?_set_self hiσ] at e2
    cases e2
    exact⟨u,r,.inr ⟨.inl hk,c,hc,hc'⟩⟩
   ·rw[List.getElem?_set_ne (Ne.symm hj)] at e2
    obtain⟨u',r',q⟩:=hl j y v' e1 e2 e3
    refine⟨u',r',?_⟩
    rcases q with q | ⟨k,c',e,z'⟩
    ·exact .inl q
    ·refine .inr ⟨k,c',e,z'.sameBut hs ?_⟩
     rintro rfl
     exact hj (sy hN e1 (I.ok.inj _ _ _ e hc▸hi))
  ·by_cases hcc:c'=c
   ·subst hcc;exact⟨_,hc'⟩
   ·obtain⟨w2,z2⟩:=I.cell y c' e
    exact⟨w2,z2.sameBut hs hcc⟩
  ·obtain⟨e,n,ne,nf,d⟩:=I.pin p hp
   refine⟨(hs.2 p.1 ?_).trans e,n,ne,nf,d⟩
   intro q
   rw[q,hoc] at e
   have q':oc=p.2:=Option.some.inj e
   exact d w' (by rw[<-q'];exact hocd)
theorem rQ(I:Inv X pins σ H s)(hN:X.N.Nodup)(hi:X.N[i]?=some x)(hx:Loc X.env.scope x)(r:bR v u)
  (h:∀s',Inv X pins (σ.set i (some v)) H s'->Q () s') (hf:X.fn x=true\/X.env.scope.names.lookup x=some .local:=by first | exact .inl rfl | exact .inr rfl | assumption):wpAny M A (storeName X.env x u) Q E s :=
 pz I hN hi hx r (λs' I' _=>h s' I') hf
theorem Inv.call'(I:Inv X pins σ H s)(ho:s'.os=s.os)(u:Un (frs X.stack) ch H H' s.heap s'.heap)(hok:HOk X.prog X.w H' s'.heap)(hg:AllBare s'.gens)
  (hch:∀b∈ch,(b∈X.ex\/X.s₀.heap.objs.size<=b)/\b≠X.env.locals/\(∀x c,X.env.cells.lookup x=some c->c≠b)/\∀p∈X.pn++pins,p.1≠b):Inv X pins σ H' s':=by
 obtain⟨h',g',d',t',o'⟩:=s'
 have e:o'=s.os:=ho
 subst e
 exact I.call (g':=g') (t':=t') (d':=d') u hok hg hch
end
abbrev XK:=Value->Option Addr->Hp->Prop
abbrev St:=List (Option V)
abbrev VK:=V->Hp->Prop
abbrev TE:=St->Hp->VK->Prop
abbrev TT:=St->Hp->(Bool->Hp->Prop)->Prop
abbrev TA:=St->Hp->(List V->Hp->Prop)->Prop
structure Ends where
 nx:St->Hp->Prop
 rt:VK
 bk:St->Hp->Prop:=λ_ _=>False
 ct:St->Hp->Prop:=λ_ _=>False
abbrev TS:=Ends->St->Hp->Prop
def EP(X:Cx)(pins:List (Addr×Obj))(σ:St)(Q:VK)(u:Value)(s':Shared):Prop:=∃v H',Inv X pins σ H' s'/\bR v u/\Q v H'
def TP(X:Cx)(pins:List (Addr×Obj))(σ:St)(Q:Bool->Hp->Prop)(b:Bool)(s':Shared):Prop:=∃H',Inv X pins σ H' s'/\Q b H'
def AP(X:Cx)(pins:List (Addr×Obj))(σ:St)(Q:List V->Hp->Prop)(us:List Value)(s':Shared):Prop:=∃vs H',Inv X pins σ H' s'/\aS vs us/\Q vs H'
def SP(X:Cx)(pins:List (Addr×Obj))(D:Ends)(f:Flow)(s':Shared):Prop :=
 match f with
 | .next=>∃σ' H',Inv X pins σ' H' s'/\D.nx σ' H'
 | .brk=>∃σ' H',Inv X pins σ' H' s'/\D.bk σ' H'
 | .cont=>∃σ' H',Inv X pins σ' H' s'/\D.ct σ' H'
 | .ret u=>∃v σ' H',Inv X pins σ' H' s'/\bR v u/\D.rt v H'
def PE(X:Cx)(e:Expr)(t:TE):Prop :=
 ∀(pins:List (Addr×Obj)) (s:Shared) (σ:St) (H:Hp) (Q:VK),Inv X pins σ H s->t σ H Q->wpAny (model X.prog X.w) X.A (eval e X.env) (EP X pins σ Q) X.xe s
def PT(X:Cx)(e:Expr)(t:TT):Prop :=
 ∀(pins:List (Addr×Obj)) (s:Shared) (σ:St) (H:Hp) (Q:Bool->Hp->Prop),Inv X pins σ H s->t σ H Q->wpAny (model X.prog X.w) X.A (isTrue e X.env (eval e X.env)) (TP X pins σ Q) X.xe s
def PW(X:Cx)(e:Expr)(t:TT):Prop :=
 ∀(whole:Sem Value) (pins:List (Addr×Obj)) (s:Shared) (σ:St) (H:Hp) (Q:Bool->Hp->Prop),Inv X pins σ H s->t σ H Q->wpAny (model X.prog X.w) X.A (isTrue e X.env whole) (TP X pins σ Q) X.xe s
theorem PW.pt(h:PW X e t):PT X e t:=h _
def PA(X:Cx)(es:List Expr)(t:TA):Prop :=
 ∀(pos:Pos) (pins:List (Addr×Obj)) (s:Shared) (σ:St) (H:Hp) (Q:List V->Hp->Prop),Inv X pins σ H s->t σ H Q->wpAny (model X.prog X.w) X.A (spliced (backTo pos (starEach es X.env))) (AP X pins σ Q) X.xe s
def PS(X:Cx)(st:Stmt)(t:TS):Prop :=
 ∀(pins:List (Addr×Obj)) (s:Shared) (σ:St) (H:Hp) (D:Ends),Inv X pins σ H s->t D σ H->wpAny (model X.prog X.w) X.A (exec st X.env) (SP X pins D) X.xe s
def PSs(X:Cx)(st:List Stmt)(t:TS):Prop :=
 ∀(pins:List (Addr×Obj)) (s:Shared) (σ:St) (H:Hp) (D:Ends),Inv X pins σ H s->t D σ H->wpAny (model X.prog X.w) X.A (execs st X.env) (SP X pins D) X.xe s
theorem thn(h:wpAny M A t Q E s)(hQ:∀a s,Q a s->Q' a s):wpAny M A t Q' E s:=wpAny_mono h hQ λ_ _ x=>x
end L2
namespace L2
open PyProof.Rows
section
variable{X:Cx}
noncomputable def oV(i:Nat):TE:=λσ H Q=>∃v,σ[i]?=some (some v)/\Q v H
noncomputable def tC(v:V):TE:=λ_ H Q=>Q v H
theorem pe_var(hN:X.N[i]?=some x)(hv:Vis X.env.scope x)(hd:(x==("__debug__" : Str))=false:=by decide)(hcd:(x==("__classdict__" : Str))=false:=by decide):PE X (.Name x pos) (oV i):=by
 intro pins s σ H Q I h
 obtain⟨v,e,h⟩:=h
 obtain⟨m,hn,hl⟩:=I.loc
 obtain⟨u,r,l⟩:=hl i x v hN e hv
 have fin:EP X pins σ Q u s:=⟨v,H,I,r,h⟩
 rcases l with ⟨hk,hm⟩ | ⟨hk,c,hc,hcell⟩
 ·exact wpAny_Name (wpAny_loadName_local I.ok.kind hk hn hm fin) hd
 ·rcases hk with hk | hk
  ·exact wpAny_Name (wpAny_loadName_cell I.ok.kind hk hc hcell fin) hd
  ·exact wpAny_Name (wpAny_loadName_free I.ok.kind hk hc hcell fin hcd) hd
theorem pe_int{i j pos}:PE X (.Constant (.int i) j pos) (tC (.int i)):=λ_ _ _ H _ I h=>wpAny_Constant_int ⟨.int i,H,I.tok _,⟨_,rfl⟩,h⟩
theorem pe_bl{b j pos}:PE X (.Constant (.bool b) j pos) (tC (.bl b)):=λ_ _ _ H _ I h=>Constant_bool ⟨.bl b,H,I,rfl,h⟩
theorem pe_non{j pos}:PE X (.Constant .none j pos) (tC .non):=λ_ _ _ H _ I h=>Constant_none ⟨.non,H,I,rfl,h⟩
theorem pe_str{x j pos}:PE X (.Constant (.str x) j pos) (tC (.str x)):=λ_ _ _ H _ I h=>Calls.Constant_str ⟨.str x,H,I.tok _,⟨_,rfl⟩,h⟩
def Gl(X:Cx)(x:Str):Prop:=X.env.kindOf x=some .globalImplicit
theorem qJ(I:Inv X pins σ H s)(hg:Gl X x)(hm:X.mg x=some u)(h:Q u s)
  (hd:(x==("__debug__" : Str))=false:=by decide):wpAny (model X.prog X.w) X.A (eval (.Name x pos) X.env) Q E s :=
 Calls.Name_function_global I.ok.kind hg (Calls.loadGlobal_global (by rw[I.ok.glob];exact I.mod.glob.keeps I.bk) hm h) hd
theorem jk(I:Inv X pins σ H s)(hg:Gl X x)(hm:X.mg x=none)(hv:bootBuiltins x=some u)(h:Q u s)
  (hn:x ≠ "__name__" := by decide) (hd:(x==("__debug__" : Str))=false:=by decide):wpAny (model X.prog X.w) X.A (eval (.Name x pos) X.env) Q E s:=by
 obtain⟨mb,h1,h2⟩:=I.mod.blt
 exact Calls.Name_function_global I.ok.kind hg (Calls.loadGlobal_builtin (by rw[I.ok.glob];exact I.mod.glob.keeps I.bk) hm (by rw[I.ok.blt];exact h1.keeps I.bk) ((h2 x hn).trans hv) h) hd
theorem pe_glob(hg:Gl X x)(hm:X.mg x=some u)(r:bR v u)(hd:(x==("__debug__" : Str))=false:=by decide):PE X (.Name x pos) (tC v) :=
 λ_ _ _ H _ I h=>qJ I hg hm ⟨v,H,I,r,h⟩ hd
theorem pe_bltn(hg:Gl X x)(hm:X.mg x=none)(hv:bootBuiltins x=some u)(r:bR v u)(hn:x ≠ "__name__" := by decide)(hd:(x==("__debug__" : Str))=false:=by decide):PE X (.Name x pos) (tC v) :=
 λ_ _ _ H _ I h=>jk I hg hm hv ⟨v,H,I,r,h⟩ hn hd
variable{a b:Expr}{ta tb:TE}{pos:Pos}
noncomputable def tB(t:TE):TT:=λσ H Q=>t σ H λx H1=>∃c,x=.bl c/\Q c H1
theorem pt_val(h:PE X e t)(he:∀whole,isTrue e X.env whole=(do let v <- whole;standAt e.pos;holding [v] (truthy v)):=by intro _;rfl):PT X e (tB t):=by
 intro pins s σ H Q I hw
 refine isTrue_plain (thn (h pins s σ H _ I hw) λv s1 ⟨x,H1,I1,r1,q1⟩=>?_) (he _)
 obtain⟨d,rfl,q⟩:=q1
 cases r1
 exact wpAny_truthy_bool ⟨H1,I1,q⟩
variable{tA tB':TT}{rest:List Expr}
noncomputable def tAnd(t u:TT):TT:=λσ H Q=>t σ H λc H1=>if c=true then u σ H1 Q else Q false H1
noncomputable def tOr(t u:TT):TT:=λσ H Q=>t σ H λc H1=>if c=true then Q true H1 else u σ H1 Q
noncomputable def tNot(t:TT):TT:=λσ H Q=>t σ H λc H1=>Q (!c) H1
theorem pw_and1(ha:PT X a tA):PW X (.BoolOp .And [a] pos) tA:=by
 intro wh pins s σ H Q I h
 refine isTrue_and (thn (ha pins s σ H Q I h) λc s1 e=>?_)
 cases c with
 | true=>exact isTrue_and_nil e
 | false=>exact e
theorem pw_or1(ha:PT X a tA):PW X (.BoolOp .Or [a] pos) tA:=by
 intro wh pins s σ H Q I h
 refine isTrue_or (thn (ha pins s σ H Q I h) λc s1 e=>?_)
 cases c with
 | false=>exact isTrue_or_nil e
 | true=>exact e
theorem pw_and(ha:PT X a tA)(hb:PW X (.BoolOp .And (b::rest) pos) tB'):PW X (.BoolOp .And (a::b::rest) pos) (tAnd tA tB'):=by
 intro wh pins s σ H Q I h
 refine isTrue_and (thn (ha pins s σ H _ I h) λc s1 ⟨H1,I1,q1⟩=>?_)
 cases c with
 | true=>exact hb wh pins s1 σ H1 Q I1 q1
 | false=>exact⟨H1,I1,q1⟩
theorem pw_or(ha:PT X a tA)(hb:PW X (.BoolOp .Or (b::rest) pos) tB'):PW X (.BoolOp .Or (a::b::rest) pos) (tOr tA tB'):=by
 intro wh pins s σ H Q I h
 refine isTrue_or (thn (ha pins s σ H _ I h) λc s1 ⟨H1,I1,q1⟩=>?_)
 cases c with
 | true=>exact⟨H1,I1,q1⟩
 | false=>exact hb wh pins s1 σ H1 Q I1 q1
theorem pt_not(ha:PT X a tA):PT X (.UnaryOp .Not a pos) (tNot tA):=by
 intro pins s σ H Q I h
 exact isTrue_not (ha pins s σ H (λc H1=>Q (!c) H1) I h)
noncomputable def tAndV(ta tb:TE):TE:=λσ H Q=>ta σ H λx H1=>∃c,x=.bl c/\if c=true then tb σ H1 Q else Q (.bl false) H1
noncomputable def tOrV(ta tb:TE):TE:=λσ H Q=>ta σ H λx H1=>∃c,x=.bl c/\if c=true then Q (.bl true) H1 else tb σ H1 Q
noncomputable def tNotV(ta:TE):TE:=λσ H Q=>ta σ H λx H1=>∃c,x=.bl c/\Q (.bl (!c)) H1
theorem pe_one{op}(h:PE X a t):PE X (.BoolOp op [a] pos) t:=λpins s σ H Q I hw=>BoolOp_one (h pins s σ H Q I hw)
theorem pe_and(ha:PE X a ta)(hb:PE X (.BoolOp .And (b::rest) pos) tb):PE X (.BoolOp .And (a::b::rest) pos) (tAndV ta tb):=by
 intro pins s σ H Q I h
 refine BoolOp_and (thn (ha pins s σ H _ I h) λv s1 ⟨x,H1,I1,r1,q1⟩=>?_)
 obtain⟨c,rfl,q1⟩:=q1
 cases r1
 refine wpAny_truthy_bool ?_
 cases c with
 | true=>exact hb pins s1 σ H1 Q I1 q1
 | false=>exact⟨.bl false,H1,I1,rfl,q1⟩
theorem pe_or(ha:PE X a ta)(hb:PE X (.BoolOp .Or (b::rest) pos) tb):PE X (.BoolOp .Or (a::b::rest) pos) (tOrV ta tb):=by
 intro pins s σ H Q I h
 refine BoolOp_or (thn (ha pins s σ H _ I h) λv s1 ⟨x,H1,I1,r1,q1⟩=>?_)
 obtain⟨c,rfl,q1⟩:=q1
 cases r1
 refine wpAny_truthy_bool ?_
 cases c with
 | false=>exact hb pins s1 σ H1 Q I1 q1
 | true=>exact⟨.bl true,H1,I1,rfl,q1⟩
theorem pe_not(ha:PE X a ta):PE X (.UnaryOp .Not a pos) (tNotV ta):=by
 intro pins s σ H Q I h
 refine UnaryOp_ (thn (ha pins s σ H _ I h) λv s1 ⟨x,H1,I1,r1,q1⟩=>?_)
 obtain⟨c,rfl,q1⟩:=q1
 cases r1
 exact not_of (wpAny_truthy_bool ⟨.bl (!c),H1,I1,rfl,q1⟩)
noncomputable def tIf(t:TT)(ta tb:TE):TE:=λσ H Q=>t σ H λc H1=>if c=true then ta σ H1 Q else tb σ H1 Q
theorem xX(hc:PT X c tA)(ha:PE X a ta)(hb:PE X b tb):PE X (.IfExp c a b pos) (tIf tA ta tb):=by
 intro pins s σ H Q I h
 refine wpAny_IfExp (thn (hc pins s σ H _ I h) λd s1 ⟨H1,I1,q1⟩=>?_)
 cases d with
 | true=>exact ha pins s1 σ H1 Q I1 q1
 | false=>exact hb pins s1 σ H1 Q I1 q1
end
end L2
namespace L2
open PyProof.Rows
def SqL(K:ζ)(H:Hp)(a:Addr)(xs:List V):Prop :=
 Rd H a (.lst xs) \/
  ∃(o:Obj) (its:Array Value) (n:Nat),K.lookup a=some o/\o.cls=.type "list" /\ o.dict=none/\o.data=.seq its n/\its.size<=sizeLine/\aS xs its.toList
def SqT(K:ζ)(H:Hp)(a:Addr)(xs:List V):Prop :=
 Rd H a (.tup xs) \/
  ∃(o:Obj) (its:Array Value) (n:Nat),K.lookup a=some o/\o.cls=.type "tuple" /\ o.data=.seq its n/\its.size<=sizeLine/\aS xs its.toList
noncomputable def absV:Value->Option V
 | .none=>some .non
 | .bool b=>some (.bl b)
 | .int i _=>some (.int i)
 | .str x _=>some (.str x)
 | .bytes b _=>some (.byt b)
 | .float b _=>some (.flt b)
 | .ref a=>some (.ref a)
 | .type n=>some (.ty n)
 | _=>none
theorem bR.abs(r:bR x u):absV u=some x:=by
 cases x with
 | non=>cases r;rfl
 | bl _=>cases r;rfl
 | int _=>obtain⟨t,rfl⟩:=r;rfl
 | str _=>obtain⟨t,rfl⟩:=r;rfl
 | byt _=>obtain⟨t,rfl⟩:=r;rfl
 | flt _=>obtain⟨t,rfl⟩:=r;rfl
 | ref _=>cases r;rfl
 | ty _=>cases r;rfl
theorem bR.inj(r:bR x u)(q:bR y u):x=y:=Option.some.inj (r.abs.symm.trans q.abs)
theorem aS.inj:∀{xs ys:List V} {us:List Value},aS xs us->aS ys us->xs=ys
 | _,_,_,.nil,.nil=>rfl
 | _,_,_,.cons r t,.cons r' t'=>by rw[r.inj r',aS.inj t t']
section
variable{X:Cx}{pins:List (Addr×Obj)}{σ:St}{H:Hp}{s:Shared}{a:Addr}{xs ys:List V}
theorem SqT.of{K:ζ}(h:H a=some (.tup xs)):SqT K H a xs:=.inl (.inl h)
theorem Inv.list(I:Inv X pins σ H s)(h:SqL X.K H a xs):∃its:List Value,aS xs its/\PlainL s.heap a its.toArray/\xs.length<=sizeLine:=by
 rcases h with h | ⟨o,its,n,hk,hc,hd,hs,hz,r⟩
 ·obtain⟨z,its,n,r,e⟩:=h.ok I.hok
  exact⟨its,r,⟨_,n,e,rfl,rfl,rfl⟩,z⟩
 ·refine⟨its.toList,r,⟨o,n,I.kIn a o hk,hc,hd,by simpa using hs⟩,?_⟩
  have e:=r.length
  simp only[T8] at e
  omega
theorem Inv.tuple(I:Inv X pins σ H s)(h:SqT X.K H a xs):∃its:List Value,aS xs its/\IsTup s.heap a its.toArray/\xs.length<=sizeLine:=by
 rcases h with h | ⟨o,its,n,hk,hc,hs,hz,r⟩
 ·obtain⟨z,its,r,p⟩:=h.ok I.hok
  exact⟨its,r,p,z⟩
 ·refine⟨its.toList,r,⟨o,I.kIn a o hk,hc,n,by simpa using hs⟩,?_⟩
  have e:=r.length
  simp only[T8] at e
  omega
theorem Inv.list_inj(I:Inv X pins σ H s)(h:SqL X.K H a xs)(h':SqL X.K H a ys):xs=ys:=by
 obtain⟨its,r,⟨o,n,e,_,_,d⟩,_⟩:=I.list h
 obtain⟨its',r',⟨o',n',e',_,_,d'⟩,_⟩:=I.list h'
 rw[e] at e';cases e'
 rw[d] at d'
 injection d' with d1 _
 have:its=its':=by simpa using congrArg Array.toList d1
 subst this
 exact r.inj r'
theorem Inv.tuple_inj(I:Inv X pins σ H s)(h:SqT X.K H a xs)(h':SqT X.K H a ys):xs=ys:=by
 obtain⟨its,r,⟨o,e,_,n,d⟩,_⟩:=I.tuple h
 obtain⟨its',r',⟨o',e',_,n',d'⟩,_⟩:=I.tuple h'
 rw[e] at e';cases e'
 rw[d] at d'
 injection d' with d1 _
 have:its=its':=by simpa using congrArg Array.toList d1
 subst this
 exact r.inj r'
end
abbrev Cx.wish(X:Cx)(E:Value->Shared->Prop):Cx:={ X with xe:=E }
abbrev Cx.nox(X:Cx):Cx:=X.wish λ_ _=>False
theorem Cx.Ok.wish{X:Cx}(ok:X.Ok)(E:Value->Shared->Prop):(X.wish E).Ok :=
 ⟨ok.mod,ok.kind,ok.glob,ok.blt,ok.above,ok.inj,ok.has,ok.cab,ok.hd,ok.frames,ok.stk,ok.exf,ok.bs,ok.bsz,ok.noex,ok.exfs,ok.funs,ok.frf⟩
theorem Cx.Ok.unwish{X:Cx}{E:Value->Shared->Prop}(ok:(X.wish E).Ok):X.Ok :=
 ⟨ok.mod,ok.kind,ok.glob,ok.blt,ok.above,ok.inj,ok.has,ok.cab,ok.hd,ok.frames,ok.stk,ok.exf,ok.bs,ok.bsz,ok.noex,ok.exfs,ok.funs,ok.frf⟩
section
variable{X:Cx}{pins:List (Addr×Obj)}{σ:St}{H:Hp}{s:Shared}{E:Value->Shared->Prop}
theorem Inv.wish(I:Inv X pins σ H s)(E:Value->Shared->Prop):Inv (X.wish E) pins σ H s:=⟨I.ok.wish E,I.os,I.bare,I.base,I.loc,I.cell,I.free,I.freeC,I.pin,I.hok,I.len⟩
theorem Inv.unwish(I:Inv (X.wish E) pins σ H s):Inv X pins σ H s:=⟨I.ok.unwish,I.os,I.bare,I.base,I.loc,I.cell,I.free,I.freeC,I.pin,I.hok,I.len⟩
theorem SP.unwish(h:SP (X.wish E) pins D f s'):SP X pins D f s':=by
 cases f with
 | next=>obtain⟨σ',H',I,q⟩:=h;exact⟨σ',H',I.unwish,q⟩
 | brk=>obtain⟨σ',H',I,q⟩:=h;exact⟨σ',H',I.unwish,q⟩
 | cont=>obtain⟨σ',H',I,q⟩:=h;exact⟨σ',H',I.unwish,q⟩
 | ret u=>obtain⟨v,σ',H',I,r,q⟩:=h;exact⟨v,σ',H',I.unwish,r,q⟩
theorem PSs.nox{st:List Stmt}{t:TS}(h:PSs X.nox st t):PSs X st t:=λpins s σ H D I hw =>
 wpAny_mono (h pins s σ H D (I.wish _) hw) (λ_ _ q=>q.unwish) λ_ _ z=>False.elim z
end
section
variable{X:Cx}{st:Stmt}{rest:List Stmt}{t u:TS}{e:Expr}{te:TE}{pos:Pos}
noncomputable def tNext:TS:=λD σ H=>D.nx σ H
noncomputable def tSeq(t u:TS):TS:=λD σ H=>t { D with nx:=u D } σ H
theorem uZ:PSs X [] tNext:=λ_ _ σ H _ I h=>wpAny_execs_nil ⟨σ,H,I,h⟩
theorem nR(h1:PS X st t)(h2:PSs X rest u):PSs X (st::rest) (tSeq t u):=by
 intro pins s σ H D I h
 refine wpAny_execs_cons (thn (h1 pins s σ H { D with nx:=u D } I h) λf s1 q=>?_)
 cases f with
 | next =>
  obtain⟨σ',H',I',q⟩:=q
  exact h2 pins s1 σ' H' D I' q
 | ret v=>exact q
 | brk=>exact q
 | cont=>exact q
theorem qw(h1:PS X st t):PSs X [st] t:=by
 intro pins s σ H D I h
 refine wpAny_execs_cons (thn (h1 pins s σ H D I h) λf s1 q=>?_)
 cases f with
 | next=>exact wpAny_execs_nil q
 | ret v=>exact q
 | brk=>exact q
 | cont=>exact q
theorem Inv.quiet(I:Inv X pins σ H s):interactive X.env=false:=by simp [interactive,I.ok.kind]
noncomputable def tDrop(te:TE):TS:=λD σ H=>te σ H λ_ H1=>D.nx σ H1
theorem u0(he:PE X e te)(hs:swapsWith e none pos.line X.env=pure false:=by rfl):PS X (.Expr e pos) (tDrop te):=by
 intro pins s σ H D I h
 exact wpAny_Expr_any (thn (he pins s σ H _ I h) λv s1 ⟨x,H1,I1,r1,q1⟩=>⟨σ,H1,I1,q1⟩) I.quiet hs
noncomputable def tRet(te:TE):TS:=λD σ H=>te σ H D.rt
theorem lV(he:PE X e te):PS X (.Return (some e) pos) (tRet te):=by
 intro pins s σ H D I h
 exact wpAny_Return_some (thn (he pins s σ H _ I h) λv s1 ⟨x,H1,I1,r1,q1⟩=>⟨x,σ,H1,I1,r1,q1⟩)
noncomputable def tIfS(c:TT)(t u:TS):TS:=λD σ H=>c σ H λb H1=>if b=true then t D σ H1 else u D σ H1
theorem ps_if(hc:PT X c tc)(ha:PSs X a t)(hb:PSs X b u):PS X (.If c a b pos) (tIfS tc t u):=by
 intro pins s σ H D I h
 refine wpAny_If (thn (hc pins s σ H _ I h) λd s1 ⟨H1,I1,q1⟩=>?_)
 cases d with
 | true=>exact ha pins s1 σ H1 D I1 q1
 | false=>exact hb pins s1 σ H1 D I1 q1
end
abbrev TG:=V->St->Hp->(St->Hp->Prop)->Prop
abbrev TGs:=List V->St->Hp->(St->Hp->Prop)->Prop
def PG(X:Cx)(target:Expr)(t:TG):Prop :=
 ∀(pins:List (Addr×Obj)) (s:Shared) (σ:St) (H:Hp) (v:V) (u:Value) (Q:St->Hp->Prop),Inv X pins σ H s->bR v u->t v σ H Q ->
  wpAny (model X.prog X.w) X.A (assign target X.env u) (λ_ s'=>∃σ' H',Inv X pins σ' H' s'/\Q σ' H') X.xe s
def PGs(X:Cx)(ts:List Expr)(t:TGs):Prop :=
 ∀(pins:List (Addr×Obj)) (s:Shared) (σ:St) (H:Hp) (vs:List V) (us:List Value) (Q:St->Hp->Prop),Inv X pins σ H s->aS vs us->t vs σ H Q ->
  wpAny (model X.prog X.w) X.A (assignInOrder ((assignEach ts X.env).map (·.2)) us) (λ_ s'=>∃σ' H',Inv X pins σ' H' s'/\Q σ' H') X.xe s
abbrev TSet:=V->V->V->Hp->(Hp->Prop)->Prop
def PSet(X:Cx)(t:TSet):Prop :=
 ∀(pins:List (Addr×Obj)) (s:Shared) (σ:St) (H:Hp) (o i v:V) (ov iv u:Value) (Q:Hp->Prop),Inv X pins σ H s->bR o ov->bR i iv->bR v u->t o i v H Q ->
  wpAny (model X.prog X.w) X.A (setItem ov iv u) (λ_ s'=>∃H',Inv X pins σ H' s'/\Q H') X.xe s
abbrev TIp:=V->V->Hp->VK->Prop
def PIp(X:Cx)(op:Operator)(t:TIp):Prop :=
 ∀(pins:List (Addr×Obj)) (s:Shared) (σ:St) (H:Hp) (x y:V) (v u:Value) (Q:VK),Inv X pins σ H s->bR x v->bR y u->t x y H Q ->
  wpAny (model X.prog X.w) X.A (inplaceOp op v u) (EP X pins σ Q) X.xe s
section
noncomputable def vB(i:Nat):TG:=λv σ H Q=>Q (σ.set i (some v)) H
theorem br(hN:X.N.Nodup)(hi:X.N[i]?=some x)(hx:Loc X.env.scope x)(hf:X.fn x=true\/X.env.scope.names.lookup x=some .local:=by first | exact .inl rfl | exact .inr rfl | assumption):PG X (.Name x pos) (vB i):=by
 intro pins s σ H v u Q I r h
 exact wpAny_assign_Name (rQ I hN hi hx r (λs' I'=>⟨_,H,I',h⟩) hf)
noncomputable def gNil:TGs:=λvs σ H Q=>vs=[]/\Q σ H
noncomputable def gCons(t:TG)(u:TGs):TGs:=λvs σ H Q=>∃v r,vs=v::r/\t v σ H λσ' H'=>u r σ' H' Q
theorem u9:PGs X [] gNil:=by
 intro pins s σ H vs us Q I r h
 obtain⟨e,h⟩:=h
 subst e
 cases r
 exact assignInOrder_nil ⟨σ,H,I,h⟩
theorem se(h1:PG X e t)(h2:PGs X es u)
  (hs:(assignEach (e::es) X.env).map (·.2)=assign e X.env::(assignEach es X.env).map (·.2):=by rfl):PGs X (e::es) (gCons t u):=by
 intro pins s σ H vs us Q I r h
 obtain⟨v,vr,e1,h⟩:=h
 subst e1
 cases r with
 | cons r rr =>
  rw[hs]
  refine assignInOrder_cons (thn (h1 pins s σ H _ _ _ I r h) λ_ s1 ⟨σ1,H1,I1,q1⟩=>?_)
  exact h2 pins s1 σ1 H1 _ _ Q I1 rr q1
noncomputable def gTup(K:ζ)(n:Nat)(t:TGs):TG:=λv σ H Q=>∃a xs,v=.ref a/\SqT K H a xs/\xs.length=n/\t xs σ H Q
theorem xV(hc:X.calm=true)(h:PGs X es t)
  (hn:(assignEach es X.env).length=n:=by rfl) (hst:(assignEach es X.env).findIdx? (·.1)=none:=by rfl):PG X (.Tuple es k pos) (gTup X.K n t):=by
 intro pins s σ H v u Q I r hw
 obtain⟨a,xs,e1,hq,hl,hw⟩:=hw
 subst e1
 cases r
 obtain⟨its,rv,ht,hz⟩:=I.tuple hq
 refine assign_Tuple_tuple (I.ok.hd hc) ht (by simp [hn,<-hl,rv.length]) hst λh' hx=>?_
 have I1:Inv X pins σ H { s with heap:=h' }:=I.kept (t':=s.toks) λb o e=>hx b o (Z8 (Heap.lt_size e)) e
 exact h pins _ σ H xs _ Q I1 (by simpa using rv) hw
noncomputable def gSub(to ti:TE)(t:TSet):TG:=λv σ H Q=>to σ H λo H1=>ti σ H1 λi H2=>t o i v H2 λH3=>Q σ H3
theorem tU(ho:PE X o to)(hi:PE X i ti)(hs:PSet X t)
  (ha:∀v,assign (.Subscript o i pos) X.env v=(do
   let ov <- holding [v] (eval o X.env)
   let iv <- holding [v,ov] (eval i X.env)
   standAt pos
   holding [v,ov,iv] (setItem ov iv v)
   release [v,ov,iv] []):=by intro _;rfl):PG X (.Subscript o i pos) (gSub to ti t):=by
 intro pins s σ H v u Q I r h
 rw[ha]
 refine wpAny_bind (wpAny_holding (thn (ho pins s σ H _ I h) λov s1 ⟨x,H1,I1,r1,q1⟩=>?_))
 refine wpAny_bind (wpAny_holding (thn (hi pins s1 σ H1 _ I1 q1) λiv s2 ⟨y,H2,I2,r2,q2⟩=>?_))
 refine wpAny_bind (wpAny_standAt (wpAny_bind (wpAny_holding (thn (hs pins s2 σ H2 x y v ov iv u _ I2 r1 r2 r q2) λ_ s3 ⟨H3,I3,q3⟩=>?_))))
 exact wpAny_release ⟨σ,H3,I3,q3⟩
noncomputable def tAsg(te:TE)(g:TG):TS:=λD σ H=>te σ H λx H1=>g x σ H1 D.nx
theorem qy(he:PE X e te)(hg:PG X tg g)(hs:swapsWithSole [tg] e pos.line X.env=pure false:=by rfl)(hw:swappedStores [tg] e X.env=pure none:=by rfl)
  (h1:(assignEach [tg] X.env).map (·.2)=[assign tg X.env]:=by rfl):PS X (.Assign [tg] e pos) (tAsg te g):=by
 intro pins s σ H D I h
 refine wpAny_Assign_stores (thn (he pins s σ H _ I h) λv s1 ⟨x,H1,I1,r1,q1⟩=>?_) hs hw
 rw[h1]
 exact thn (hg pins s1 σ H1 x v _ I1 r1 q1) λ_ s2 q=>q
theorem qx(hN:X.N.Nodup)(hi:X.N[i]?=some x)(hx:Loc X.env.scope x)(he:PE X e te)(hs:swapsWith e (some (.Name x pos')) pos.line X.env=pure false:=by rfl)(hf:X.fn x=true\/X.env.scope.names.lookup x=some .local:=by first | exact .inl rfl | exact .inr rfl | assumption) :
  PS X (.Assign [.Name x pos'] e pos) (tAsg te (vB i)):=by
 intro pins s σ H D I h
 refine wpAny_Assign_Name (thn (he pins s σ H _ I h) λv s1 ⟨y,H1,I1,r1,q1⟩=>?_) hs
 exact rQ I1 hN hi hx r1 (λs2 I2=>⟨_,H1,I2,q1⟩) hf
def tAugS(to ti te:TE)(tget:V->V->Hp->VK->Prop)(tip:TIp)(tset:TSet):TS:=λD σ H=>to σ H λo H1=>ti σ H1 λi H2=>tget o i H2 λx H3=>te σ H3 λy H4=>tip x y H4 λz H5=>tset o i z H5 λH6=>D.nx σ H6
def PGet(X:Cx)(t:V->V->Hp->VK->Prop):Prop :=
 ∀(pins:List (Addr×Obj)) (s:Shared) (σ:St) (H:Hp) (o i:V) (ov iv:Value) (Q:VK),Inv X pins σ H s->bR o ov->bR i iv->t o i H Q ->
  wpAny (model X.prog X.w) X.A (getItem ov iv) (EP X pins σ Q) X.xe s
theorem u7(ho:PE X o to)(hi:PE X i ti)(hg:PGet X tget)(he:PE X e te)(hp:PIp X op tip)(hs:PSet X tset)
  (ha:∀ov iv new,augStore i ov iv new=(do holding [new,ov,iv] (setItem ov iv new);release [new,ov,iv] [];pure .next):=by intros;rfl):PS X (.AugAssign (.Subscript o i tpos) op e pos) (tAugS to ti te tget tip tset):=by
 intro pins s σ H D I h
 refine wpAny_AugAssign_SubscriptAny (thn (ho pins s σ H _ I h) λov s1 ⟨x1,H1,I1,r1,q1⟩=>?_) ha
 refine thn (hi pins s1 σ H1 _ I1 q1) λiv s2 ⟨x2,H2,I2,r2,q2⟩=>?_
 refine thn (hg pins s2 σ H2 x1 x2 ov iv _ I2 r1 r2 q2) λold s3 ⟨x3,H3,I3,r3,q3⟩=>?_
 refine thn (he pins s3 σ H3 _ I3 q3) λv s4 ⟨x4,H4,I4,r4,q4⟩=>?_
 refine thn (hp pins s4 σ H4 x3 x4 old v _ I4 r3 r4 q4) λnew s5 ⟨x5,H5,I5,r5,q5⟩=>?_
 exact thn (hs pins s5 σ H5 x1 x2 x5 ov iv new _ I5 r1 r2 r5 q5) λ_ s6 ⟨H6,I6,q6⟩=>⟨σ,H6,I6,q6⟩
noncomputable def ipI(f:Int->Int->Int):TIp:=λx y H Q=>∃i j,x=.int i/\y=.int j/\Q (.int (f i j)) H
theorem ip_add:PIp X .Add (ipI λi j=>i+j):=by
 intro pins s σ H x y v u Q I r1 r2 h
 obtain⟨i,j,e1,e2,q⟩:=h
 subst e1;subst e2
 obtain⟨t,rfl⟩:=r1
 obtain⟨t',rfl⟩:=r2
 exact iadd_int ⟨.int _,H,I.tok _,⟨_,rfl⟩,q⟩
theorem ip_sub:PIp X .Sub (ipI λi j=>i-j):=by
 intro pins s σ H x y v u Q I r1 r2 h
 obtain⟨i,j,e1,e2,q⟩:=h
 subst e1;subst e2
 obtain⟨t,rfl⟩:=r1
 obtain⟨t',rfl⟩:=r2
 exact isub_int ⟨.int _,H,I.tok _,⟨_,rfl⟩,q⟩
end
section
def tWhile(c:TT)(tb:TS):TS:=λD σ H=>∃W:Nat->St->Hp->Prop,(∃m,W m σ H)/\∀m σ H,W m σ H ->
 c σ H λb H1=>if b=true then ∃N:St->Hp->Prop,(∀σ' H',N σ' H'->∃m',m'<m/\W m' σ' H')/\tb { D with nx:=N,ct:=N,bk:=D.nx } σ H1 else D.nx σ H1
theorem sd(hp:PassesOwn (model X.prog X.w) X.A X.env X.xe)(hc:PT X c tc)(hb:PSs X body tb):PS X (.While c body [] pos) (tWhile tc tb):=by
 intro pins s σ H D I h
 obtain⟨W,⟨m0,w0⟩,turn⟩:=h
 refine wpAny_While (codeAny_whileLoop (λn s'=>∃σ' H',Inv X pins σ' H' s'/\W n σ' H') ?_ m0 ⟨σ,H,I,w0⟩)
 rintro n s1 ⟨σ1,H1,I1,w1⟩
 refine wpAny_passesOwn hp (thn (hc pins s1 σ1 H1 _ I1 (turn n σ1 H1 w1)) λb s2 ⟨H2,I2,q2⟩=>?_)
 cases b with
 | true =>
  obtain⟨N,hN,q2⟩:=q2
  rw[if_pos rfl]
  refine wpAny_passesOwn hp (thn (hb pins s2 σ1 H2 _ I2 q2) λf s3 q3=>?_)
  cases f with
  | next =>
   obtain⟨σ3,H3,I3,n3⟩:=q3
   obtain⟨m',hm,w3⟩:=hN σ3 H3 n3
   exact⟨m',hm,σ3,H3,I3,w3⟩
  | cont =>
   obtain⟨σ3,H3,I3,n3⟩:=q3
   obtain⟨m',hm,w3⟩:=hN σ3 H3 n3
   exact⟨m',hm,σ3,H3,I3,w3⟩
  | brk=>exact q3
  | ret v=>exact q3
 | false =>
  rw[if_neg ω]
  exact wpAny_execs_nil ⟨σ1,H2,I2,q2⟩
end
structure It where
 go:Nat->Hp->Prop
 yld:Nat->Hp->V->Hp->Prop
 stop:Nat->Hp->Prop
def lh(X:Cx)(pins:List (Addr×Obj))(H:Hp)(b:Addr):Prop :=
 H b=none/\b≠X.env.locals/\b∉X.fs/\(b∈X.ex\/X.s₀.heap.objs.size<=b)/\(∀x c,X.env.cells.lookup x=some c->c≠b)/\∀p∈X.pn++pins,p.1≠b
theorem Inv.fpOk(I:Inv X pins σ H s)(hb:s.heap.objs.size<=b)(hn:H' b=none):lh X pins H' b:=by
 refine⟨hn,Nat.ne_of_gt (Z2 I.lt hb),I.nofs hb,.inr (W1 I.sz hb),λx c e z=>?_,λp hp z=>?_⟩
 ·obtain⟨v,q⟩:=I.cell x c e
  exact absurd (Z2 q.lt (by rw[z];exact hb)) (V4 _)
 ·exact absurd (Z2 (Heap.lt_size (I.pin p hp).1) (by rw[z];exact hb)) (V4 _)
structure Turn(P:Program)(w:World)(K:ζ)(tg:Expr)(J:It)(fp:List Addr)(it:Addr)(tn:Nat->Heap->Prop):Prop where
 mem:it∈fp
 obj:∀i h,tn i h->∀b∈fp,∃o,h.get? b=some o/\∀v,o.data≠.cell v
 keep:∀i h h',tn i h->(∀b∈fp,∀o,h.get? b=some o->h'.get? b=some o)->tn i h'
 item:∀(X:Cx),X.prog=P->X.w=w->X.K=K->X.calm=true->∀(i:Nat) (pins:List (Addr×Obj)) (s:Shared) (σ:St) (H:Hp) (E:Value->Shared->Prop),Inv X pins σ H s->(∀b∈fp,lh X pins H b)->tn i s.heap->J.go i H ->
  wpAny (model P w) X.A (pyNext (.ref it)) (λr s1=>∃u,r=some u /\
   wpAny (model P w) X.A (letOwnedTupleGo tg (.ref it) u) (λ_ s2=>∃x H',Inv X pins σ H' s2/\bR x u/\J.yld i H x H'/\tn (i+1) s2.heap/\∀b∈fp,H' b=none) E s1) E s
 done:∀(X:Cx),X.prog=P->X.w=w->X.K=K->X.calm=true->∀(i:Nat) (pins:List (Addr×Obj)) (s:Shared) (σ:St) (H:Hp) (E:Value->Shared->Prop),Inv X pins σ H s->(∀b∈fp,lh X pins H b)->tn i s.heap->J.stop i H ->
  wpAny (model P w) X.A (pyNext (.ref it)) (λr s1=>r=none/\Inv X pins σ H s1) E s
 self:∀(A:Around) (i:Nat) (s:Shared) (Q:Value->Shared->Prop) (E:Value->Shared->Prop),tn i s.heap->Q (.ref it) s->wpAny (model P w) A (pyIter (.ref it)) Q E s
abbrev TI:=St->Hp->(It->Hp->Prop)->Prop
def PIE(X:Cx)(pins:List (Addr×Obj))(σ:St)(tg:Expr)(R:It->Hp->Prop)(itv:Value)(s2:Shared):Prop :=
 ∃(it:Addr) (fp:List Addr) (tn:Nat->Heap->Prop) (J:It) (H':Hp),itv=.ref it/\Inv X pins σ H' s2/\Turn X.prog X.w X.K tg J fp it tn/\tn 0 s2.heap/\(∀b∈fp,lh X pins H' b)/\R J H'
def PI(X:Cx)(tg iter:Expr)(wi:TI):Prop :=
 ∀(pins:List (Addr×Obj)) (s:Shared) (σ:St) (H:Hp) (R:It->Hp->Prop),Inv X pins σ H s->wi σ H R ->
  wpAny (model X.prog X.w) X.A (eval iter X.env) (λv s1=>wpAny (model X.prog X.w) X.A (pyIter v) (PIE X pins σ tg R) X.xe s1) X.xe s
theorem sJ(ho:s.heap.get? it=some o)(hc:o.cls=.type n)(hd:o.data=.fields vs)
    (hn:["enumerate", "zip", "dict_itemiterator", "dict_reverseitemiterator", "odict_iterator", "itertools.zip_longest", "itertools.pairwise"].contains n=false) (hQ:Q () s):wpAny M A (letOwnedTupleGo tg (.ref it) u) Q E s:=by
  unfold letOwnedTupleGo
  cases tg<;>first
    | exact wpAny_pure hQ
    | (cases u<;>first
        | exact wpAny_pure hQ
        | (refine wpAny_bind (wpAny_load ho ?_)
           rw[hc,hd]
           show wpAny M A (if (["enumerate", "zip", "dict_itemiterator", "dict_reverseitemiterator", "odict_iterator", "itertools.zip_longest", "itertools.pairwise"].contains n&&vs[0]?==some (rawInt _))=true then _ else _) Q E s
           rw[if_neg (by intro h;rw[hn,Bool.false_and] at h;cases h)]
           exact wpAny_pure hQ))
noncomputable def Itl(K:ζ)(a:Addr):It :=
 ⟨λi H=>∃xs x,SqL K H a xs/\xs[i]?=some x,λi H x H'=>H'=H/\∀xs,SqL K H a xs->xs[i]?=some x,λi H=>∃xs,SqL K H a xs/\xs.length<=i⟩
noncomputable def Itt(K:ζ)(a:Addr):It :=
 ⟨λi H=>∃xs x,SqT K H a xs/\xs[i]?=some x,λi H x H'=>H'=H/\∀xs,SqT K H a xs->xs[i]?=some x,λi H=>∃xs,SqT K H a xs/\xs.length<=i⟩
noncomputable def Itr(lo:Int)(n:Nat):It:=⟨λi _=>i<n,λi H x H'=>H'=H/\x=.int (lo+i),λi _=>n<=i⟩
theorem px{P:Program}{w:World}{K:ζ}{tg:Expr}(a it:Addr):Turn P w K tg (Itl K a) [it] it (λi h=>h.IsListIter it a i) where
 mem:=by simp
 obj:=λi h st b hb=>by
  have e:b=it:=by simpa using hb
  subst e
  obtain⟨o,e,c,d⟩:=st
  exact⟨o,e,λv z=>by rw[d] at z;cases z⟩
 keep:=λi h h' st k=>st.at λo e=>k it (by simp) o e
 item:=by
  intro X hP hw hK hc i pins s σ H E I hf st hg
  subst hP hw hK
  obtain⟨xs,x,hq,hx⟩:=hg
  obtain⟨its,rv,p,hz⟩:=I.list hq
  obtain⟨u,hu,ru⟩:=rv.get hx
  obtain⟨f0,f1,f2,f3,f4,f5⟩:=hf it (by simp)
  refine wpAny_pyNext_list_item st p.isList (x:=u) (by simpa using hu) λh' st' sb=>?_
  have I1:Inv X pins σ H { s with heap:=h' }:=I.turned (t':=s.toks) (λb o hb e=>(sb.2 b hb).trans e) f0 f1 f3 f4 f5
  obtain⟨o,e,c,d⟩:=id st'
  exact⟨u,rfl,sJ (s:={ s with heap:=h' }) e c d (by decide) ⟨x,H,I1,ru,⟨rfl,λys hy=>by rw[I.list_inj hy hq];exact hx⟩,st',λb hb=>(hf b hb).1⟩⟩
 done:=by
  intro X hP hw hK hc i pins s σ H E I hf st hg
  subst hP hw hK
  obtain⟨xs,hq,hx⟩:=hg
  obtain⟨its,rv,p,hz⟩:=I.list hq
  obtain⟨f0,f1,f2,f3,f4,f5⟩:=hf it (by simp)
  have hl:=rv.length
  exact wpAny_pyNext_list_end (I.ok.hd hc) st p.isList (by simp;omega) λh' eb=>⟨rfl,I.turned (t':=s.toks) (λb o hb e=>eb b o hb e) f0 f1 f3 f4 f5⟩
 self:=λ_ _ _ _ _ st h=>wpAny_pyIter_listiter st h
theorem tH{P:Program}{w:World}{K:ζ}{tg:Expr}(a it:Addr):Turn P w K tg (Itt K a) [it] it (λi h=>h.IsTupleIter it a i) where
 mem:=by simp
 obj:=λi h st b hb=>by
  have e:b=it:=by simpa using hb
  subst e
  obtain⟨o,e,c,d⟩:=st
  exact⟨o,e,λv z=>by rw[d] at z;cases z⟩
 keep:=λi h h' st k=>st.at λo e=>k it (by simp) o e
 item:=by
  intro X hP hw hK hc i pins s σ H E I hf st hg
  subst hP hw hK
  obtain⟨xs,x,hq,hx⟩:=hg
  obtain⟨its,rv,p,hz⟩:=I.tuple hq
  obtain⟨u,hu,ru⟩:=rv.get hx
  obtain⟨f0,f1,f2,f3,f4,f5⟩:=hf it (by simp)
  refine wpAny_pyNext_tuple_item st (show s.heap.IsTuple a its.toArray from p) (x:=u) (by simpa using hu) λh' st' sb=>?_
  have I1:Inv X pins σ H { s with heap:=h' }:=I.turned (t':=s.toks) (λb o hb e=>(sb.2 b hb).trans e) f0 f1 f3 f4 f5
  obtain⟨o,e,c,d⟩:=id st'
  exact⟨u,rfl,sJ (s:={ s with heap:=h' }) e c d (by decide) ⟨x,H,I1,ru,⟨rfl,λys hy=>by rw[I.tuple_inj hy hq];exact hx⟩,st',λb hb=>(hf b hb).1⟩⟩
 done:=by
  intro X hP hw hK hc i pins s σ H E I hf st hg
  subst hP hw hK
  obtain⟨xs,hq,hx⟩:=hg
  obtain⟨its,rv,p,hz⟩:=I.tuple hq
  obtain⟨f0,f1,f2,f3,f4,f5⟩:=hf it (by simp)
  have hl:=rv.length
  exact wpAny_pyNext_tuple_end (I.ok.hd hc) st (show s.heap.IsTuple a its.toArray from p) (by simp;omega) λh' eb=>⟨rfl,I.turned (t':=s.toks) (λb o hb e=>eb b o hb e) f0 f1 f3 f4 f5⟩
 self:=λ_ _ _ _ _ st h=>wpAny_pyIter_tupleiter st h
theorem tI{P:Program}{w:World}{K:ζ}{tg:Expr}(it:Addr)(lo:Int)(n:Nat):Turn P w K tg (Itr lo n) [it] it (λi h=>IsRangeIter h it (lo+(i:Nat)*1) ((n:Int)-(i:Nat)) 1) where
 mem:=by simp
 obj:=λi h st b hb=>by
  have e:b=it:=by simpa using hb
  subst e
  exact⟨_,st,λv z=>by
   have z':Data.fields _=Data.cell v:=z
   cases z'⟩
 keep:=λi h h' st k=>k it (by simp) _ st
 item:=by
  intro X hP hw hK hc i pins s σ H E I hf st hg
  subst hP hw hK
  obtain⟨f0,f1,f2,f3,f4,f5⟩:=hf it (by simp)
  have W:=Walks.range (prog:=X.prog) (w:=X.w) (I.ok.hd hc) it lo 1 n
  refine W.item i s _ _ hg st λv h' tk hv st' kk=>?_
  obtain⟨t,rfl⟩:=hv
  have I1:Inv X pins σ H { s with heap:=h',toks:=tk }:=I.turned (λb o hb e=>kk b o (by simpa using hb) e) f0 f1 f3 f4 f5
  refine⟨_,rfl,sJ (s:={ s with heap:=h',toks:=tk }) (n := "range_iterator") st' rfl rfl (by decide) ⟨.int (lo+i),H,I1,⟨t,?_⟩,⟨rfl,rfl⟩,st',λb hb=>(hf b hb).1⟩⟩
  rw[Int.mul_one]
 done:=by
  intro X hP hw hK hc i pins s σ H E I hf st hg
  subst hP hw hK
  obtain⟨f0,f1,f2,f3,f4,f5⟩:=hf it (by simp)
  exact wpAny_pyNext_range_end (I.ok.hd hc) st (by have:n<=i:=hg;omega) λh' eb=>⟨rfl,I.turned (t':=s.toks) (λb o hb e=>eb b o hb e) f0 f1 f3 f4 f5⟩
 self:=λ_ _ _ _ _ st h=>wpAny_pyIter_rangeiter st h
end L2
namespace L2
open PyProof.Rows
section
variable{X:Cx}{tg:Expr}
noncomputable def iList(K:ζ)(tl:TE):TI:=λσ H R=>tl σ H λx H1=>∃a,x=.ref a/\(∃xs,SqL K H1 a xs)/\R (Itl K a) H1
theorem pi_list(hl:PE X l tl):PI X tg l (iList X.K tl):=by
 intro pins s σ H R I h
 refine thn (hl pins s σ H _ I h) λv s1 ⟨x,H1,I1,r1,q1⟩=>?_
 obtain⟨a,e,⟨xs,hq⟩,q⟩:=q1
 subst e
 cases r1
 obtain⟨its,rv,p,hz⟩:=I1.list hq
 refine wpAny_pyIter_list p.isList ?_
 refine⟨s1.heap.objs.size,[s1.heap.objs.size],_,_,H1,rfl,I1.kept (t':=s1.toks) λb o e=>Heap.get?_push_of_some _ e,px a _,⟨_,Heap.get?_push_size _ rfl,rfl,rfl⟩,λb hb=>?_,q⟩
 have e:b=s1.heap.objs.size:=by simpa using hb
 subst e
 exact I1.fpOk (υ _) (I1.hok.fresh (υ _))
theorem r8{pins:List (Addr×Obj)}{σ:St}{H:Hp}{s:Shared}{R:It->Hp->Prop}{E:Value->Shared->Prop}{lo hi:Int}{t u v:Tok}{tk:Nat}(I:Inv X pins σ H s)(h1 : -(2 ^ 62)<=lo)(h2:lo<2 ^ 62)(h3 : -(2 ^ 62)<=hi)(h4:hi<2 ^ 62)
  (q:R (Itr lo (hi-lo).toNat) H):wpAny (model X.prog X.w) X.A (pyIter (.ref s.heap.objs.size)) (PIE X pins σ tg R) E { s with heap:=s.heap.push { cls:=.type "range",data:=.fields #[.int lo t,.int hi u,.int 1 v] },toks:=tk }:=by
 refine wpAny_pyIter_range (IsRange.new ..) (small_one h1 h2 h3 h4) ?_
 have I1:Inv X pins σ H { s with heap:=s.heap.push { cls:=.type "range",data:=.fields #[.int lo t,.int hi u,.int 1 v] },toks:=tk }:=I.kept λb o e=>Heap.get?_push_of_some _ e
 refine⟨(s.heap.push { cls:=.type "range",data:=.fields #[.int lo t,.int hi u,.int 1 v] }).objs.size,[(s.heap.push { cls:=.type "range",data:=.fields #[.int lo t,.int hi u,.int 1 v] }).objs.size],_,_,H,rfl,
  I1.kept (t':=tk) λb o e=>Heap.get?_push_of_some _ e,tI _ lo (hi-lo).toNat,?_,λb hb=>?_,q⟩
 ·have e1:lo+((0:Nat):Int)*1=lo:=by simp
  have e2:(((hi-lo).toNat:Nat):Int)-((0:Nat):Int)=Builtin.Range.rangeSize lo hi 1:=by rw[rangeSize_one];split<;>omega
  show IsRangeIter _ _ (lo+((0:Nat):Int)*1) ((((hi-lo).toNat:Nat):Int)-((0:Nat):Int)) 1
  rw[e1,e2]
  exact Heap.get?_push_size _ rfl
 ·have e:b=(s.heap.push { cls:=.type "range",data:=.fields #[.int lo t,.int hi u,.int 1 v] }).objs.size:=by simpa using hb
  subst e
  exact I1.fpOk (υ _) (I1.hok.fresh (υ _))
noncomputable def iRng1(ta:TA):TI:=λσ H R=>ta σ H λvs H1=>∃j:Int,vs=[.int j] /\ -(2 ^ 62)<=j/\j<2 ^ 62/\R (Itr 0 j.toNat) H1
noncomputable def iRng2(ta:TA):TI:=λσ H R=>ta σ H λvs H1=>∃i j:Int,vs=[.int i,.int j]/\(-(2 ^ 62)<=i/\i<2 ^ 62 /\ -(2 ^ 62)<=j/\j<2 ^ 62)/\R (Itr i (j-i).toNat) H1
theorem pH{a:Expr}{ta:TA}{p pos:Pos}(hg:Gl X "range")(hm:X.mg "range" = none)(ha:PA X [a] ta)(hs:starEach [a] X.env=[(false,eval a X.env)]:=by rfl):PI X tg (.Call (.Name "range" p) [a] [] pos) (iRng1 ta):=by
 intro pins s σ H R I h
 refine Call_ (jk I hg hm boot_range (PyProof.Rows.callWith_type1 (thn (ha pos pins s σ H _ I h) λus s1 ⟨vs,H1,I1,r1,q1⟩=>?_) hs rfl))
 obtain⟨j,e,q1,q2,q⟩:=q1
 subst e
 cases r1 with
 | cons r rr =>
  cases rr
  obtain⟨t,rfl⟩:=r
  exact call_range_1 (r8 I1 (by omega) (by omega) q1 q2 (by simpa using q))
theorem wg(hg:Gl X "range")(hm:X.mg "range" = none)(ha:PA X [a,b] ta)(hs:starEach [a,b] X.env=[(false,eval a X.env),(false,eval b X.env)]:=by rfl)(hs2:starEach [b] X.env=[(false,eval b X.env)]:=by rfl) :
  PI X tg (.Call (.Name "range" p) [a,b] [] pos) (iRng2 ta):=by
 intro pins s σ H R I h
 refine Call_ (jk I hg hm boot_range (PyProof.Rows.callWith_type1 (thn (ha pos pins s σ H _ I h) λus s1 ⟨vs,H1,I1,r1,q1⟩=>?_) (by rw[hs,hs2]) (by rw[hs2];rfl)))
 obtain⟨i,j,e,⟨q1,q2,q3,q4⟩,q⟩:=q1
 subst e
 cases r1 with
 | cons r rr =>
  cases rr with
  | cons r' rr =>
   cases rr
   obtain⟨t,rfl⟩:=r
   obtain⟨t',rfl⟩:=r'
   exact call_range_2 (r8 I1 q1 q2 q3 q4 q)
def tFor(wi:TI)(g:TG)(tb:TS):TS:=λD σ H=>wi σ H λJ H1=>∃W:Nat->Nat->St->Hp->Prop,(∃m,W 0 m σ H1)/\∀i m σ H,W i m σ H ->
 (J.stop i H/\D.nx σ H)\/(J.go i H/\∃N:St->Hp->Prop,(∀σ' H',N σ' H'->∃m',m'<m/\W (i+1) m' σ' H')/\∀x H',J.yld i H x H'->g x σ H' λσ2 H2=>tb { D with nx:=N,ct:=N,bk:=D.nx } σ2 H2)
noncomputable def lX(fp:List Addr)(h:Heap):List (Addr×Obj):=fp.filterMap λb=>(h.get? b).map λo=>(b,o)
theorem fP(hb:b∈fp)(e:h.get? b=some o):(b,o)∈lX fp h:=List.mem_filterMap.mpr ⟨b,hb,by rw[e];rfl⟩
theorem wx(hp:p∈lX fp h):p.1∈fp/\h.get? p.1=some p.2:=by
 obtain⟨b,hb,e⟩:=List.mem_filterMap.mp hp
 cases q:h.get? b with
 | none=>rw[q] at e;cases e
 | some o =>
  rw[q] at e
  have e':(b,o)=p:=Option.some.inj e
  subst e'
  exact⟨hb,q⟩
theorem Inv.pinned(I:Inv X pins σ H s)(hf:∀b∈fp,lh X pins H b)(ho:∀b∈fp,∃o,s.heap.get? b=some o/\∀v,o.data≠.cell v):Inv X (pins++lX fp s.heap) σ H s :=
 I.pins_of λp hp=>(Z7.mp hp).elim (λz=>I.pin p (Y0 _ z)) λz=>by
  obtain⟨hb,e⟩:=wx z
  obtain⟨f0,f1,f2,_⟩:=hf p.1 hb
  obtain⟨o,e',d⟩:=ho p.1 hb
  rw[e] at e';cases e'
  exact⟨e,f0,f1,f2,d⟩
theorem Inv.unpinned(I:Inv X (pins++pl) σ H s):Inv X pins σ H s:=I.pins_of λp hp=>I.pin p (Y0 _ (List.mem_append_left _ hp))
theorem nS(hp:PassesOwn (model X.prog X.w) X.A X.env X.xe)(hc:X.calm=true)(hi:PI X tg iter wi)(hg:PG X tg g)(hb:PSs X body tb)
  (hs:∀x,foldedSetIterable iter X.env x=pure x:=by intro _;rfl):PS X (.For tg iter body [] pos) (tFor wi g tb):=by
 intro pins s σ H D I h
 refine wpAny_For (thn (hi pins s σ H _ I h) λv s1 h1=>thn h1 λitv s2 h2=>?_) hs
 obtain⟨it,fp,tn,J,H2,e,I2,T,st2,f2,W,⟨m0,w0⟩,turn⟩:=h2
 subst e
 have stat:∀{H':Hp},(∀b∈fp,H' b=none)->∀b∈fp,lh X pins H' b:=λhn b hb=>⟨hn b hb,(f2 b hb).2⟩
 refine codeAny_forLoop_any (λn s'=>∃i σ' H',Inv X pins σ' H' s'/\tn i s'.heap/\(∀b∈fp,H' b=none)/\W i n σ' H') ?_ m0 ⟨0,σ,H2,I2,st2,λb hb=>(f2 b hb).1,w0⟩
 rintro n s3 ⟨i,σ3,H3,I3,st3,fr3,w3⟩
 rcases turn i n σ3 H3 w3 with ⟨stop,qn⟩ | ⟨go,N,hN,step⟩
 ·refine wpAny_passesOwn hp (thn (T.done X rfl rfl rfl hc i pins s3 σ3 H3 X.xe I3 (stat fr3) st3 stop) λr s4 ⟨hr,I4⟩=>?_)
  subst hr
  exact wpAny_execs_nil ⟨σ3,H3,I4,qn⟩
 ·refine wpAny_passesOwn hp (thn (T.item X rfl rfl rfl hc i pins s3 σ3 H3 X.xe I3 (stat fr3) st3 go) λr s4 ⟨u,hr,h4⟩=>?_)
  subst hr
  refine wpAny_passesOwn hp (thn h4 λ_ s5 ⟨x,H5,I5,r5,y5,st5,fr5⟩=>?_)
  have I5':=I5.pinned (stat fr5) (T.obj _ _ st5)
  refine wpAny_passesOwn hp (thn (hg _ s5 σ3 H5 x u _ I5' r5 (step x H5 y5)) λ_ s6 ⟨σ6,H6,I6,q6⟩=>?_)
  refine wpAny_passesOwn hp (thn (hb _ s6 σ6 H6 _ I6 q6) λf s7 q7=>?_)
  have again:∀{σ7:St} {H7:Hp},Inv X (pins++lX fp s5.heap) σ7 H7 s7->N σ7 H7->∃m,m<n/\∃i σ' H',Inv X pins σ' H' s7/\tn i s7.heap/\(∀b∈fp,H' b=none)/\W i m σ' H':=λ{σ7 H7} I7 n7=>by
   obtain⟨m',hm,w7⟩:=hN σ7 H7 n7
   refine⟨m',hm,i+1,σ7,H7,I7.unpinned,T.keep _ _ _ st5 λb hb o e=>(I7.pin (b,o) (Y0 _ (Y0 _ (fP hb e)))).1,λb hb=>?_,w7⟩
   obtain⟨o,e,d⟩:=T.obj _ _ st5 b hb
   exact(I7.pin (b,o) (Y0 _ (Y0 _ (fP hb e)))).2.1
  cases f with
  | next=>obtain⟨σ7,H7,I7,n7⟩:=q7;exact again I7 n7
  | cont=>obtain⟨σ7,H7,I7,n7⟩:=q7;exact again I7 n7
  | brk=>obtain⟨σ7,H7,I7,q7⟩:=q7;exact⟨σ7,H7,I7.unpinned,q7⟩
  | ret v=>obtain⟨x7,σ7,H7,I7,r7,q7⟩:=q7;exact⟨x7,σ7,H7,I7.unpinned,r7,q7⟩
end
end L2
namespace L2
open PyProof.Rows
abbrev R2:=V->V->Hp->VK->Prop
def OpR(X:Cx)(f:Value->Value->Sem Value)(r:R2):Prop :=
 ∀(pins:List (Addr×Obj)) (s:Shared) (σ:St) (H:Hp) (x y:V) (v u:Value) (Q:VK),Inv X pins σ H s->bR x v->bR y u->r x y H Q ->
  wpAny (model X.prog X.w) X.A (f v u) (EP X pins σ Q) X.xe s
def UnR(X:Cx)(f:Value->Sem Value)(r:V->Hp->VK->Prop):Prop :=
 ∀(pins:List (Addr×Obj)) (s:Shared) (σ:St) (H:Hp) (x:V) (v:Value) (Q:VK),Inv X pins σ H s->bR x v->r x H Q ->
  wpAny (model X.prog X.w) X.A (f v) (EP X pins σ Q) X.xe s
def fN(X:Cx)(f:Value)(r:List V->Hp->VK->Prop):Prop :=
 ∀(pins:List (Addr×Obj)) (s:Shared) (σ:St) (H:Hp) (xs:List V) (us:List Value) (Q:VK),Inv X pins σ H s->aS xs us->r xs H Q ->
  wpAny (model X.prog X.w) X.A (call f us) (EP X pins σ Q) X.xe s
def TruR(X:Cx)(r:V->Hp->(Bool->Hp->Prop)->Prop):Prop :=
 ∀(pins:List (Addr×Obj)) (s:Shared) (σ:St) (H:Hp) (x:V) (v:Value) (Q:Bool->Hp->Prop),Inv X pins σ H s->bR x v->r x H Q ->
  wpAny (model X.prog X.w) X.A (truthy v) (TP X pins σ Q) X.xe s
noncomputable def tOp(r:R2)(ta tb:TE):TE:=λσ H Q=>ta σ H λx H1=>tb σ H1 λy H2=>r x y H2 Q
def tUn(r:V->Hp->VK->Prop)(ta:TE):TE:=λσ H Q=>ta σ H λx H1=>r x H1 Q
def rI(C:Int->Int->Prop)(g:Int->Int->V):R2:=λx y H Q=>∃i j,x=.int i/\y=.int j/\C i j/\Q (g i j) H
noncomputable def rI0(g:Int->Int->V):R2:=λx y H Q=>∃i j,x=.int i/\y=.int j/\Q (g i j) H
def rU(g:Int->V):V->Hp->VK->Prop:=λx H Q=>∃i,x=.int i/\Q (g i) H
section
variable{X:Cx}{a b c:Expr}{ta tb tc:TE}{pos:Pos}
theorem binT(ha:PE X a ta)(hb:PE X b tb){pins:List (Addr×Obj)}{s:Shared}{σ:St}{H:Hp}{R:V->V->Hp->Prop}(I:Inv X pins σ H s)
  (h:ta σ H λx H1=>tb σ H1 λy H2=>R x y H2) {Q:Value->Shared->Prop} {f:Value->Value->Sem Value}
  (hf:∀v u s2 x y H2,Inv X pins σ H2 s2->bR x v->bR y u->R x y H2->wpAny (model X.prog X.w) X.A (f v u) Q X.xe s2) :
  wpAny (model X.prog X.w) X.A (eval a X.env) (λv s₁=>wpAny (model X.prog X.w) X.A (eval b X.env) (λu s₂=>wpAny (model X.prog X.w) X.A (f v u) Q X.xe s₂) X.xe s₁) X.xe s:=by
 refine thn (ha pins s σ H _ I h) λv s1 ⟨x,H1,I1,r1,q1⟩=>?_
 refine thn (hb pins s1 σ H1 _ I1 q1) λu s2 ⟨y,H2,I2,r2,q2⟩=>?_
 exact hf v u s2 x y H2 I2 r1 r2 q2
theorem va{op:Operator}{r:R2}(ho:OpR X (binaryOp op) r)(ha:PE X a ta)(hb:PE X b tb):PE X (.BinOp a op b pos) (tOp r ta tb):=by
 intro pins s σ H Q I h
 exact wpAny_BinOp (binT ha hb I h λv u s2 x y H2 I2 rx ry q=>ho pins s2 σ H2 x y v u Q I2 rx ry q)
theorem pe_un(ho:UnR X (unaryOp op) r)(ha:PE X a ta):PE X (.UnaryOp op a pos) (tUn r ta):=by
 intro pins s σ H Q I h
 exact UnaryOp_ (thn (ha pins s σ H _ I h) λv s1 ⟨x,H1,I1,r1,q1⟩=>ho pins s1 σ H1 x v Q I1 r1 q1)
theorem opI{f:Value->Value->Sem Value}{C:Int->Int->Prop}{g:Int->Int->Int}
  (rule:∀(i j:Int) (t u:Tok) (s:Shared) (Q:Value->Shared->Prop) (E:Value->Shared->Prop),C i j->Q (.int (g i j) s.toks) { s with toks:=s.toks+1 }->wpAny (model X.prog X.w) X.A (f (.int i t) (.int j u)) Q E s) :
  OpR X f (rI C λi j=>.int (g i j)):=by
 intro pins s σ H x y v u Q I rx ry h
 obtain⟨i,j,rfl,rfl,hc,q⟩:=h
 obtain⟨t,rfl⟩:=rx
 obtain⟨t',rfl⟩:=ry
 exact rule i j t t' s _ _ hc ⟨.int (g i j),H,I.tok _,⟨_,rfl⟩,q⟩
theorem opI0{f:Value->Value->Sem Value}{g:Int->Int->Int}
  (rule:∀(i j:Int) (t u:Tok) (s:Shared) (Q:Value->Shared->Prop) (E:Value->Shared->Prop),Q (.int (g i j) s.toks) { s with toks:=s.toks+1 }->wpAny (model X.prog X.w) X.A (f (.int i t) (.int j u)) Q E s) :
  OpR X f (rI0 λi j=>.int (g i j)):=by
 intro pins s σ H x y v u Q I rx ry h
 obtain⟨i,j,rfl,rfl,q⟩:=h
 obtain⟨t,rfl⟩:=rx
 obtain⟨t',rfl⟩:=ry
 exact rule i j t t' s _ _ ⟨.int (g i j),H,I.tok _,⟨_,rfl⟩,q⟩
theorem opB0{f:Value->Value->Sem Value}{g:Int->Int->Bool}
  (rule:∀(i j:Int) (t u:Tok) (s:Shared) (Q:Value->Shared->Prop) (E:Value->Shared->Prop),Q (.bool (g i j)) s->wpAny (model X.prog X.w) X.A (f (.int i t) (.int j u)) Q E s) :
  OpR X f (rI0 λi j=>.bl (g i j)):=by
 intro pins s σ H x y v u Q I rx ry h
 obtain⟨i,j,rfl,rfl,q⟩:=h
 obtain⟨t,rfl⟩:=rx
 obtain⟨t',rfl⟩:=ry
 exact rule i j t t' s _ _ ⟨.bl (g i j),H,I,rfl,q⟩
def CPow(i j:Int):Prop:=0<=j/\j<=1000000/\i.natAbs<2 ^ 64
def CMul(i j:Int):Prop:=(-(2 ^ 64)<i/\i<2 ^ 64)\/(-(2 ^ 64)<j/\j<2 ^ 64)
theorem CMul.ok(h:CMul i j):IntMulOk i j:=by
 rcases h with ⟨h1,h2⟩ | ⟨h1,h2⟩
 ·exact .of_left (intBits_le_64 h1 h2)
 ·exact .of_right (intBits_le_64 h1 h2)
theorem op_add:OpR X (binaryOp .Add) (rI0 λi j=>.int (i+j)):=opI0 λ_ _ _ _ _ _ _ q=>add_int q
theorem op_sub:OpR X (binaryOp .Sub) (rI0 λi j=>.int (i-j)):=opI0 λ_ _ _ _ _ _ _ q=>sub_int q
theorem op_mul:OpR X (binaryOp .Mult) (rI CMul λi j=>.int (i*j)):=opI λ_ _ _ _ _ _ _ hc q=>mul_int q hc.ok
theorem op_mod:OpR X (binaryOp .Mod) (rI (λ_ j=>0<j) λi j=>.int (i % j)):=opI λi j _ _ _ _ _ hc q=>by
 have h1:(0:Int)<j:=hc
 exact mod_int' (by omega) (by rw[Int.fmod_eq_emod_of_nonneg i (by omega)];exact q)
theorem op_pow:OpR X (binaryOp .Pow) (rI CPow λi j=>.int (i ^ j.toNat)):=opI λ_ _ _ _ _ _ _ hc q=>pow_int_small hc.1 hc.2.1 hc.2.2 q
theorem unI{f:Value->Sem Value}{g:Int->Int}
  (rule:∀(i:Int) (t:Tok) (s:Shared) (Q:Value->Shared->Prop) (E:Value->Shared->Prop),Q (.int (g i) s.toks) { s with toks:=s.toks+1 }->wpAny (model X.prog X.w) X.A (f (.int i t)) Q E s) :
  UnR X f (rU λi=>.int (g i)):=by
 intro pins s σ H x v Q I rx h
 obtain⟨i,rfl,q⟩:=h
 obtain⟨t,rfl⟩:=rx
 exact rule i t s _ _ ⟨.int (g i),H,I.tok _,⟨_,rfl⟩,q⟩
theorem un_neg:UnR X (unaryOp .USub) (rU λi=>.int (-i)):=unI λ_ _ _ _ _ q=>neg_int q
end
section
variable{X:Cx}{a b c:Expr}{ta tb tc:TE}{pos:Pos}
theorem ul(I:Inv X pins σ H s)(q:Q (.bl k) H)(e:k=k'):EP X pins σ Q (.bool k') s:=by
 subst e
 exact⟨.bl k,H,I,rfl,q⟩
theorem op_lt:OpR X (compareOp .Lt) (rI0 λi j=>.bl (decide (i<j))):=opB0 λ_ _ _ _ _ _ _ q=>lt_int q
theorem op_le:OpR X (compareOp .LtE) (rI0 λi j=>.bl (decide (i<=j))):=opB0 λ_ _ _ _ _ _ _ q=>le_int q
theorem op_gt:OpR X (compareOp .Gt) (rI0 λi j=>.bl (decide (j<i))):=opB0 λ_ _ _ _ _ _ _ q=>gt_int q
theorem op_ge:OpR X (compareOp .GtE) (rI0 λi j=>.bl (decide (j<=i))):=opB0 λ_ _ _ _ _ _ _ q=>ge_int q
theorem op_isN:OpR X (compareOp .Is) (λx y H Q=>y=.non/\Q (.bl (decide (x=.non))) H):=by
 intro pins s σ H x y v u Q I rx ry h
 obtain⟨rfl,q⟩:=h
 cases ry
 refine is_none_gen (ul I q ?_)
 cases x<;>first
  | (cases rx;rfl)
  | (obtain⟨t,rfl⟩:=rx;rfl)
theorem op_notN:OpR X (compareOp .IsNot) (λx y H Q=>y=.non/\Q (.bl (!decide (x=.non))) H):=by
 intro pins s σ H x y v u Q I rx ry h
 obtain⟨rfl,q⟩:=h
 cases ry
 refine isnot_none_gen (ul I q ?_)
 cases x<;>first
  | (cases rx;rfl)
  | (obtain⟨t,rfl⟩:=rx;rfl)
theorem OpR.or(h:OpR X f r)(h':OpR X f r'):OpR X f (λx y H Q=>r x y H Q\/r' x y H Q):=by
 intro pins s σ H x y v u Q I rx ry q
 rcases q with q | q
 ·exact h pins s σ H x y v u Q I rx ry q
 ·exact h' pins s σ H x y v u Q I rx ry q
theorem nomark(b:Expr)(h:op≠.In:=by decide)(h2:op≠.NotIn:=by decide):behindInMarks op b=false:=by
 have e1:(op==CmpOp.In)=false:=by cases op<;>first | rfl | exact absurd rfl h
 have e2:(op==CmpOp.NotIn)=false:=by cases op<;>first | rfl | exact absurd rfl h2
 cases b<;>simp [behindInMarks,e1,e2]
theorem pe_cmpR{op:CmpOp}{r:R2}(ho:OpR X (compareOp op) r)(ha:PE X a ta)(hb:PE X b tb)(hm:behindInMarks op b=false):PE X (.Compare a [op] [b] pos) (tOp r ta tb):=by
 intro pins s σ H Q I h
 exact wpAny_Compare1 (binT ha hb I h λv u s2 x y H2 I2 rx ry q=>ho pins s2 σ H2 x y v u Q I2 rx ry q) hm
noncomputable def tTest(t:TE):TT:=λσ H Q=>t σ H λx H'=>∃k,x=.bl k/\Q k H'
theorem pt_cmpR(ho:OpR X (compareOp op) r)(ha:PE X a ta)(hb:PE X b tb)(hm:behindInMarks op b=false):PT X (.Compare a [op] [b] pos) (tTest (tOp r ta tb)):=by
 intro pins s σ H Q I h
 refine wpAny_isTrue_Compare1 (thn (ha pins s σ H _ I h) λv s1 ⟨x,H1,I1,r1,q1⟩=>thn (hb pins s1 σ H1 _ I1 q1) λu s2 ⟨y,H2,I2,r2,q2⟩ =>
  thn (ho pins s2 σ H2 x y v u _ I2 r1 r2 q2) λc s3 ⟨z,H3,I3,r3,k,e,q3⟩=>?_) hm
 subst e
 cases r3
 exact wpAny_truthy_bool ⟨H3,I3,q3⟩
def TruV(K:ζ)(x:V)(H:Hp)(k:Bool):Prop :=
 match x with
 | .non=>k=false
 | .bl b=>k=b
 | .int i=>k=(i != 0)
 | .str y=>y.length<=sizeLine/\k=((y.length:Int) != 0)
 | .byt y=>y.size<=sizeLine/\k=((y.size:Int) != 0)
 | .ref p=>(∃xs,SqL K H p xs/\k=!xs.isEmpty)\/(∃xs,SqT K H p xs/\k=!xs.isEmpty)\/∃kvs,H p=some (.dK kvs)/\k=!kvs.isEmpty
 | _=>False
theorem ug(r:KV kvs vs):(!vs.isEmpty)=!kvs.isEmpty:=by
 cases r<;>rfl
theorem oy(r:aS xs its):(!its.toArray.isEmpty)=!xs.isEmpty:=by
 cases r<;>simp
theorem jX:(sizeLine:Nat)<2 ^ 63:=by rw[sizeLine_eq];decide
theorem tru_ok:TruR X (λx H Q=>∃k,TruV X.K x H k/\Q k H):=by
 intro pins s σ H x v Q I rx h
 obtain⟨k,e,q⟩:=h
 have hl:=jX
 have hs:sizeLine=16777216:=sizeLine_eq
 cases x with
 | non =>
  cases rx
  have e':k=false:=e
  subst e'
  exact truthy_none ⟨H,I,q⟩
 | bl b =>
  cases rx
  have e':k=b:=e
  subst e'
  exact wpAny_truthy_bool ⟨H,I,q⟩
 | int i =>
  obtain⟨t,rfl⟩:=rx
  have e':k=(i != 0):=e
  subst e'
  exact PySem.P.truthy_int ⟨H,I,q⟩
 | str y =>
  obtain⟨t,rfl⟩:=rx
  obtain⟨hy,e'⟩:y.length<=sizeLine/\k=((y.length:Int) != 0):=e
  subst e'
  exact PySem.P.truthy_str (by omega) ⟨H,I.tok _,q⟩
 | byt y =>
  obtain⟨t,rfl⟩:=rx
  obtain⟨hy,e'⟩:y.size<=sizeLine/\k=((y.size:Int) != 0):=e
  subst e'
  exact PySem.W.truthy_bytes (by omega) ⟨H,I.tok _,q⟩
 | ref p =>
  cases rx
  have e':(∃xs,SqL X.K H p xs/\k=!xs.isEmpty)\/(∃xs,SqT X.K H p xs/\k=!xs.isEmpty)\/∃kvs,H p=some (.dK kvs)/\k=!kvs.isEmpty:=e
  rcases e' with ⟨xs,hx,e'⟩ | ⟨xs,hx,e'⟩ | ⟨kvs,hx,e'⟩
  ·subst e'
   obtain⟨its,r,pl,hz⟩:=I.list hx
   have hlen:=r.length
   exact wpAny_truthy_list pl.isList (by simp only[Ξ];omega) ⟨H,I.tok _,by rw[oy r];exact q⟩
  ·subst e'
   obtain⟨its,r,pl,hz⟩:=I.tuple hx
   have hlen:=r.length
   exact truthy_tuple pl (by simp only[Ξ];omega) ⟨H,I.tok _,by rw[oy r];exact q⟩
  ·subst e'
   obtain⟨hz,hS,vs,r,m⟩:kvs.length<=sizeLine/\(p==sysModules)=false/\∃vs,KV kvs vs/\s.heap.DictOf (qG X.prog X.w) p vs:=I.hok p _ hx
   have hlen:kvs.length=vs.length:=Paired.length r
   exact wpAny_truthy_dict hS m (by omega) ⟨H,I.tok _,by rw[ug r];exact q⟩
 | _=>exact(show False from e).elim
theorem xP(ha:PE X a ta)(he:∀whole,isTrue a X.env whole=(do let v <- whole;standAt a.pos;holding [v] (truthy v))) :
  PT X a (λσ H Q=>ta σ H λx H'=>∃k,TruV X.K x H' k/\Q k H'):=by
 intro pins s σ H Q I h
 exact isTrue_plain (thn (ha pins s σ H _ I h) λv s1 ⟨x,H1,I1,r1,q1⟩=>tru_ok pins s1 σ H1 x v Q I1 r1 q1) (he _)
theorem tY:OpR X (binaryOp .Add) (λx y H Q=>∃i j,x=.str i/\y=.str j/\i.length+j.length<=sizeLine/\Q (.str (i++j)) H):=by
 intro pins s σ H x y v u Q I rx ry h
 obtain⟨i,j,rfl,rfl,hz,q⟩:=h
 obtain⟨t,rfl⟩:=rx
 obtain⟨t',rfl⟩:=ry
 exact add_str (λt' tk=>⟨.str (i++j),H,I.tok _,⟨_,rfl⟩,q⟩) hz
theorem kO(r:aS [x] us):∃u,us=[u]/\bR x u:=by
 cases r with
 | cons r1 r2=>cases r2;exact⟨_,rfl,r1⟩
theorem xk(r:aS [x,y] us):∃u w',us=[u,w']/\bR x u/\bR y w':=by
 cases r with
 | cons r1 r2 =>
  cases r2 with
  | cons r3 r4=>cases r4;exact⟨_,_,rfl,r1,r3⟩
theorem w8(hc:X.calm=true):fN X (.builtin "max") (λxs H Q=>∃i j,xs=[.int i,.int j]/\Q (.int (if j > i then j else i)) H):=by
 intro pins s σ H xs us Q I r h
 obtain⟨i,j,rfl,q⟩:=h
 obtain⟨u,w',rfl,⟨t,rfl⟩,⟨t',rfl⟩⟩:=xk r
 refine max_two_ints (I.ok.hd hc) λh' tk k=>⟨_,H,I.kept k,?_,q⟩
 by_cases hj:j > i
 ·rw[if_pos hj,if_pos hj];exact⟨_,rfl⟩
 ·rw[if_neg hj,if_neg hj];exact⟨_,rfl⟩
theorem w6(hc:X.calm=true):fN X (.builtin "min") (λxs H Q=>∃i j,xs=[.int i,.int j]/\Q (.int (if j<i then j else i)) H):=by
 intro pins s σ H xs us Q I r h
 obtain⟨i,j,rfl,q⟩:=h
 obtain⟨u,w',rfl,⟨t,rfl⟩,⟨t',rfl⟩⟩:=xk r
 refine min_two_ints (I.ok.hd hc) λh' tk k=>⟨_,H,I.kept k,?_,q⟩
 by_cases hj:j<i
 ·rw[if_pos hj,if_pos hj];exact⟨_,rfl⟩
 ·rw[if_neg hj,if_neg hj];exact⟨_,rfl⟩
theorem rb:fN X (.type "str") (λxs H Q=>∃i,xs=[.int i]/\i.natAbs.log2<1920/\Q (.str (toString i)) H):=by
 intro pins s σ H xs us Q I r h
 obtain⟨i,rfl,hz,q⟩:=h
 obtain⟨u,rfl,t,rfl⟩:=kO r
 exact PySem.P.str_of_int hz ⟨.str _,H,I.tok _,⟨_,rfl⟩,q⟩
end
end L2
namespace L2
open PyProof.Rows
structure ObjM(h:Heap)(x dx C:Addr)(mA:Str->Option Value):Prop where
 obj:h.get? x=some (U1 C dx)
 ns:h.Ns1 dx mA
 ne:dx≠x
theorem wG{h:Heap}{dx:Addr}{mA:Str->Option Value}(n:h.Ns1 dx mA):∃od,h.get? dx=some od/\∀name,PySem.W.lookIn name od=some (mA name):=by
 obtain⟨o,es,ep,ho,hd,hk,_,hm⟩:=n
 refine⟨o,ho,λname=>?_⟩
 have e:=hm name
 unfold nsFind findBy at e
 rw[<-Array.find?_toList] at e
 unfold PySem.W.lookIn
 rw[hd]
 dsimp only
 split
 ·rename_i y q
  rw[q] at e
  exact congrArg some e
 ·rename_i q
  rw[q] at e
  have a:es.toList.any (·.refKey)=false:=by
   rw[List.any_eq_false]
   intro y hy
   obtain⟨z,t,hkey⟩:=hk y (Array.mem_toList_iff.mp hy)
   simp [DictEntry.refKey,hkey]
  have a':¬es.toList.any (·.refKey)=true:=by rw[a];exact ω
  rw[if_neg a']
  exact congrArg some e
theorem ObjM.look(I:ObjM h x dx C mA):∃od,PySem.W.InstAt h x (U1 C dx) C (some od)/\∀name,PySem.W.lookIn name od=some (mA name) :=
 let ⟨od,ho,hl⟩:=wG I.ns
 ⟨od,⟨I.obj,rfl,rfl,ho⟩,hl⟩
section
variable{prog:Program}{w:World}{A:Around}{E:Value->Shared->Prop}{s:Shared}{K:ζ}{x dx C f:Addr}{mA:Str->Option Value}{name:Str}{v:Value}
theorem get_map{expr:Bool}{Q:Value->Shared->Prop}(X:K.In s.heap)(I:ObjM s.heap x dx C mA)(hg:PySem.W.plainGet K C name=true)(hh:PySem.W.hasDictIn K C=true)
  (ha:Z6 K (.ref C) name=some none) (hv:mA name=some v) (hv':PySem.W.handedIn v=true) (h:Q v { s with toks:=s.toks+1 }) :
  wpAny (model prog w) A (getAttr (.ref x) name expr) Q E s:=by
 obtain⟨od,J,hl⟩:=I.look
 exact PySem.W.get_value X J (PySem.W.plainGet_of hg).1 (PySem.W.findObj_own hh ha rfl (by rw[hl,hv])) hv' h
theorem get_meth{pl:Sem Bool}{Q:Value×List Value->Shared->Prop}(X:K.In s.heap)(I:ObjM s.heap x dx C mA)(hg:PySem.W.plainGet K C name=true)
  (hf:Z6 K (.ref C) name=some (some (.ref f))) (ht:PySem.W.isFn K (.ref f)=true) (hv:mA name=none) (h:Q (.ref f,[.ref x]) s) :
  wpAny (model prog w) A (getMethod (.ref x) name pl) Q E s:=by
 obtain⟨od,J,hl⟩:=I.look
 exact PySem.W.method_fn X J (PySem.W.plainGet_of hg).1 (PySem.W.plainGet_of hg).2 hf (beq_iff_eq.mp ht) (by show(PySem.W.lookIn name od).map (·.isSome)=some false;rw[hl,hv];rfl) h
theorem set_map{ns:List Str}{Q:Unit->Shared->Prop}(X:K.In s.heap)(I:ObjM s.heap x dx C mA)
  (hs:Z6 K (.ref C) "__setattr__" = some (some (.builtin "object.__setattr__"))) (hp:PySem.W.plainOver K C=true) (ht:PySem.W.takerIn K C name=some none) (hh:PySem.W.hasDictIn K C=true)
  (hw:PySem.Within mA ns) (hsz:ns.length<=sizeLine)
  (h:∀h',ObjM h' x dx C (λy=>if y=name then some v else mA y)->Heap.SameBut dx s.heap h'->Q () { s with heap:=h',toks:=s.toks+2 }) :
  wpAny (model prog w) A (setAttr (.ref x) name v) Q E s:=by
 obtain⟨od,J,hl⟩:=I.look
 refine PySem.W.set_plain X J hs (PySem.W.osa_open (s:={ s with toks:=s.toks+1 }) (r:=none) X J hp ht λb=>?_)
 obtain⟨cd,hc,hd'⟩:=PySem.W.any_some hh
 have hx:s.heap.get? x=some ⟨.ref C,some dx,.plain,#[]⟩:=I.obj
 refine wpAny_bind (wpAny_pure (wpAny_bind (wpAny_bind (wpAny_loadPart hx (wpAny_bind (PySem.W.Looks.here (s:={ s with toks:=s.toks+1 }) (PySem.W.looks_clsIn X hc) ?_))))))
 rw[hd']
 refine wpAny_pure (a:=some dx) (wpAny_bind (wpAny_pure (wpAny_bind ?_)))
 refine wpAny_nsSet1 (s:={ s with toks:=s.toks+1 }) I.ns λh' hn2 hs2=>?_
 obtain⟨oD,esD,epD,hoD,hdD,hcD⟩:=hn2.count (PySem.Within.cons name v hw)
 refine wpAny_bind (wpAny_lookBehind hoD (by rw[hdD];exact pastItsLine_dict (W1 hcD (by rw[Φ];omega))) ?_)
 exact wpAny_pure (h _ ⟨(hs2.2 _ (Ne.symm I.ne)).trans I.obj,hn2,I.ne⟩ hs2)
theorem make_map{R:Result->Shared->Prop}{vs:List Value}{kw:List (Str×Value)}(X:K.In s.heap)(hm:PySem.W.makesIn K C=true)
  (hi:Z6 K (.ref C) "__init__" = some (some (.ref f))) (hf:PySem.W.typeIn K (.ref f)=some (.type "function"))
  (h:codeAny (model prog w) (A.under (.builtin "type.__call__" ⟨.ref C::vs,kw⟩)) (.call (.ref f) ⟨.ref (s.heap.objs.size+1)::vs,kw⟩) (PySem.W.InitBack (s.heap.objs.size+1) R)
   { s with heap:=(s.heap.push V1).push (U1 C s.heap.objs.size) }) :
  codeAny (model prog w) A (.call (.ref C) ⟨vs,kw⟩) R s:=by
 obtain⟨hh,g,d,t,os⟩:=s
 exact PySem.W.make_core (PySem.W.makes_of X hm) (PySem.W.looks_findIn X hi) (λself=>PySem.W.bind_fn X self hf) (.inl rfl) h
end
noncomputable def iP(f:Str)(v:V):List (Str×V)->List (Str×V)
 | []=>[(f,v)]
 | (g,x)::r=>if g=f then (g,v)::r else (g,x)::iP f v r
theorem mz(f g:Str)(v:V):∀fs:List (Str×V),(iP f v fs).lookup g=if g=f then some v else fs.lookup g
 | []=>by
  show V0 g [(f,v)]=_
  by_cases h:g=f
  ·have hb:(g==f)=true:=beq_iff_eq.mpr h
   simp only[V0,hb,if_pos h]
  ·have hb:(g==f)=false:=beq_eq_false_iff_ne.mpr h
   simp only[V0,hb,if_neg h]
 | (k,x)::r=>by
  have ih:=mz f g v r
  rw[show iP f v ((k,x)::r)=(if k=f then (k,v)::r else (k,x)::iP f v r) from rfl]
  by_cases hk:k=f
  ·rw[if_pos hk]
   by_cases h:g=k
   ·have hb:(g==k)=true:=beq_iff_eq.mpr h
    simp only[V0,hb,if_pos (h.trans hk)]
   ·have hb:(g==k)=false:=beq_eq_false_iff_ne.mpr h
    simp only[V0,hb,if_neg (λe:g=f=>h (e.trans hk.symm))]
  ·rw[if_neg hk]
   by_cases h:g=k
   ·have hb:(g==k)=true:=beq_iff_eq.mpr h
    simp only[V0,hb,if_neg (λe:g=f=>hk (h.symm.trans e))]
   ·have hb:(g==k)=false:=beq_eq_false_iff_ne.mpr h
    simp only[V0,hb]
    exact ih
theorem l5(f:Str)(v:V):∀fs:List (Str×V),f∈(iP f v fs).map (·.1)/\∀g,g∈fs.map (·.1)->g∈(iP f v fs).map (·.1)
 | []=>⟨by simp [iP],λg h=>by simp at h⟩
 | (k,x)::r=>by
  obtain⟨i1,i2⟩:=l5 f v r
  rw[show iP f v ((k,x)::r)=(if k=f then (k,v)::r else (k,x)::iP f v r) from rfl]
  by_cases hk:k=f
  ·rw[if_pos hk]
   subst hk
   exact⟨by simp,λg h=>by simpa using h⟩
  ·rw[if_neg hk]
   refine⟨?_,λg h=>?_⟩
   ·rw[Θ]
    exact ι _ i1
   ·rw[Θ] at h ⊢
    rcases Γ.mp h with e | e
    ·exact Γ.mpr (.inl e)
    ·exact ι _ (i2 g e)
theorem mB(f:Str)(v:V):∀fs:List (Str×V),(iP f v fs).length<=fs.length+1
 | []=>by simp [iP]
 | (k,x)::r=>by
  have ih:=mB f v r
  rw[show iP f v ((k,x)::r)=(if k=f then (k,v)::r else (k,x)::iP f v r) from rfl]
  by_cases hk:k=f
  ·rw[if_pos hk,Φ,Φ];omega
  ·rw[if_neg hk,Φ,Φ];omega
theorem o5.some_of(r:o5 (some v) o):∃u,o=some u/\bR v u:=by
 cases o with
 | none=>exact(show False from r).elim
 | some u=>exact⟨u,rfl,r⟩
theorem o5.none_of(r:o5 none o):o=none:=by
 cases o with
 | none=>rfl
 | some u=>exact(show False from r).elim
theorem wL(r:bR v u):PySem.W.handedIn u=true:=by
 cases v with
 | non=>cases (show u=Value.none from r);rfl
 | bl b=>cases (show u=Value.bool b from r);rfl
 | int i=>obtain⟨t,e⟩:=(show ∃t,u=Value.int i t from r);cases e;rfl
 | str x=>obtain⟨t,e⟩:=(show ∃t,u=Value.str x t from r);cases e;rfl
 | byt b=>obtain⟨t,e⟩:=(show ∃t,u=Value.bytes b t from r);cases e;rfl
 | flt b=>obtain⟨t,e⟩:=(show ∃t,u=Value.float b t from r);cases e;rfl
 | ref a=>cases (show u=Value.ref a from r);rfl
 | ty n=>cases (show u=Value.type n from r);rfl
section
theorem qN(hok:HOk P w H h)(e:H a=some (.ins C dx fs)):∃mA,ObjM h a dx C mA/\(∀f,o5 (fs.lookup f) (mA f))/\PySem.Within mA (fs.map (·.1))/\fs.length<=1000/\H dx=some (.own a):=by
 obtain⟨d,z,ne,ob,mA,n,r,q⟩:=(show fM P w H h a (.ins C dx fs) from hok a _ e)
 exact⟨mA,⟨ob,n,ne⟩,r,q,z,d⟩
end
structure Cls(K:ζ)(C:Addr):Prop where
 pg:PySem.W.plainGet K C Str.empty=true
 hd:PySem.W.hasDictIn K C=true
 po:PySem.W.plainOver K C=true
 sa:Z6 K (.ref C) "__setattr__" = some (some (.builtin "object.__setattr__"))
theorem Cls.get{K:ζ}{C:Addr}(c:Cls K C)(f:Str):PySem.W.plainGet K C f=true:=c.pg
def jG(K:ζ)(C:Addr)(f:Str):Prop:=Z6 K (.ref C) f=some none
theorem jG.taker{K:ζ}{C:Addr}{f:Str}(n:jG K C f):PySem.W.takerIn K C f=some none:=by
 unfold PySem.W.takerIn
 rw[show Z6 K (.ref C) f=some none from n]
 rfl
structure Meth(K:ζ)(C:Addr)(m:Str)(f:Addr):Prop where
 at_:Z6 K (.ref C) m=some (some (.ref f))
 fn:PySem.W.isFn K (.ref f)=true
 kp:V7 K (.ref f)=true
section
theorem uh(I:Inv X pins σ H s)(e:H a=some (.ins C dx fs))(c:Cls X.K C)(n:jG X.K C f)(l:fs.lookup f=some v)
  (h:∀u s',Inv X pins σ H s'->bR v u->Q u s'):wpAny (model X.prog X.w) A (getAttr (.ref a) f b) Q E s:=by
 obtain⟨mA,O,r,_,_,_⟩:=qN I.hok e
 obtain⟨u,hu,ru⟩:=o5.some_of (v:=v) (o:=mA f) (by rw[<-l];exact r f)
 exact get_map I.kIn O (c.get f) c.hd n hu (wL ru) (h u _ (I.tok _) ru)
theorem oE(I:Inv X pins σ H s)(e:H a=some (.ins C dx fs))(c:Cls X.K C)(k:Meth X.K C m g)(l:fs.lookup m=none)
  (h:Q (.ref g,[.ref a]) s):wpAny (model X.prog X.w) A (getMethod (.ref a) m pl) Q E s:=by
 obtain⟨mA,O,r,_,_,_⟩:=qN I.hok e
 have hn:mA m=none:=o5.none_of (by rw[<-l];exact r m)
 exact get_meth I.kIn O (c.get m) k.at_ k.fn hn h
theorem tM(I:Inv X pins σ H s)(e:H a=some (.ins C dx fs))(c:Cls X.K C)(n:jG X.K C f)(hl:fs.length<1000)(ry:bR y u)
  (h:∀s',Inv X pins σ (upd H a (.ins C dx (iP f y fs))) s'->Q () s'):wpAny (model X.prog X.w) A (setAttr (.ref a) f u) Q E s:=by
 obtain⟨mA,O,r,wi,_,ho⟩:=qN I.hok e
 have hz:(fs.map (·.1)).length<=sizeLine:=by rw[θ,sizeLine_eq];omega
 refine set_map I.kIn O c.sa c.po n.taker c.hd wi hz λh' O' sb=>h _ ?_
 have hd:∃o,h'.get? dx=some o:=let ⟨o,_,_,e',_⟩:=O'.ns;⟨o,e'⟩
 refine I.write (x:=a) (e:=dx) (by rw[e];exact True.intro) (.inr ho) (λb q hb z=>(sb.2 b hb).trans z) hd ?_
 refine⟨by rw[upd_ne O.ne];exact ho,?_,O.ne,O'.obj,_,O'.ns,λg=>?_,λg hg=>?_⟩
 ·have:=mB f y fs;omega
 ·show o5 ((iP f y fs).lookup g) (if g=f then some u else mA g)
  rw[mz]
  by_cases q:g=f
  ·rw[if_pos q,if_pos q];exact ry
  ·rw[if_neg q,if_neg q];exact r g
 ·by_cases q:g=f
  ·rw[q];exact(l5 f y fs).1
  ·refine(l5 f y fs).2 g (wi g λz=>hg ?_)
   show(if g=f then some u else mA g)=none
   rw[if_neg q];exact z
theorem Inv.made(I:Inv X pins σ H s):Inv X pins σ (upd (upd H s.heap.objs.size (.own (s.heap.objs.size+1))) (s.heap.objs.size+1) (.ins C s.heap.objs.size []))
  { s with heap:=(s.heap.push V1).push (U1 C s.heap.objs.size) }:=by
 have e1:(s.heap.push V1).get? s.heap.objs.size=some V1:=Heap.get?_push_size s.heap rfl
 have e2:((s.heap.push V1).push (U1 C s.heap.objs.size)).get? (s.heap.objs.size+1)=some (U1 C s.heap.objs.size):=by
  have:=Heap.get?_push_size (s.heap.push V1) (o:=U1 C s.heap.objs.size) rfl
  rwa[Heap.size_push] at this
 have e3:(s.heap.push V1).Ns s.heap.objs.size (λ_=>none):=⟨V1,#[],_,e1,rfl,(λe he=>absurd he (by simp)),λ_=>rfl⟩
 have I1:=I.laid (a:=s.heap.objs.size) (o:=.own (s.heap.objs.size+1)) (h':=s.heap.push V1) (t':=s.toks) (λb u q=>Heap.get?_push_of_some _ q) (υ _) ⟨_,e1⟩
 refine I1.laid (a:=s.heap.objs.size+1) (o:=.ins C s.heap.objs.size []) (t':=s.toks) (λb u q=>Heap.get?_push_of_some _ q) (Nat.le_of_eq (Heap.size_push _ _)) ?_
 have ne:s.heap.objs.size≠s.heap.objs.size+1:=Z8 (Nat.lt_succ_self _)
 refine⟨by rw[upd_ne ne,aK],X8 _,ne,e2,λ_=>none,(Heap.Ns1.of_empty e3).at λo q=>Heap.get?_push_of_some _ q,λ_=>True.intro,λy hy=>absurd rfl hy⟩
theorem attr_of(hb:attributeBase e f env (eval e env)=eval e env)
  (h:wpAny (model prog w) A (eval e env) (λo s₁=>wpAny (model prog w) A (getAttr o f true) Q E s₁) E s):wpAny (model prog w) A (eval (.Attribute e f pos) env) Q E s :=
 Attribute_any_ h (by rw[arm_eval_Attribute,hb])
end
noncomputable def tFld(K:ζ)(ta:TE)(f:Str):TE:=λσ H Q=>ta σ H λx H1=>∃a C dx fs v,x=.ref a/\H1 a=some (.ins C dx fs)/\Cls K C/\jG K C f/\fs.lookup f=some v/\Q v H1
noncomputable def sFld(K:ζ)(ta tv:TE)(f:Str):TS:=λD σ H=>tv σ H λy H1=>ta σ H1 λx H2=>∃a C dx fs,x=.ref a/\H2 a=some (.ins C dx fs)/\Cls K C/\jG K C f/\fs.length<1000 /\
 D.nx σ (upd H2 a (.ins C dx (iP f y fs)))
section
theorem xY(he:PE X e ta)(hb:attributeBase e f X.env (eval e X.env)=eval e X.env):PE X (.Attribute e f pos) (tFld X.K ta f):=by
 intro pins s σ H Q I h
 refine attr_of hb (thn (he pins s σ H _ I h) λu s1 ⟨x,H1,I1,rx,a,C,dx,fs,v,ex,ea,c,n,l,q⟩=>?_)
 subst ex
 obtain rfl:u=Value.ref a:=rx
 exact uh I1 ea c n l λu' s2 I2 ru=>⟨v,H1,I2,ru,q⟩
theorem ps_fld(ha:PE X o ta)(hv:PE X value tv)(hs:swapsWith value (some (.Attribute o f pos')) pos.line X.env=pure false):PS X (.Assign [.Attribute o f pos'] value pos) (sFld X.K ta tv f):=by
 intro pins s σ H D I h
 refine plainObj_wpAny_Assign_Attribute (thn (hv pins s σ H _ I h) λu s1 ⟨y,H1,I1,ry,q⟩=>thn (ha pins s1 σ H1 _ I1 q) λov s2 ⟨x,H2,I2,rx,a,C,dx,fs,ex,ea,c,n,l,q2⟩=>?_) hs
 subst ex
 obtain rfl:ov=Value.ref a:=rx
 exact tM I2 ea c n l ry λs3 I3=>⟨σ,_,I3,q2⟩
end
section
end
end L2
namespace L2
open PyProof.Rows
structure Room(k:Nat)(A:Around):Prop where
 hd:A.handled=none
 dp:A.depth+3*k+5<recursionLimit
 un:A.units+16*k+200<cLine
theorem Room.mono(r:Room k A)(h:j<=k):Room j A:=⟨r.hd,by have:=r.dp;omega,by have:=r.un;omega⟩
theorem Room.deeper(r:Room (k+1) A)(env:Env):Room k (A.deeper env) :=
 ⟨r.hd,by have:=r.dp;show A.depth+1+3*k+5<_;omega,by have:=r.un;show A.units+3+16*k+200<_;omega⟩
theorem ue{A:Around}{C:Addr}{us:List Value}{kw:List (Str×Value)}:(A.under (.builtin "type.__call__" ⟨.ref C::us,kw⟩)).depth=A.depth+1:=by
 first | rfl | simp [Around.under,Code.weight,Code.isCreation,Code.isGuard,Code.isCaller,Code.frames,Code.isFrame,guardIds]
theorem ud{A:Around}{C:Addr}{us:List Value}{kw:List (Str×Value)}:(A.under (.builtin "type.__call__" ⟨.ref C::us,kw⟩)).units=A.units+1:=by
 first | rfl | simp [Around.under,Code.cUnits,Code.frames,Code.isFrame]
theorem Room.make(r:Room (k+1) A)(C:Addr)(us:List Value)(kw:List (Str×Value)):Room k (A.under (.builtin "type.__call__" ⟨.ref C::us,kw⟩)) :=
 ⟨r.hd,by have:=r.dp;rw[ue];omega,by have:=r.un;rw[ud];omega⟩
theorem Room.depth(r:Room k A):A.depth<recursionLimit:=by have:=r.dp;omega
theorem Room.units(r:Room k A):A.units+64<cLine:=by have:=r.un;omega
noncomputable def tNil:TA:=λ_ H Q=>Q [] H
noncomputable def tCons(ta:TE)(tr:TA):TA:=λσ H Q=>ta σ H λx H1=>tr σ H1 λxs H2=>Q (x::xs) H2
section
theorem jS:PA X [] tNil:=λ_ _ _ _ H Q I h=>Calls.spliced_nil ⟨[],H,I,.nil,h⟩
theorem gG(ha:PE X e te)(hr:PA X es t)(hs:starEach (e::es) X.env=(false,eval e X.env)::starEach es X.env:=by rfl):PA X (e::es) (tCons te t):=by
 intro pos pins s σ H Q I h
 rw[hs]
 show wpAny _ _ (spliced ((false,eval e X.env)::backTo pos (starEach es X.env))) _ _ s
 refine Calls.spliced_cons (thn (ha pins s σ H _ I h) λu s1 ⟨x,H1,I1,r1,q1⟩=>?_)
 exact thn (hr pos pins s1 σ H1 _ I1 q1) λus s2 ⟨xs,H2,I2,r2,q2⟩=>⟨x::xs,H2,I2,.cons r1 r2,q2⟩
noncomputable def tTup(t:TA):TE:=λσ H Q=>t σ H λxs H1=>xs.length<=sizeLine/\∀p,H1 p=none->Q (.ref p) (upd H1 p (.tup xs))
noncomputable def tLst(t:TA):TE:=λσ H Q=>t σ H λxs H1=>xs.length<=sizeLine/\∀p,H1 p=none->Q (.ref p) (upd H1 p (.lst xs))
theorem pe_tup{x1}(h:PA X es t):PE X (.Tuple es x1 pos) (tTup t):=by
 intro pins s σ H Q I hq
 refine wpAny_Tuple_spliced (thn (h pos pins s σ H _ I hq) λus s1 ⟨xs,H1,I1,r,z,q⟩=>⟨by rw[<-r.length];exact z,?_⟩)
 have hf:H1 s1.heap.objs.size=none:=I1.hok.fresh (υ _)
 refine⟨.ref s1.heap.objs.size,upd H1 s1.heap.objs.size (.tup xs),I1.laid (t':=s1.toks) (λb u e=>Heap.get?_push_of_some _ e) (υ _) ?_,rfl,q _ hf⟩
 exact⟨z,us,r,⟨_,Heap.get?_push_size _ rfl,rfl,_,rfl⟩⟩
theorem tV(h:PA X es t):PE X (.List es pos) (tLst t):=by
 intro pins s σ H Q I hq
 refine wpAny_List_spliced (thn (h pos pins s σ H _ I hq) λus s1 ⟨xs,H1,I1,r,z,q⟩=>⟨by rw[<-r.length];exact z,?_⟩)
 have hf:H1 s1.heap.objs.size=none:=I1.hok.fresh (υ _)
 refine⟨.ref s1.heap.objs.size,upd H1 s1.heap.objs.size (.lst xs),I1.laid (t':=s1.toks) (λb u e=>Heap.get?_push_of_some _ e) (υ _) ?_,rfl,q _ hf⟩
 exact⟨z,us,0,r,Heap.get?_push_size _ rfl⟩
end
abbrev Sp:=List V->Hp->VK->XK->Prop
abbrev CXT:=List Env->Hp->Shared->XK->Value->Shared->Prop
structure Env0(P:Program)(w:World)(K:ζ)(mg:Str->Option Value)(base:Heap)(A:Around)(outer:List Env)(s:Shared)(H:Hp):Prop where
 frames:A.frames=some outer
 mod:Mod K mg base
 bs:∀b o,base.get? b=some o->s.heap.get? b=some o/\H b=none
 bsz:base.objs.size<=s.heap.objs.size
 funs:s.heap.FunFrames base outer
 frf:∀b∈frs outer,H b=none
 hok:HOk P w H s.heap
 bare:AllBare s.gens
def CE(outer:List Env)(P:Program)(w:World)(H:Hp)(s:Shared)(Q:VK)(u:Value)(s':Shared):Prop :=
 ∃v H',s'.os=s.os/\AllBare s'.gens/\Un (frs outer) [] H H' s.heap s'.heap/\HOk P w H' s'.heap/\bR v u/\Q v H'
def CR(CX:CXT)(outer:List Env)(P:Program)(w:World)(H:Hp)(s:Shared)(Q:VK)(E:XK)(r:Result)(s':Shared):Prop :=
 match r with
 | .ok (.ret u)=>CE outer P w H s Q u s'
 | .ok _=>False
 | .error e=>CX outer H s E e s'
structure FnOk(P:Program)(w:World)(K:ζ)(mg:Str->Option Value)(base:Heap)(CX:CXT)(k:Nat)(f:Addr)(fd:FuncData)(ps:List Str)(sp:Sp):Prop where
 len:∀vs H Q E,sp vs H Q E->vs.length=ps.length
 run:∀(A:Around) (outer:List Env) (s:Shared) (H:Hp) (args:Args) (us:List Value) (vs:List V) (Q:VK) (E:XK),Room k A->Env0 P w K mg base A outer s H->BindsTo s fd args (ps.zip us)->aS vs us->sp vs H Q E ->
  codeAny (model P w) A (.call (.ref f) args) (CR CX outer P w H s Q E) s
theorem FnOk.imp{P:Program}{w:World}{K:ζ}{mg:Str->Option Value}{base:Heap}{CX:CXT}{k:Nat}{f:Addr}{fd:FuncData}{ps:List Str}{sp sp':Sp}(F:FnOk P w K mg base CX k f fd ps sp)
  (h:∀vs H Q E,sp' vs H Q E->sp vs H Q E):FnOk P w K mg base CX k f fd ps sp' :=
 ⟨λvs H Q E q=>F.len vs H Q E (h _ _ _ _ q),λA outer s H args us vs Q E hr he hb hv hs=>F.run A outer s H args us vs Q E hr he hb hv (h _ _ _ _ hs)⟩
theorem Env0.make{P:Program}{w:World}{K:ζ}{mg:Str->Option Value}{base:Heap}{A:Around}{outer:List Env}{s:Shared}{H:Hp}(e:Env0 P w K mg base A outer s H)(C:Addr)(us:List Value)(kw:List (Str×Value)) :
  Env0 P w K mg base (A.under (.builtin "type.__call__" ⟨.ref C::us,kw⟩)) outer s H:=⟨by first | exact e.frames | (simpa [Around.under,Code.envs,Code.isFrame,pushEnvs] using e.frames),e.mod,e.bs,e.bsz,e.funs,e.frf,e.hok,e.bare⟩
section
theorem Inv.env0(I:Inv X pins σ H s):Env0 X.prog X.w X.K X.mg X.base X.A X.stack s H :=
 ⟨I.ok.frames,I.ok.mod,I.bs,W1 I.ok.bsz I.sz,I.stack,I.stkFree,I.hok,I.bare⟩
theorem Inv.after(I:Inv X pins σ H s)(h:CE X.stack X.prog X.w H s Q u s'):EP X pins σ Q u s':=by
 obtain⟨v,H',os,bare,un,hok,r,q⟩:=h
 obtain⟨hh,g,d,t,os'⟩:=s'
 obtain rfl:os'=s.os:=os
 exact⟨v,H',I.call (h':=hh) (g':=g) (d':=d) (t':=t) (ch:=[]) un hok bare (λb z=>absurd z (by simp)),r,q⟩
end
noncomputable def tCall(sp:Sp)(dvs:List V)(E:XK)(t:TA):TE:=λσ H Q=>t σ H λvs H1=>sp (vs++dvs) H1 Q E
noncomputable def tMeth(C:Addr)(m:Str)(sp:Sp)(dvs:List V)(E:XK)(ta:TE)(t:TA):TE:=λσ H Q=>ta σ H λx H1=>∃a dx fs,x=.ref a/\H1 a=some (.ins C dx fs)/\fs.lookup m=none /\
 t σ H1 λvs H2=>sp (x::(vs++dvs)) H2 Q E
noncomputable def tMake(C:Addr)(sp:Sp)(dvs:List V)(E:XK)(t:TA):TE:=λσ H Q=>t σ H λvs H1=>∀x dx,H1 x=none->H1 dx=none->dx≠x ->
 sp (.ref x::(vs++dvs)) (upd (upd H1 dx (.own x)) x (.ins C dx [])) (λv H2=>v=.non/\Q (.ref x) H2) E
def gr(K:ζ)(fd:FuncData)(ps:List Str)(ds:List Value):Prop :=
 ∀(s:Shared) (us:List Value),K.In s.heap->(us++ds).length=ps.length->BindsTo s fd ⟨us,[]⟩ (ps.zip (us++ds))
theorem gr.all{K:ζ}{fd:FuncData}{ps:List Str}(h:∀us:List Value,us.length=ps.length->bindArgs fd ⟨us,[]⟩=pure (ps.zip us)):gr K fd ps []:=λs us _ hl=>by
 rw[Z4] at hl ⊢
 exact .of_eq (h us hl)
def lg(CX:CXT)(X:Cx)(E:XK):Prop:=∀(pins:List (Addr×Obj)) (σ:St) (H:Hp) (s:Shared) (e:Value) (s':Shared),Inv X pins σ H s->CX X.stack H s E e s'->X.xe e s'
section
theorem tN(F:FnOk X.prog X.w X.K X.mg X.base CX k f fd ps sp)(hr:Room k X.A)(hb:gr X.K fd ps ds)(hd:aS dvs ds)(hx:lg CX X E)
  (I:Inv X pins σ H s) (r:aS vs us) (h:sp (vs++dvs) H Q E):wpAny (model X.prog X.w) X.A (call (.ref f) us) (EP X pins σ Q) X.xe s:=by
 have r2:aS (vs++dvs) (us++ds):=r.append hd
 have hl:(us++ds).length=ps.length:=by rw[<-r2.length];exact F.len _ _ _ _ h
 refine wpAny_call (codeAny_mono (F.run X.A X.stack s H ⟨us,[]⟩ (us++ds) (vs++dvs) Q E hr I.env0 (hb s us I.kIn hl) r2 h) λr s' hq=>?_)
 cases r with
 | error e=>exact hx pins σ H s e s' I hq
 | ok fl =>
  cases fl with
  | ret u=>exact I.after hq
  | next=>exact False.elim hq
  | brk=>exact False.elim hq
  | cont=>exact False.elim hq
theorem vb(F:FnOk X.prog X.w X.K X.mg X.base CX k f fd ps sp)(hr:Room k X.A)(hg:Gl X x)(hm:X.mg x=some (.ref f))(hk:V7 X.K (.ref f)=true)(hb:gr X.K fd ps ds)(hd:aS dvs ds)(hx:lg CX X E)
  (ha:PA X (e::es) t) (hdb:(x==("__debug__" : Str))=false:=by decide) (he:starEach (e::es) X.env=(false,eval e X.env)::starEach es X.env:=by rfl) (hpl:(backTo pos (starEach es X.env)).any (·.1)=false:=by rfl) :
  PE X (.Call (.Name x p) (e::es) [] pos) (tCall sp dvs E t):=by
 intro pins s σ H Q I h
 refine wpAny_Call_Name_kw (qJ I hg hm ?_ hdb)
 refine PySem.W.callWith_K (h₀:=X.base) I.ok.mod.kin hk (thn (ha pos pins s σ H _ I h) λus s1 ⟨vs,H1,I1,r,q⟩=>⟨I1.kIn,?_⟩) he hpl
 exact tN F hr hb hd hx I1 r q
theorem qz(he:PE X o ta)(c:Cls X.K C)(hm:Meth X.K C m f)(F:FnOk X.prog X.w X.K X.mg X.base CX k f fd ps sp)(hr:Room k X.A)(hb:gr X.K fd ps ds)(hd:aS dvs ds)(hx:lg CX X E)(ha:PA X (e::es) t)
  (hst:starEach (e::es) X.env=(false,eval e X.env)::starEach es X.env:=by rfl) (hpl:(backTo pos (starEach es X.env)).any (·.1)=false:=by rfl)
  (ht:eval (.Call (.Attribute o m apos) (e::es) [] pos) X.env=(do
   let ov <- eval o X.env
   standAt apos.atName
   let (f,first) <- holding [ov] (getMethod ov m pl)
   callWith pos f first (backTo pos (starEach (e::es) X.env)) (backToKw pos (keywordEach [] X.env))):=by rfl) :
  PE X (.Call (.Attribute o m apos) (e::es) [] pos) (tMeth C m sp dvs E ta t):=by
 intro pins s σ H Q I h
 refine PySem.W.methodCall_KW (pl:=pl) (thn (he pins s σ H _ I h) λu s1 ⟨x,H1,I1,rx,a,dx,fs,ex,ea,l,q⟩=>?_) ht
 subst ex
 obtain rfl:u=Value.ref a:=rx
 refine oE I1 ea c hm l ?_
 refine PySem.W.callWith_K (first:=[.ref a]) (h₀:=X.base) I.ok.mod.kin hm.kp (thn (ha pos pins s1 σ H1 _ I1 q) λus s2 ⟨vs,H2,I2,r,q2⟩=>⟨I2.kIn,?_⟩) hst hpl
 exact tN (us:=.ref a::us) (vs:=.ref a::vs) F hr hb hd hx I2 (.cons rfl r) q2
theorem si(he:PE X o ta)(c:Cls X.K C)(hm:Meth X.K C m f)(F:FnOk X.prog X.w X.K X.mg X.base CX k f fd ps sp)(hr:Room k X.A)(hb:gr X.K fd ps ds)(hd:aS dvs ds)(hx:lg CX X E)
  (ht:eval (.Call (.Attribute o m apos) [] [] pos) X.env=(do
   let ov <- eval o X.env
   standAt apos.atName
   let (f,first) <- holding [ov] (getMethod ov m pl)
   callWith pos f first (backTo pos (starEach [] X.env)) (backToKw pos (keywordEach [] X.env))):=by rfl) :
  PE X (.Call (.Attribute o m apos) [] [] pos) (tMeth C m sp dvs E ta tNil):=by
 intro pins s σ H Q I h
 refine PySem.W.methodCall_KW (pl:=pl) (thn (he pins s σ H _ I h) λu s1 ⟨x,H1,I1,rx,a,dx,fs,ex,ea,l,q⟩=>?_) ht
 subst ex
 obtain rfl:u=Value.ref a:=rx
 refine oE I1 ea c hm l ?_
 exact PySem.W.callWith_K0 (first:=[.ref a]) I1.kIn hm.kp (tN (us:=[.ref a]) (vs:=[.ref a]) F hr hb hd hx I1 (.cons rfl .nil) q)
structure Mk(K:ζ)(C f:Addr):Prop where
 makes:PySem.W.makesIn K C=true
 init:Z6 K (.ref C) "__init__" = some (some (.ref f))
 fn:PySem.W.isFn K (.ref f)=true
 kp:V7 K (.ref C)=true
theorem xK(M:Mk X.K C f)(F:FnOk X.prog X.w X.K X.mg X.base CX k f fd ps sp)(hr:Room (k+1) X.A)(hb:gr X.K fd ps ds)(hd:aS dvs ds)
  (hx:lg CX X E) (I:Inv X pins σ H s) (r:aS vs us)
  (h:∀x dx,H x=none->H dx=none->dx≠x->sp (.ref x::(vs++dvs)) (upd (upd H dx (.own x)) x (.ins C dx [])) (λv H2=>v=.non/\Q (.ref x) H2) E) :
  wpAny (model X.prog X.w) X.A (call (.ref C) us) (EP X pins σ Q) X.xe s:=by
 have hq:=h (s.heap.objs.size+1) s.heap.objs.size (I.hok.fresh (Nat.le_succ _)) (I.hok.fresh (υ _)) (Z8 (Nat.lt_succ_self _))
 have I2:=Inv.made (C:=C) I
 have r2:aS (V.ref (s.heap.objs.size+1)::(vs++dvs)) (Value.ref (s.heap.objs.size+1)::(us++ds)):=.cons rfl (r.append hd)
 have hl:(Value.ref (s.heap.objs.size+1)::us++ds).length=ps.length:=by
  have e:=r2.length
  rw[F.len _ _ _ _ hq] at e
  exact e.symm
 refine wpAny_call (make_map (f:=f) I.kIn M.makes M.init (beq_iff_eq.mp M.fn) (codeAny_mono (F.run _ X.stack _ _ ⟨Value.ref (s.heap.objs.size+1)::us,[]⟩ (Value.ref (s.heap.objs.size+1)::(us++ds)) _ _ E (hr.make C us [])
  (I2.env0.make C us []) (hb _ (Value.ref (s.heap.objs.size+1)::us) I2.kIn hl) r2 hq) λr s' hq'=>?_))
 cases r with
 | error e=>exact hx pins σ _ _ e s' I2 hq'
 | ok fl =>
  cases fl with
  | ret u =>
   obtain⟨v,H',I3,rv,ev,q3⟩:=I2.after hq'
   subst ev
   exact⟨rv,⟨V.ref (s.heap.objs.size+1),H',I3,rfl,q3⟩⟩
  | next=>exact False.elim hq'
  | brk=>exact False.elim hq'
  | cont=>exact False.elim hq'
theorem pe_make(M:Mk X.K C f)(F:FnOk X.prog X.w X.K X.mg X.base CX k f fd ps sp)(hr:Room (k+1) X.A)(hg:Gl X x)(hm:X.mg x=some (.ref C))(hb:gr X.K fd ps ds)(hd:aS dvs ds)(hx:lg CX X E)
  (ha:PA X (e::es) t) (hdb:(x==("__debug__" : Str))=false:=by decide) (he:starEach (e::es) X.env=(false,eval e X.env)::starEach es X.env:=by rfl) (hpl:(backTo pos (starEach es X.env)).any (·.1)=false:=by rfl) :
  PE X (.Call (.Name x p) (e::es) [] pos) (tMake C sp dvs E t):=by
 intro pins s σ H Q I h
 refine wpAny_Call_Name_kw (qJ I hg hm ?_ hdb)
 refine PySem.W.callWith_K (h₀:=X.base) I.ok.mod.kin M.kp (thn (ha pos pins s σ H _ I h) λus s1 ⟨vs,H1,I1,r,q⟩=>⟨I1.kIn,?_⟩) he hpl
 exact xK M F hr hb hd hx I1 r q
end
section
end
structure FnScope(N P:List Str)(sc:Scope):Prop where
 kind:sc.kind=.function
 co:sc.isCoroutine=false
 gen:sc.isGenerator=false
 nd:N.Nodup
 pre:N.take P.length=P
 par:∀x∈P,sc.names.lookup x=some .local\/sc.names.lookup x=some .cell
 nofree:∀y∈sc.names,y.2≠.free
theorem qa{kindOf:Str->Option NameKind}{x:Str}:∀{binds:List (Str×Value)} {m:Str->Option Value},(∀v,(x,v)∉binds)->bindL kindOf binds m x=m x
 | [],_,_=>rfl
 | (n,v)::r,m,h=>by
  unfold bindL
  rw[qa λw hw=>h w (ι _ hw)]
  split
  ·have:x≠n:=by rintro rfl;exact h v ο
   simp [this]
  ·rfl
theorem qc{kindOf:Str->Option NameKind}{x:Str}:∀{binds:List (Str×Value)} {m:Str->Option Value},(∀v,(x,v)∉binds)->bindC kindOf binds m x=m x
 | [],_,_=>rfl
 | (n,v)::r,m,h=>by
  unfold bindC
  rw[qc λw hw=>h w (ι _ hw)]
  split
  ·rfl
  ·have:x≠n:=by rintro rfl;exact h v ο
   simp [this]
theorem qb{kindOf:Str->Option NameKind}{x:Str}{v:Value}:∀{P:List Str} {vs:List Value} {i:Nat} {m:Str->Option Value},P.Nodup->P[i]?=some x->vs[i]?=some v->kindOf x=some .local ->
  bindL kindOf (P.zip vs) m x=some v
 | [],_,_,_,_,h,_,_=>by simp at h
 | _::_,[],_,_,_,_,h,_=>by simp at h
 | p::P,w::vs,0,m,nd,h1,h2,hk=>by
  simp at h1 h2;subst h1;subst h2
  show bindL kindOf ((p,w)::P.zip vs) m p=_
  unfold bindL
  rw[qa λv hv=>(W5.mp nd).1 (T9 hv).1,if_pos hk]
  simp
 | p::P,w::vs,i+1,m,nd,h1,h2,hk=>by
  show bindL kindOf ((p,w)::P.zip vs) m x=_
  unfold bindL
  exact qb (i:=i) (W5.mp nd).2 (by simpa using h1) (by simpa using h2) hk
theorem qd{kindOf:Str->Option NameKind}{x:Str}{v:Value}:∀{P:List Str} {vs:List Value} {i:Nat} {m:Str->Option Value},P.Nodup->P[i]?=some x->vs[i]?=some v->kindOf x≠some .local ->
  bindC kindOf (P.zip vs) m x=some v
 | [],_,_,_,_,h,_,_=>by simp at h
 | _::_,[],_,_,_,_,h,_=>by simp at h
 | p::P,w::vs,0,m,nd,h1,h2,hk=>by
  simp at h1 h2;subst h1;subst h2
  show bindC kindOf ((p,w)::P.zip vs) m p=_
  unfold bindC
  rw[qc λv hv=>(W5.mp nd).1 (T9 hv).1,if_neg hk]
  simp
 | p::P,w::vs,i+1,m,nd,h1,h2,hk=>by
  show bindC kindOf ((p,w)::P.zip vs) m x=_
  unfold bindC
  exact qd (i:=i) (W5.mp nd).2 (by simpa using h1) (by simpa using h2) hk
noncomputable def gj(N:List Str)(vs:List V):St:=vs.map some++ρ (N.length-vs.length) none
noncomputable def oQ(CX:CXT)(P:Program)(w:World)(K:ζ)(mg:Str->Option Value)(base:Heap)(N:List Str)(qual:Str)(scope:Scope)(f:Addr)(cd:Value)(A:Around)(outer:List Env)(s:Shared)(H:Hp)(E:XK):Cx where
 prog:=P
 w:=w
 K:=K
 mg:=mg
 base:=base
 A:=A.deeper (envOfC qual scope s.heap.objs.size f cd)
 N:=N
 s₀:=s
 H₀:=H
 env:=envOfC qual scope s.heap.objs.size f cd
 outer:=outer
 stack:=envOfC qual scope s.heap.objs.size f cd::outer
 ex:=[]
 calm:=true
 fn:=λ_=>true
 pn:=[]
 xe:=λe s'=>wpAny (model P w) (A.deeper (envOfC qual scope s.heap.objs.size f cd)) (leaving (envOfC qual scope s.heap.objs.size f cd) e) (λ_ s''=>CX outer H s E e s'') (λe' s''=>CX outer H s E e' s'') s'
theorem td{sc:Scope}{n:Nat}{x:Str}(h:sc.names.lookup x=some .cell):∃c,(cellsFrom n sc.names []).lookup x=some c:=by
 have q:=PySem.W.cellsFrom_some sc.names n [] (.inl h)
 exact Option.isSome_iff_exists.mp q
theorem wI{CX:CXT}{P:Program}{w:World}{K:ζ}{mg:Str->Option Value}{base:Heap}{N ps:List Str}{qual:Str}{scope:Scope}{f:Addr}{cd:Value}{A:Around}{outer:List Env}{s s1:Shared}{H:Hp}{E:XK}{us:List Value}{vs:List V}
  (S:FnScope N ps scope) (hd:A.handled=none) (e0:Env0 P w K mg base A outer s H) (hl:vs.length=ps.length) (r:aS vs us)
  (x:InCallC s s.heap.objs.size (bindL (envOfC qual scope s.heap.objs.size f cd).kindOf (ps.zip us) λ_=>none) (cellsFrom (s.heap.objs.size+1) scope.names []) (bindC (envOfC qual scope s.heap.objs.size f cd).kindOf (ps.zip us) λ_=>none) s1) :
  Inv (oQ CX P w K mg base N qual scope f cd A outer s H E) [] (gj N vs) H s1:=by
 have hpl:ps.length<=N.length:=by have:=congrArg List.length S.pre;rw[V9] at this;omega
 obtain⟨h1,tk,rfl,hk⟩:=x.done
 have noA:∀b:Addr,b∉(oQ CX P w K mg base N qual scope f cd A outer s H E).ex:=λb z=>absurd (show b∈([]:List Addr) from z) (by simp)
 refine⟨⟨e0.mod,S.kind,rfl,rfl,υ _,λy z c h1 h2=>?_,λy hy=>?_,λy c _ h=>?_,λ_=>hd,Around.frames_deeper e0.frames,.inr ⟨rfl,rfl⟩,λb z=>absurd z (noA b),e0.bs,e0.bsz,λb _ _=>noA b,λb z=>absurd z (noA b),e0.funs,e0.frf⟩,
  rfl,e0.bare,Un.kept hk,⟨_,x.toInCall.ns,λi y v h1 h2 h3=>?_⟩,λy c h=>⟨_,x.cell y c h⟩,e0.hok.fresh (υ _),λy c h=>?_,λp hp=>absurd (show p∈([]:List (Addr×Obj)) from hp) (by simp),e0.hok.kept hk,?_⟩
 ·exact name_of_addr x.apart (PySem.mem_of_lookup h1) (PySem.mem_of_lookup h2)
 ·have hy:scope.names.lookup y=some .cell\/scope.names.lookup y=some .free:=hy
  rcases hy with hy | hy
  ·exact td hy
  ·exact absurd rfl (S.nofree _ (PySem.mem_of_lookup hy))
 ·exact W7 (x.above y c (PySem.mem_of_lookup h))
 ·have hi:i<vs.length:=by
   unfold gj at h2
   by_cases hi:i<vs.length
   ·exact hi
   ·rw[χ (by simpa using hi)] at h2
    rw[X5] at h2
    split at h2<;>cases h2
  have ha:vs[i]?=some v:=by
   unfold gj at h2
   rw[ξ (by simpa using hi),Λ] at h2
   cases e:vs[i]? with
   | none=>rw[e] at h2;cases h2
   | some a=>rw[e] at h2;cases h2;rfl
  obtain⟨u,hu,rv⟩:=r.get ha
  have hp:ps[i]?=some y:=by
   rw[<-S.pre,List.getElem?_take_of_lt (by omega)];exact h1
  have ndP:ps.Nodup:=by rw[<-S.pre];exact S.nd.sublist (List.take_sublist _ _)
  refine⟨u,rv,?_⟩
  rcases S.par y (W4 hp) with k | k
  ·exact .inl ⟨k,qb ndP hp hu k⟩
  ·obtain⟨c,e⟩:=td (n:=s.heap.objs.size+1) k
   refine .inr ⟨.inl k,c,e,?_⟩
   have q:=x.cell y c e
   rw[qd ndP hp hu (by show scope.names.lookup y≠_;rw[k];decide)] at q
   exact q
 ·exact e0.hok.fresh (W7 (x.above y c (PySem.mem_of_lookup h)))
 ·unfold gj
  show _=N.length
  rw[η,θ,Z1]
  omega
theorem fn_of{CX:CXT}{P:Program}{w:World}{K:ζ}{mg:Str->Option Value}{base:Heap}{k:Nat}{f:Addr}{name qual:Str}{params:Arguments}{body:List Stmt}{scope:Scope}{dV kV doc pm cdv ct oc:Value}{an od:Option Addr}
  {osl:Array (Option Value)} {N ps:List Str} {sp:Sp} (lk:K.lookup f=some ⟨oc,od,.func (T6 name qual params body scope dV kV doc pm an cdv ct),osl⟩) (hcd:PySem.W.codeIn K cdv qual=true) (S:FnScope N ps scope)
  (len:∀vs H Q E,sp vs H Q E->vs.length=ps.length)
  (hbody:∀(A:Around) (outer:List Env) (s:Shared) (H:Hp) (vs:List V) (Q:VK) (E:XK),Room k (A.deeper (envOfC qual scope s.heap.objs.size f cdv))->sp vs H Q E ->
   ∃t,PSs (oQ CX P w K mg base N qual scope f cdv A outer s H E) body t/\t { nx:=λ_ H'=>Q .non H',rt:=Q } (gj N vs) H) :
  FnOk P w K mg base CX (k+1) f (T6 name qual params body scope dV kV doc pm an cdv ct) ps sp:=by
 refine⟨len,λA outer s H args us vs Q E hr e0 hb r hsp=>?_⟩
 have hl:=len _ _ _ _ hsp
 have KX:K.In s.heap:=e0.mod.kin.keeps λb o e=>(e0.bs b o e).1
 have lim:s.heap.NoLimit:=e0.mod.nolimit.keeps λb o e=>(e0.bs b o e).1
 have hkind:∀y∈ps.zip us,scope.names.lookup y.1=some .local\/(scope.names.lookup y.1=some .cell/\((cellsFrom (s.heap.objs.size+1) scope.names []).lookup y.1).isSome=true):=λ⟨n,v⟩ hy=>by
  rcases S.par n (T9 hy).1 with q | q
  ·exact .inl q
  ·exact .inr ⟨q,PySem.W.cellsFrom_some _ _ _ (.inl q)⟩
 refine codeAny_call_function hr.depth (KX _ _ lk) rfl S.co S.gen rfl (PySem.W.codeRec_of KX hcd) (hb _ _ _ _ ?_)
 refine wpAny_newFunctionEnv_cells S.kind hkind λenv he s1 x=>?_
 subst he
 refine⟨lim.keeps x.toInCall.keep,codeAny_func ?_⟩
 obtain⟨t,ht,hq⟩:=hbody A outer s H vs Q E (hr.deeper _) hsp
 have I:Inv (oQ CX P w K mg base N qual scope f cdv A outer s H E) [] (gj N vs) H s1:=wI S hr.hd e0 hl r x
 refine wpAny_mono (ht [] s1 (gj N vs) H _ I hq) (λfl s' hs=>?_) λe s' hs=>hs
 have fin:∀{σ':St} {H':Hp} {v:V} {u:Value},Inv (oQ CX P w K mg base N qual scope f cdv A outer s H E) [] σ' H' s'->bR v u->Q v H'->CE outer P w H s Q u s' :=
  λ{σ' H' v u} J rv q=>⟨v,H',J.os,J.bare,J.base,J.hok,rv,q⟩
 cases fl with
 | ret u =>
  obtain⟨v,σ',H',J,rv,q⟩:=hs
  exact fin J rv q
 | next =>
  obtain⟨σ',H',J,q⟩:=hs
  exact fin (v:=V.non) (u:=Value.none) J rfl q
 | brk =>
  obtain⟨_,_,_,q⟩:=hs
  exact False.elim q
 | cont =>
  obtain⟨_,_,_,q⟩:=hs
  exact False.elim q
end L2
namespace L2
open PyProof.Rows
section
variable{X:Cx}{x:Str}{p pos:Pos}{e:Expr}{es:List Expr}{t:TA}{id T:String}{r:List V->Hp->VK->Prop}
def tCB(r:List V->Hp->VK->Prop)(t:TA):TE:=λσ H Q=>t σ H λvs H1=>r vs H1 Q
theorem sj(hc:fN X (.builtin id) r)(hg:Gl X x)(hm:X.mg x=none)(hv:bootBuiltins x=some (.builtin id))(ha:PA X (e::es) t)(hn:x ≠ "__name__" := by decide)(hdb:(x==("__debug__" : Str))=false:=by decide)
  (he:starEach (e::es) X.env=(false,eval e X.env)::starEach es X.env:=by rfl) (hpl:(backTo pos (starEach es X.env)).any (·.1)=false:=by rfl):PE X (.Call (.Name x p) (e::es) [] pos) (tCB r t):=by
 intro pins s σ H Q I h
 refine wpAny_Call_Name_kw (jk I hg hm hv ?_ hn hdb)
 exact PyProof.Rows.callWith_builtin1 (thn (ha pos pins s σ H _ I h) λus s1 ⟨vs,H1,I1,r1,q1⟩=>hc pins s1 σ H1 vs us Q I1 r1 q1) he hpl
theorem pI(hc:fN X (.type T) r)(hg:Gl X x)(hm:X.mg x=none)(hv:bootBuiltins x=some (.type T))(ha:PA X (e::es) t)(hn:x ≠ "__name__" := by decide)(hdb:(x==("__debug__" : Str))=false:=by decide)
  (he:starEach (e::es) X.env=(false,eval e X.env)::starEach es X.env:=by rfl) (hpl:(backTo pos (starEach es X.env)).any (·.1)=false:=by rfl):PE X (.Call (.Name x p) (e::es) [] pos) (tCB r t):=by
 intro pins s σ H Q I h
 refine wpAny_Call_Name_kw (jk I hg hm hv ?_ hn hdb)
 exact PyProof.Rows.callWith_type1 (thn (ha pos pins s σ H _ I h) λus s1 ⟨vs,H1,I1,r1,q1⟩=>hc pins s1 σ H1 vs us Q I1 r1 q1) he hpl
end
end L2
namespace HT
open PyProof.Rows
section
open PySem.SeqAt
open PySem.AutoSeq1 (wpAny_loadPart')
open PySem.MeetsSeq PySem.MeetsSeq2 PySem.MeetsSeq3
end
section
variable{prog:Program}{w:World}{A:Around}{E:Value->Shared->Prop}{s:Shared}
theorem cat_tup(ht:IsTup s.heap t vs.toArray)(hb:IsTup s.heap b ws.toArray)(hv:vs≠[])
  (h1:ws=[]->Q (.ref t) s) (h2:ws≠[]->Q (.ref s.heap.objs.size) { s with heap:=s.heap.push { cls:=.type "tuple",data:=.seq (vs++ws).toArray } })
  (hsz:vs.length+ws.length<=sizeLine):wpAny (model prog w) A (binaryOp .Add (.ref t) (.ref b)) Q E s:=by
 obtain⟨⟨cls,dd,data,sl⟩,ho,hc,n,hd⟩:=id ht
 obtain⟨⟨cls2,dd2,data2,sl2⟩,ho2,hc2,n2,hd2⟩:=id hb
 simp only at hc hd hc2 hd2
 subst hc hd hc2 hd2
 have e:vs.toArray++ws.toArray=(vs++ws).toArray:=by simp
 by_cases hw:ws=[]
 ·exact concat_meets ⟨_,ho,rfl⟩ ⟨_,ho2,rfl⟩ noFill_tuple_add seq_tuple_add PySem.F.slot_tuple_add PySem.F.entry_tuple_add (PySem.F.args_tuple_add_2 _ _)
   (tuple_addW1 t b vs.toArray ws.toArray n n2 dd dd2 sl sl2 (by simpa using hv) (by simp [hw])) ⟨ho,ho2,h1 hw⟩
 ·refine concat_meets ⟨_,ho,rfl⟩ ⟨_,ho2,rfl⟩ noFill_tuple_add seq_tuple_add PySem.F.slot_tuple_add PySem.F.entry_tuple_add (PySem.F.args_tuple_add_2 _ _)
   (tuple_addW2 t b vs.toArray ws.toArray n n2 dd dd2 sl sl2 (by simpa using hv) (by simpa using hw) (by rw[Ξ,Ξ];exact hsz)) ⟨ho,ho2,?_⟩
  rw[e]
  exact h2 hw
noncomputable def sIx(n d:Nat):Option Int->Nat
 | none=>d
 | some v=>if v<0 then (v+(n:Int)).toNat else min v.toNat n
theorem rX(n d:Nat):sIx n d none=d:=rfl
theorem uT(n d k:Nat):sIx n d (some (k:Int))=min k n:=by
 show(if (k:Int)<0 then ((k:Int)+(n:Int)).toNat else min (k:Int).toNat n)=min k n
 rw[if_neg (by omega),Y8]
theorem sIx_le(n d:Nat)(hd:d<=n)(o:Option Int):sIx n d o<=n:=by
 cases o with
 | none=>exact hd
 | some v =>
  show(if v<0 then (v+(n:Int)).toNat else min v.toNat n)<=n
  by_cases hv:v<0
  ·rw[if_pos hv];omega
  ·rw[if_neg hv];exact Nat.min_le_right _ _
theorem vT(v:Int)(n d:Nat):(if v<0 then max (v+(n:Int)) 0 else min v (n:Int))=((sIx n d (some v):Nat):Int):=by
 show(if v<0 then max (v+(n:Int)) 0 else min v (n:Int))=(((if v<0 then (v+(n:Int)).toNat else min v.toNat n):Nat):Int)
 by_cases hv:v<0
 ·simp only[if_pos hv];omega
 ·simp only[if_neg hv];omega
theorem uD(lo hi:Option Int)(n:Nat):Builtin.Slice.sliceAdjust lo hi 1 (n:Int)=(((sIx n 0 lo:Nat):Int),((sIx n n hi:Nat):Int)):=by
 have h1:¬((1:Int)<0):=by omega
 unfold Builtin.Slice.sliceAdjust
 simp only[h1,if_false]
 refine Prod.ext ?_ ?_
 ·cases lo with
  | none=>rfl
  | some v=>exact vT v n 0
 ·cases hi with
  | none=>rfl
  | some v=>exact vT v n n
theorem tT(i j:Nat):Builtin.Slice.slicePlaces (i:Int) (j:Int) 1=j-i:=by
 unfold Builtin.Slice.slicePlaces
 have h1:(1:Int) > 0:=by omega
 simp only[h1,if_true,Int.ediv_one]
 split<;>omega
theorem nF(p:IsPart v o)(h:Q o s):wpAny (model prog w) A (Builtin.Slice.slicePartIndex v) Q E s:=by
 cases p with
 | none=>exact slicePart_none h
 | int i t=>exact slicePart_int h
theorem lP{sl:Addr}{vl vu:Value}{lo hi:Option Int}{n:Nat}{Q:Int×Int×Nat->Shared->Prop}(hs:s.heap.IsSliceOf sl vl vu .none)(pl:IsPart vl lo)(pu:IsPart vu hi)
  (h:Q (((sIx n 0 lo:Nat):Int),1,sIx n n hi-sIx n 0 lo) s):wpAny (model prog w) A (Builtin.Slice.sliceApplied (.ref sl) (pure (n:Int))) Q E s:=by
 obtain⟨os,hos,hcs,hds⟩:=id hs
 unfold Builtin.Slice.sliceApplied Builtin.Slice.sliceFields
 refine wpAny_bind (wpAny_bind (wpAny_field hos hds (x:=vl) rfl (wpAny_bind (wpAny_field hos hds (x:=vu) rfl (wpAny_bind (wpAny_field hos hds (x:=.none) rfl (wpAny_pure ?_)))))))
 refine wpAny_bind (slicePart_none ?_)
 show wpAny _ _ (if ((1:Int)==0)=true then _ else _) _ _ s
 rw[if_neg (by decide)]
 refine wpAny_bind (nF pl (wpAny_bind (nF pu (wpAny_bind (wpAny_pure ?_)))))
 show wpAny _ _ (match Builtin.Slice.sliceAdjust lo hi 1 (n:Int) with | (lo,hi)=>pure (lo,(1:Int),Builtin.Slice.slicePlaces lo hi 1)) _ _ s
 rw[uD lo hi n]
 show wpAny _ _ (pure (((sIx n 0 lo:Nat):Int),(1:Int),Builtin.Slice.slicePlaces ((sIx n 0 lo:Nat):Int) ((sIx n n hi:Nat):Int) 1)) _ _ s
 rw[tT]
 exact wpAny_pure h
theorem xU(xs:Array Value)(i k:Nat):((Z3 k).filterMap λ(m:Nat)=>xs[((i:Int)+(m:Int)*1).toNat]?).toArray=((xs.toList.drop i).take k).toArray:=by
 have e:(λ(m:Nat)=>xs[((i:Int)+(m:Int)*1).toNat]?)=λm=>xs[i+m]?:=by
  funext m
  have:((i:Int)+(m:Int)*1).toNat=i+m:=by omega
  rw[this]
 rw[e]
 have:=pick_run xs i k
 rw[List.filterMap_map] at this
 have e2:((λx=>xs[x]?)∘λx=>i+x)=λm=>xs[i+m]?:=rfl
 rw[e2] at this
 rw[this]
theorem lx{t sl:Addr}{items:Array Value}{vl vu:Value}{lo hi:Option Int}{Q:Value->Shared->Prop}(ht:IsTup s.heap t items)(hs:s.heap.IsSliceOf sl vl vu .none)(pl:IsPart vl lo)(pu:IsPart vu hi)
  (hw:¬(sIx items.size 0 lo=0/\sIx items.size items.size hi=items.size))
  (h:Q (.ref s.heap.objs.size) { s with heap:=s.heap.push { cls:=.type "tuple",data:=.seq ((items.toList.drop (sIx items.size 0 lo)).take (sIx items.size items.size hi-sIx items.size 0 lo)).toArray } })
  (hsz:items.size<=sizeLine):wpAny (model prog w) A (getItem (.ref t) (.ref sl)) Q E s:=by
 have htake:sizeOk (.seq ((items.toList.drop (sIx items.size 0 lo)).take (sIx items.size items.size hi-sIx items.size 0 lo)).toArray):=by
  show((items.toList.drop (sIx items.size 0 lo)).take (sIx items.size items.size hi-sIx items.size 0 lo)).toArray.size<=sizeLine
  rw[Ξ,V9,List.length_drop,T8]
  omega
 have hj:sIx items.size items.size hi<=items.size:=sIx_le _ _ (υ _) hi
 obtain⟨os,hos,hcs,hds⟩:=id hs
 have hTs:s.TypeIs (.ref sl) "slice" := ⟨os,hos,hcs⟩
 unfold getItem
 try with_reducible refine wpAny_holding ?_
 first | refine wpAny_bind (wpAny_pure ?_) | skip
 refine wpAny_bind (wpAny_sequenceKey ht.typeIs (by decide) ?_)
 refine wpAny_bind (wpAny_callSpecial?_slot (name:=Str.ofString "__getitem__") ht.typeIs PyProof.Rows.slot_tuple_getitem
  (wpAny_call_entry PyProof.Rows.slot_tuple_getitem ht.typeIs entry_tuple_getitem ?_ (args_tuple_getitem _ _)))
 show wpAny _ _ (Builtin.Tuple.tupleItemsOf (.ref t) >>= _) _ _ s
 refine wpAny_bind (tupleItemsOf_ ht ?_)
 refine wpAny_bind (wpAny_typeOf hTs ?_)
 rw[if_pos (by decide)]
 refine wpAny_bind (lP hs pl pu ?_)
 have hno:¬((((sIx items.size 0 lo:Nat):Int)==0&&(1:Int)==1&&(sIx items.size items.size hi-sIx items.size 0 lo)==items.size)=true):=by
  intro q
  rw[Z5,Z5] at q
  have q1:((sIx items.size 0 lo:Nat):Int)=0:=eq_of_beq q.1.1
  have q2:sIx items.size items.size hi-sIx items.size 0 lo=items.size:=eq_of_beq q.2
  exact hw ⟨by omega,by omega⟩
 show wpAny _ _ (if (((sIx items.size 0 lo:Nat):Int)==0&&(1:Int)==1&&(sIx items.size items.size hi-sIx items.size 0 lo)==items.size)=true then _ else _) _ _ s
 rw[if_neg hno,xU]
 first
  | exact wpAny_bind (m:=Builtin.Tuple.tupleExact _) (wpAny_newObj_type (wpAny_pure ⟨_,rfl,wpAny_pure h⟩) htake)
  | exact wpAny_bind (m:=Builtin.Tuple.tupleExact _) (wpAny_newObj_type (wpAny_bind (wpAny_pure (wpAny_pure ⟨_,rfl,wpAny_pure h⟩))) htake)
  | exact wpAny_bind (wpAny_bind (m:=Builtin.Tuple.tupleExact _) (wpAny_newObj_type (wpAny_pure (wpAny_pure ⟨_,rfl,wpAny_pure h⟩)) htake))
  | exact wpAny_bind (wpAny_bind (m:=Builtin.Tuple.tupleExact _) (wpAny_newObj_type (wpAny_pure ⟨_,rfl,wpAny_pure h⟩) htake))
end
end HT
namespace L2
open PyProof.Rows
abbrev TO:=St->Hp->(Option Int->Hp->Prop)->Prop
def PO(X:Cx)(e:Option Expr)(t:TO):Prop :=
 ∀(pins:List (Addr×Obj)) (s:Shared) (σ:St) (H:Hp) (Q:Option Int->Hp->Prop),Inv X pins σ H s->t σ H Q ->
  wpAny (model X.prog X.w) X.A (evalPart e X.env) (λu s'=>∃o H',Inv X pins σ H' s'/\IsPart u o/\Q o H') X.xe s
noncomputable def tNoPart:TO:=λ_ H Q=>Q none H
noncomputable def tPart(t:TE):TO:=λσ H Q=>t σ H λx H1=>∃i,x=.int i/\Q (some i) H1
section
variable{X:Cx}{e:Expr}{te:TE}{lo hi:Option Expr}{tl th:TO}{pos p2:Pos}
theorem po_none:PO X none tNoPart:=by
 intro pins s σ H Q I h
 rw[evalPart_none]
 exact wpAny_pure ⟨none,H,I,.none,h⟩
theorem po_some(h:PE X e te):PO X (some e) (tPart te):=by
 intro pins s σ H Q I hw
 rw[evalPart_some]
 refine thn (h pins s σ H _ I hw) λu s1 ⟨x,H1,I1,r1,q1⟩=>?_
 obtain⟨i,rfl,q⟩:=q1
 obtain⟨t,rfl⟩:=r1
 exact⟨some i,H1,I1,.int i t,q⟩
def SlR(X:Cx)(r:V->Option Int->Option Int->Hp->VK->Prop):Prop :=
 ∀(pins:List (Addr×Obj)) (s:Shared) (σ:St) (H:Hp) (x:V) (v vl vu:Value) (lo hi:Option Int) (sl:Addr) (Q:VK),Inv X pins σ H s->bR x v->s.heap.IsSliceOf sl vl vu .none->IsPart vl lo->IsPart vu hi->r x lo hi H Q ->
  ∃T id,typeLookup (.type T) "__getitem__" = pure (some (.builtin id))/\s.TypeIs v T/\wpAny (model X.prog X.w) X.A (getItem v (.ref sl)) (EP X pins σ Q) X.xe s
theorem SlR.or(h:SlR X r)(h':SlR X r'):SlR X (λx lo hi H Q=>r x lo hi H Q\/r' x lo hi H Q):=by
 intro pins s σ H x v vl vu lo hi sl Q I rx hs pl pu q
 rcases q with q | q
 ·exact h pins s σ H x v vl vu lo hi sl Q I rx hs pl pu q
 ·exact h' pins s σ H x v vl vu lo hi sl Q I rx hs pl pu q
def tSl(r:V->Option Int->Option Int->Hp->VK->Prop)(te:TE)(tl th:TO):TE:=λσ H Q=>te σ H λx H1=>tl σ H1 λl H2=>th σ H2 λu H3=>r x l u H3 Q
theorem xW{r:V->Option Int->Option Int->Hp->VK->Prop}(hr:SlR X r)(he:PE X e te)(hl:PO X lo tl)(hu:PO X hi th):PE X (.Subscript e (.Slice lo hi none p2) pos) (tSl r te tl th):=by
 intro pins s σ H Q I h
 refine Subscript_ (thn (he pins s σ H _ I h) λv s1 ⟨x,H1,I1,r1,q1⟩=>?_)
 refine wpAny_Slice (thn (hl pins s1 σ H1 _ I1 q1) λvl s2 ⟨l,H2,I2,pl,q2⟩=>thn (hu pins s2 σ H2 _ I2 q2) λvu s3 ⟨u,H3,I3,pu,q3⟩=>?_)
 rw[evalPart_none]
 refine wpAny_pure ?_
 have I4:Inv X pins σ H3 { s3 with heap:=s3.heap.push { cls:=.type "slice",data:=.fields #[vl,vu,.none] } }:=I3.kept (t':=s3.toks) λb ob q=>Heap.get?_push_of_some _ q
 obtain⟨T,id,hT,ht,hg⟩:=hr pins { s3 with heap:=s3.heap.push { cls:=.type "slice",data:=.fields #[vl,vu,.none] } } σ H3 x v vl vu l u s3.heap.objs.size Q I4 r1 (Heap.IsSliceOf.new ..) pl pu q3
 show wpAny (model X.prog X.w) X.A (subscriptTail e (.Slice lo hi none p2) v (.ref s3.heap.objs.size)) (EP X pins σ Q) X.xe { s3 with heap:=s3.heap.push { cls:=.type "slice",data:=.fields #[vl,vu,.none] } }
 exact tail_any (ops:=[.ref s3.heap.objs.size,v]) ht hT hg (by with_unfolding_all rfl)
noncomputable def sX(xs:List V)(lo hi:Option Int):List V:=(xs.drop (HT.sIx xs.length 0 lo)).take (HT.sIx xs.length xs.length hi-HT.sIx xs.length 0 lo)
theorem mI(xs:List V)(lo hi:Option Int):(sX xs lo hi).length<=xs.length:=by
 unfold sX
 rw[V9,List.length_drop]
 omega
def rSlT(K:ζ):V->Option Int->Option Int->Hp->VK->Prop:=λx lo hi H Q=>∃a xs,x=.ref a/\SqT K H a xs /\
 ¬(HT.sIx xs.length 0 lo=0/\HT.sIx xs.length xs.length hi=xs.length)/\∀p,H p=none->Q (.ref p) (upd H p (.tup (sX xs lo hi)))
theorem sl_tup:SlR X (rSlT X.K):=by
 intro pins s σ H x v vl vu lo hi sl Q I rx hs pl pu h
 obtain⟨a,xs,rfl,hx,hw,q⟩:=h
 cases rx
 obtain⟨its,r,ht,hz⟩:=I.tuple hx
 have hlen:its.toArray.size=xs.length:=by rw[Ξ];exact r.length.symm
 refine⟨"tuple",_,PyProof.Rows.slot_tuple_getitem.lookup,ht.typeIs,?_⟩
 refine HT.lx ht hs pl pu (by rw[hlen];exact hw) ?_ (by rw[hlen];exact hz)
 rw[hlen]
 refine⟨.ref s.heap.objs.size,_,I.laid (t':=s.toks) (o:=.tup (sX xs lo hi)) (λb ob q=>Heap.get?_push_of_some _ q) (υ _) ?_,rfl,q _ (I.hok.fresh (υ _))⟩
 exact⟨W1 (mI xs lo hi) hz,_,(r.drop (HT.sIx xs.length 0 lo)).take (HT.sIx xs.length xs.length hi-HT.sIx xs.length 0 lo),IsTup.new _ _⟩
noncomputable def rCatT(K:ζ):R2:=λx y H Q=>∃a b xs ys,x=.ref a/\y=.ref b/\SqT K H a xs/\SqT K H b ys/\xs≠[]/\xs.length+ys.length<=sizeLine /\
 (ys=[]->Q (.ref a) H)/\(ys≠[]->∀p,H p=none->Q (.ref p) (upd H p (.tup (xs++ys))))
theorem aS.nil_iff(r:aS xs us):us=[]↔xs=[]:=by
 cases r with
 | nil=>simp
 | cons _ _=>simp
theorem op_catT:OpR X (binaryOp .Add) (rCatT X.K):=by
 intro pins s σ H x y v u Q I rx ry h
 obtain⟨a,b,xs,ys,rfl,rfl,ha,hb,hx,hz,q1,q2⟩:=h
 cases rx
 cases ry
 obtain⟨its,r1,p1,_⟩:=I.tuple ha
 obtain⟨its2,r2,p2,_⟩:=I.tuple hb
 refine HT.cat_tup p1 p2 (λz=>hx (r1.nil_iff.mp z)) (λz=>⟨.ref a,H,I,rfl,q1 (r2.nil_iff.mp z)⟩) (λz=>?_) (by rw[<-r1.length,<-r2.length];exact hz)
 refine⟨.ref s.heap.objs.size,_,I.laid (t':=s.toks) (o:=.tup (xs++ys)) (λb ob q=>Heap.get?_push_of_some _ q) (υ _) ?_,rfl,q2 (λw=>z (r2.nil_iff.mpr w)) _ (I.hok.fresh (υ _))⟩
 exact⟨by rw[η];exact hz,_,r1.append r2,IsTup.new _ _⟩
end
end L2
namespace L2
open PyProof.Rows
noncomputable def ixN(n:Nat)(i:Int):Option Nat:=if 0<=i then (if i<n then some i.toNat else none) else if -(n:Int)<=i then some (i+n).toNat else none
noncomputable def atI(xs:List α)(i:Int):Option α:=(ixN xs.length i).bind λj=>xs[j]?
theorem vw(h:ixN n i=some j):seqIndex? i n=some j/\j<n /\ -(n:Int)<=i/\i<n:=by
 unfold ixN at h
 by_cases h0:0<=i
 ·rw[if_pos h0] at h
  by_cases h1:i<n
  ·rw[if_pos h1] at h
   have e:i.toNat=j:=Option.some.inj h
   exact⟨by rw[seqIndex_of h0 h1,e],by omega,by omega,h1⟩
  ·rw[if_neg h1] at h;cases h
 ·rw[if_neg h0] at h
  by_cases h1 : -(n:Int)<=i
  ·rw[if_pos h1] at h
   have e:(i+n).toNat=j:=Option.some.inj h
   exact⟨by rw[seqIndex_neg (by omega) h1,e],by omega,h1,by omega⟩
  ·rw[if_neg h1] at h;cases h
theorem ng(h:atI xs i=some v):∃j,seqIndex? i xs.length=some j/\xs[j]?=some v/\j<xs.length /\ -(xs.length:Int)<=i/\i<xs.length:=by
 unfold atI at h
 cases e:ixN xs.length i with
 | none=>rw[e] at h;cases h
 | some j =>
  rw[e] at h
  obtain⟨h1,h2,h3,h4⟩:=vw e
  exact⟨j,h1,h,h2,h3,h4⟩
theorem atI_nat{α:Type}{xs:List α}{j:Nat}{v:α}(h:xs[j]?=some v):atI xs (j:Int)=some v:=by
 have hj:j<xs.length:=(ς.mp h).1
 have e:ixN xs.length (j:Int)=some j:=by
  unfold ixN
  rw[if_pos (by omega),if_pos (by omega)];simp
 unfold atI;rw[e];exact h
def rH(b:Expr):Prop:=∀o i,subscripted b false o i=operate [o,i] (getItem o i)
def IxR(X:Cx)(r:R2):Prop :=
 ∀(value slice:Expr) (pins:List (Addr×Obj)) (s:Shared) (σ:St) (H:Hp) (x y:V) (v u:Value) (Q:VK),Inv X pins σ H s->bR x v->bR y u->r x y H Q ->
  subscripted slice false v u=operate [v,u] (getItem v u)->wpAny (model X.prog X.w) X.A (subscriptTail value slice v u) (EP X pins σ Q) X.xe s
def MtR(X:Cx)(id:String)(r:V->List V->Hp->VK->Prop):Prop :=
 ∀(pins:List (Addr×Obj)) (s:Shared) (σ:St) (H:Hp) (x:V) (xs:List V) (v:Value) (us:List Value) (Q:VK),Inv X pins σ H s->bR x v->aS xs us->r x xs H Q ->
  wpAny (model X.prog X.w) X.A (call (.builtin id) (v::us)) (EP X pins σ Q) X.xe s
section
variable{X:Cx}{a b:Expr}{ta tb:TE}{pos:Pos}
theorem IxR.or(h:IxR X r)(h':IxR X r'):IxR X (λx y H Q=>r x y H Q\/r' x y H Q):=by
 intro value slice pins s σ H x y v u Q I rx ry q hs
 rcases q with q | q
 ·exact h value slice pins s σ H x y v u Q I rx ry q hs
 ·exact h' value slice pins s σ H x y v u Q I rx ry q hs
theorem pe_ix(hr:IxR X r)(ha:PE X a ta)(hb:PE X b tb)(hs:rH b):PE X (.Subscript a b pos) (tOp r ta tb):=by
 intro pins s σ H Q I h
 exact Subscript_ (binT ha hb I h λv u s2 x y H2 I2 rx ry q=>hr a b pins s2 σ H2 x y v u Q I2 rx ry q (hs _ _))
noncomputable def rIxL(K:ζ):R2:=λx y H Q=>∃p xs i v,x=.ref p/\y=.int i/\SqL K H p xs/\atI xs i=some v/\Q v H
noncomputable def rIxT(K:ζ):R2:=λx y H Q=>∃p xs i v,x=.ref p/\y=.int i/\SqT K H p xs/\atI xs i=some v/\Q v H
noncomputable def rIxS:R2:=λx y H Q=>∃z i c,x=.str z/\y=.int i/\z.length<=sizeLine/\atI z.cps.toList i=some c/\Q (.str ⟨#[c]⟩) H
theorem ix_list:IxR X (rIxL X.K):=by
 intro value slice pins s σ H x y v u Q I rx ry h hs
 obtain⟨p,xs,i,z,rfl,rfl,hq,he,q⟩:=h
 cases rx
 obtain⟨t,rfl⟩:=ry
 obtain⟨its,r,pl,hz⟩:=I.list hq
 obtain⟨j,h1,h2,h3,h4,h5⟩:=ng he
 obtain⟨w,ew,rw'⟩:=r.get h2
 have hl:=r.length
 have hn:=jX
 have fin:EP X pins σ Q w s:=⟨z,H,I,rw',q⟩
 by_cases h0:0<=i
 ·have hj:i.toNat=j:=by
   rw[seqIndex_of h0 h5] at h1
   exact Option.some.inj h1
  exact item_listR pl.isList h0 (by omega) (by rw[hj];simpa using ew) fin hs
 ·have hj:(i+(its.toArray.size:Int)).toNat=j:=by
   rw[seqIndex_neg (by omega) h4] at h1
   rw[Ξ,<-hl]
   exact Option.some.inj h1
  exact subscriptTail_builtinR (x:=w) pl.isList.typeIs slot_list_getitem.lookup
   (wpAny_getItem_list_neg (Q:=λr s'=>r=w/\EP X pins σ Q r s') pl.isList (by omega) (by rw[Ξ]<;>omega) (by omega) (by rw[hj];simpa using ew) ⟨rfl,fin⟩) hs
theorem ix_tup:IxR X (rIxT X.K):=by
 intro value slice pins s σ H x y v u Q I rx ry h hs
 obtain⟨p,xs,i,z,rfl,rfl,hq,he,q⟩:=h
 cases rx
 obtain⟨t,rfl⟩:=ry
 obtain⟨its,r,pl,hz⟩:=I.tuple hq
 obtain⟨j,h1,h2,h3,h4,h5⟩:=ng he
 obtain⟨w,ew,rw'⟩:=r.get h2
 have hl:=r.length
 have hn:=jX
 have fin:EP X pins σ Q w s:=⟨z,H,I,rw',q⟩
 exact subscriptTail_builtinR (x:=w) pl.typeIs slot_tuple_getitem.lookup
  (getItem_tuple (j:=j) (Q:=λr s'=>r=w/\EP X pins σ Q r s') pl (by omega) (by omega) (by rw[Ξ,<-hl];exact h1) (by simpa using ew) ⟨rfl,fin⟩) hs
theorem ix_str:IxR X rIxS:=by
 intro value slice pins s σ H x y v u Q I rx ry h hs
 obtain⟨z,i,c,rfl,rfl,hz,he,q⟩:=h
 obtain⟨t,rfl⟩:=rx
 obtain⟨t',rfl⟩:=ry
 obtain⟨j,h1,h2,h3,h4,h5⟩:=ng he
 have hl:z.cps.toList.length=z.length:=by simp [Str.length]
 rw[hl] at h1 h4 h5
 have hn:=jX
 exact tail_any (typeIs_str s z t) slot_str_getitem.lookup (getItem_str (c:=c) (by
  have e1:decide (i < -(2 ^ 63:Int))=false:=decide_eq_false (by omega)
  have e2:decide (i ≥ 2 ^ 63)=false:=decide_eq_false (by omega)
  rw[e1,e2,Bool.or_false]) (by rw[h1];simpa using h2) ⟨.str ⟨#[c]⟩,H,I.tok _,⟨_,rfl⟩,q⟩) hs
noncomputable def rIx(K:ζ):R2:=λx y H Q=>rIxL K x y H Q\/rIxT K x y H Q\/rIxS x y H Q
theorem ix_seq:IxR X (rIx X.K):=ix_list.or (ix_tup.or ix_str)
theorem uc(its:List Value)(n j:Nat)(u:Value):Obj.mapSeq (·.setIfInBounds j u) { cls:=.type "list",data:=.seq its.toArray n }={ cls:=.type "list",data:=.seq (its.set j u).toArray n }:=by
 simp [Obj.mapSeq]
theorem Inv.lst{pins:List (Addr×Obj)}{σ:St}{H:Hp}{s:Shared}{p:Addr}{xs:List V}(I:Inv X pins σ H s)(h:H p=some (.lst xs)) :
  ∃(its:List Value) (n:Nat),aS xs its/\s.heap.get? p=some { cls:=.type "list",data:=.seq its.toArray n }/\xs.length<=sizeLine:=by
 obtain⟨z,its,n,r,e⟩:=I.hok p _ h
 exact⟨its,n,r,e,z⟩
theorem Inv.lstUpd{pins:List (Addr×Obj)}{σ:St}{H:Hp}{s:Shared}{p:Addr}{xs ys:List V}{its its':List Value}{n n':Nat}{f:Obj->Obj}(I:Inv X pins σ H s)(h:H p=some (.lst xs))
  (ho:s.heap.get? p=some { cls:=.type "list",data:=.seq its.toArray n }) (hf:f { cls:=.type "list",data:=.seq its.toArray n }={ cls:=.type "list",data:=.seq its'.toArray n' }) (r:aS ys its') (hz:ys.length<=sizeLine) (t:Nat) :
  Inv X pins σ (upd H p (.lst ys)) { s with heap:=s.heap.update p f,toks:=t }:=by
 have e:(s.heap.update p f).get? p=some { cls:=.type "list",data:=.seq its'.toArray n' }:=by
  rw[Heap.get?_update_self f ho (by rw[hf]<;>rfl),hf]
 refine I.write (x:=p) (e:=p) (by rw[h];trivial) (.inl rfl) (λb u hb q=>(Heap.get?_update_other _ _ (Ne.symm hb)).trans q) ⟨_,e⟩ ?_
 exact⟨hz,its',n',r,e⟩
def rSetL:V->V->V->Hp->(Hp->Prop)->Prop:=λo i v H Q=>∃p xs k j,o=.ref p/\i=.int k/\H p=some (.lst xs)/\ixN xs.length k=some j/\Q (upd H p (.lst (xs.set j v)))
theorem jM:PSet X rSetL:=by
 intro pins s σ H o i v ov iv u Q I ro ri rv h
 obtain⟨p,xs,k,j,rfl,rfl,hp,hj,q⟩:=h
 cases ro
 obtain⟨t,rfl⟩:=ri
 obtain⟨its,n,r,ho,hz⟩:=I.lst hp
 obtain⟨h1,h2,h3,h4⟩:=vw hj
 have hl:=r.length
 have hn:=jX
 have I':Inv X pins σ (upd H p (.lst (xs.set j v))) { s with heap:=s.heap.update p (Obj.mapSeq (·.setIfInBounds j u)) } :=
  I.lstUpd hp ho (uc its n j u) (r.set rv j) (by rw[Ω];exact hz) s.toks
 by_cases h0:0<=k
 ·have hk:k.toNat=j:=by
   rw[seqIndex_of h0 h4] at h1
   exact Option.some.inj h1
  exact PySem.W.ki_setAt ho h0 (by omega) (by rw[Ξ,<-hl];exact h4) (by rw[hk];exact⟨_,I',q⟩)
 ·have hk:(k+(its.toArray.size:Int)).toNat=j:=by
   rw[seqIndex_neg (by omega) h3] at h1
   rw[Ξ,<-hl]
   exact Option.some.inj h1
  exact PySem.W.ki_setBack ho (by omega) (by rw[Ξ,<-hl];exact h3) (by omega) (by rw[hk];exact⟨_,I',q⟩)
theorem qu(lo hi:Option Int)(n:Nat):(sliceBounds lo hi none n).1=((HT.sIx n 0 lo:Nat):Int)/\(sliceBounds lo hi none n).2.1=((HT.sIx n n hi:Nat):Int)/\(sliceBounds lo hi none n).2.2=1:=by
 refine⟨?_,?_,rfl⟩
 ·cases lo with
  | none=>simp [sliceBounds,HT.sIx]
  | some i =>
   simp only[sliceBounds,HT.sIx,Option.getD_none,show(1:Int) > 0 by decide,if_true]
   by_cases h:i<0
   ·simp only[h,if_true]<;>omega
   ·simp only[h,if_false]<;>omega
 ·cases hi with
  | none=>simp [sliceBounds,HT.sIx]
  | some i =>
   simp only[sliceBounds,HT.sIx,Option.getD_none,show(1:Int) > 0 by decide,if_true]
   by_cases h:i<0
   ·simp only[h,if_true]<;>omega
   ·simp only[h,if_false]<;>omega
theorem oW(its:List Value)(lo hi:Option Int):slicePick its.toArray lo hi none=((its.drop (HT.sIx its.length 0 lo)).take (HT.sIx its.length its.length hi-HT.sIx its.length 0 lo)).toArray:=by
 obtain⟨h1,h2,h3⟩:=qu lo hi its.toArray.size
 unfold slicePick
 rw[h1,h2,h3]
 simp only[sliceRange_one,pick_run,Ξ]<;>rfl
def rSlL(K:ζ):V->Option Int->Option Int->Hp->VK->Prop:=λx lo hi H Q=>∃a xs,x=.ref a/\SqL K H a xs/\∀p,H p=none->Q (.ref p) (upd H p (.lst (sX xs lo hi)))
theorem sl_list:SlR X (rSlL X.K):=by
 intro pins s σ H x v vl vu lo hi sl Q I rx hs pl pu h
 obtain⟨a,xs,rfl,hx,q⟩:=h
 cases rx
 obtain⟨its,r,ht,hz⟩:=I.list hx
 have hlen:=r.length
 refine⟨"list",_,slot_list_getitem.lookup,ht.isList.typeIs,?_⟩
 refine wpAny_getItem_list_slice ht.isList hs pl pu .none (by simp) ?_ (by rw[Ξ]<;>omega)
 rw[oW,<-hlen]
 refine⟨.ref s.heap.objs.size,_,I.laid (t':=s.toks) (o:=.lst (sX xs lo hi)) (λb ob q=>Heap.get?_push_of_some _ q) (υ _) ?_,rfl,q _ (I.hok.fresh (υ _))⟩
 exact⟨W1 (mI xs lo hi) hz,_,0,(r.drop (HT.sIx xs.length 0 lo)).take (HT.sIx xs.length xs.length hi-HT.sIx xs.length 0 lo),Heap.get?_push_size _ rfl⟩
noncomputable def kQ:V->Bool
 | .non=>true
 | .bl _=>true
 | .int _=>true
 | .str _=>true
 | _=>false
noncomputable def eqV:V->V->Bool
 | .non,.non=>true
 | .bl a,.bl b=>a==b
 | .bl a,.int b=>(if a then 1 else 0)==b
 | .int a,.bl b=>a==(if b then 1 else 0)
 | .int a,.int b=>a==b
 | .str a,.str b=>a==b
 | _,_=>false
theorem eqAt_V(ry:bR y u)(rx:bR x v)(fy:kQ y=true)(fx:kQ x=true):SeqAt.EqAt A s u v (eqV y x):=by
 cases y with
 | non =>
  cases ry
  cases x with
  | non=>cases rx;exact SeqAt.EqAt.same _
  | bl b=>cases rx;exact SeqAt.EqAt.none_bool b
  | int b=>obtain⟨t,rfl⟩:=rx;exact SeqAt.EqAt.none_int b t
  | str b=>obtain⟨t,rfl⟩:=rx;exact SeqAt.EqAt.none_str b t
  | _=>exact absurd (show false=true from fx) ω
 | bl a =>
  cases ry
  cases x with
  | non=>cases rx;exact SeqAt.EqAt.bool_none a
  | bl b=>cases rx;exact SeqAt.EqAt.bool_bool a b
  | int b=>obtain⟨t,rfl⟩:=rx;exact SeqAt.EqAt.bool_int a b t
  | str b=>obtain⟨t,rfl⟩:=rx;exact SeqAt.EqAt.bool_str a b t
  | _=>exact absurd (show false=true from fx) ω
 | int a =>
  obtain⟨t',rfl⟩:=ry
  cases x with
  | non=>cases rx;exact SeqAt.EqAt.int_none a t'
  | bl b=>cases rx;exact SeqAt.EqAt.int_bool a t' b
  | int b=>obtain⟨t,rfl⟩:=rx;exact SeqAt.EqAt.int_int a t' b t
  | str b=>obtain⟨t,rfl⟩:=rx;exact SeqAt.EqAt.int_str a t' b t
  | _=>exact absurd (show false=true from fx) ω
 | str a =>
  obtain⟨t',rfl⟩:=ry
  cases x with
  | non=>cases rx;exact SeqAt.EqAt.str_none a t'
  | bl b=>cases rx;exact SeqAt.EqAt.str_bool a t' b
  | int b=>obtain⟨t,rfl⟩:=rx;exact SeqAt.EqAt.str_int a t' b t
  | str b=>obtain⟨t,rfl⟩:=rx;exact SeqAt.EqAt.str_str a t' b t
  | _=>exact absurd (show false=true from fx) ω
 | _=>exact absurd (show false=true from fy) ω
noncomputable def eqU(x:V)(u:Value):Bool:=match u with
 | .none=>eqV .non x
 | .bool b=>eqV (.bl b) x
 | .int i _=>eqV (.int i) x
 | .str z _=>eqV (.str z) x
 | _=>false
theorem eqU_of(r:bR y u)(f:kQ y=true):eqU x u=eqV y x:=by
 cases y with
 | non=>cases r;rfl
 | bl b=>cases r;rfl
 | int i=>obtain⟨t,rfl⟩:=r;rfl
 | str z=>obtain⟨t,rfl⟩:=r;rfl
 | _=>exact absurd (show false=true from f) ω
theorem rG:∀{xs:List V} {us:List Value},aS xs us->xs.all kQ=true->us.any (eqU x)=xs.any λy=>eqV y x
 | _,_,.nil,_=>rfl
 | y::xs,u::us,.cons r t,f=>by
  rw[U9,Z5] at f
  rw[List.any_cons,List.any_cons,eqU_of r f.1,rG t f.2]
theorem oi(rx:bR x v)(fx:kQ x=true):∀{xs:List V} {us:List Value},aS xs us->xs.all kQ=true->∀u∈us,SeqAt.EqAt A s u v (eqU x u)
 | _,_,.nil,_=>λu hu=>by cases hu
 | y::xs,u::us,.cons r t,f=>λu' hu=>by
  rw[U9,Z5] at f
  rcases Γ.mp hu with rfl | hu
  ·rw[eqU_of r f.1];exact eqAt_V r rx f.1 fx
  ·exact oi rx fx t f.2 u' hu
noncomputable def inV(x:V)(xs:List V):Bool:=xs.any λy=>eqV y x
noncomputable def rIn(K:ζ)(neg:Bool):R2:=λx y H Q=>∃p xs,y=.ref p/\(SqL K H p xs\/SqT K H p xs)/\kQ x=true/\xs.all kQ=true/\Q (.bl (if neg then !inV x xs else inV x xs)) H
theorem wv:OpR X (compareOp .In) (rIn X.K false):=by
 intro pins s σ H x y v u Q I rx ry h
 obtain⟨p,xs,rfl,hq,fx,fs,q⟩:=h
 cases ry
 rcases hq with hq | hq
 ·obtain⟨its,r,pl,hz⟩:=I.list hq
  refine SeqAt.in_listAt (eqU x) pl.isList (λw hw=>oi rx fx r fs w (by simpa using hw)) ⟨.bl _,H,I,rfl,?_⟩
  rw[show its.toArray.any (eqU x)=its.any (eqU x) by simp,rG r fs]
  exact q
 ·obtain⟨its,r,pl,hz⟩:=I.tuple hq
  refine SeqAt.in_tupleAt (eqU x) pl (λw hw=>oi rx fx r fs w (by simpa using hw)) ⟨.bl _,H,I,rfl,?_⟩
  rw[show its.toArray.any (eqU x)=its.any (eqU x) by simp,rG r fs]
  exact q
theorem rq:fN X (.builtin "len") (λxs H Q=>∃p ys,xs=[.ref p]/\(SqL X.K H p ys\/SqT X.K H p ys)/\Q (.int ys.length) H):=by
 intro pins s σ H xs us Q I r h
 obtain⟨p,ys,rfl,hq,q⟩:=h
 obtain⟨u,rfl,rx⟩:=kO r
 cases rx
 have hn:=jX
 rcases hq with hq | hq
 ·obtain⟨its,r',pl,hz⟩:=I.list hq
  have hlen:=r'.length
  exact Calls.call_len_list pl.isList (by simp only[Ξ]<;>omega) ⟨.int ys.length,H,I.tok _,⟨s.toks+1,by rw[Ξ,hlen]⟩,q⟩
 ·obtain⟨its,r',pl,hz⟩:=I.tuple hq
  have hlen:=r'.length
  exact len_tuple pl (by simp only[Ξ]<;>omega) ⟨.int ys.length,H,I.tok _,⟨s.toks+1,by rw[Ξ,hlen]⟩,q⟩
theorem rf:fN X (.builtin "len") (λxs H Q=>∃z,xs=[.str z]/\z.length<=sizeLine/\Q (.int z.length) H):=by
 intro pins s σ H xs us Q I r h
 obtain⟨z,rfl,hz,q⟩:=h
 obtain⟨u,rfl,t,rfl⟩:=kO r
 have hn:=jX
 exact len_str (by omega) ⟨.int z.length,H,I.tok _,⟨_,rfl⟩,q⟩
theorem fN.or(h:fN X f r)(h':fN X f r'):fN X f (λxs H Q=>r xs H Q\/r' xs H Q):=by
 intro pins s σ H xs us Q I rs q
 rcases q with q | q
 ·exact h pins s σ H xs us Q I rs q
 ·exact h' pins s σ H xs us Q I rs q
theorem lK:fN X (.type "list") (λxs H Q=>∃p ys,xs=[.ref p]/\(SqL X.K H p ys\/SqT X.K H p ys)/\∀l,H l=none->Q (.ref l) (upd H l (.lst ys))):=by
 intro pins s σ H xs us Q I r h
 obtain⟨p,ys,rfl,hq,q⟩:=h
 obtain⟨u,rfl,rx⟩:=kO r
 cases rx
 have fin:∀(its:List Value),aS ys its->ys.length<=sizeLine->∀(h':Heap) (c':Nat),(∀b o',s.heap.get? b=some o'->h'.get? b=some o') ->
   h'.get? s.heap.objs.size=some { cls:=.type "list",dict:=none,data:=.seq its.toArray c',slots:=#[] }->EP X pins σ Q (.ref s.heap.objs.size) { s with heap:=h' }:=λits r' hz h' c' kp e =>
  ⟨.ref s.heap.objs.size,_,I.laid (t':=s.toks) kp (υ _) (show fM X.prog X.w _ h' _ (.lst ys) from⟨hz,its,c',r',e⟩),rfl,q _ (I.hok.fresh (υ _))⟩
 rcases hq with hq | hq
 ·obtain⟨its,r',pl,hz⟩:=I.list hq
  have hlen:=r'.length
  obtain⟨o,ho,hc,n,hd⟩:=pl.isList
  exact call_list_seq p (.inl rfl) ho hc hd (λh' c' kp e=>fin its r' hz h' c' kp e) (by simp only[Ξ]<;>omega)
 ·obtain⟨its,r',pl,hz⟩:=I.tuple hq
  have hlen:=r'.length
  obtain⟨o,ho,hc,n,hd⟩:=pl
  exact call_list_seq p (.inr rfl) ho hc hd (λh' c' kp e=>fin its r' hz h' c' kp e) (by simp only[Ξ]<;>omega)
theorem oZ:fN X (.type "tuple") (λxs H Q=>∃p ys,xs=[.ref p]/\((SqL X.K H p ys/\∀l,H l=none->Q (.ref l) (upd H l (.tup ys)))\/(SqT X.K H p ys/\Q (.ref p) H))):=by
 intro pins s σ H xs us Q I r h
 obtain⟨p,ys,rfl,h⟩:=h
 obtain⟨u,rfl,rx⟩:=kO r
 cases rx
 rcases h with ⟨hq,q⟩ | ⟨hq,q⟩
 ·obtain⟨its,r',pl,hz⟩:=I.list hq
  have hlen:=r'.length
  refine call_tuple_list pl.isList (λh' kp=>?_) (by simp only[Ξ]<;>omega)
  have I1:Inv X pins σ H { s with heap:=h' }:=I.kept (t':=s.toks) kp
  have I2:Inv X pins σ (upd H h'.objs.size (.tup ys)) { s with heap:=h'.push { cls:=.type "tuple",data:=.seq its.toArray } } :=
   I1.laid (t':=s.toks) (λb o e=>Heap.get?_push_of_some _ e) (υ _) (show fM X.prog X.w _ _ _ (.tup ys) from⟨hz,its,r',IsTup.new _ _⟩)
  exact⟨.ref h'.objs.size,_,I2,rfl,q _ (I1.hok.fresh (υ _))⟩
 ·obtain⟨its,r',pl,hz⟩:=I.tuple hq
  exact call_tuple_same pl ⟨.ref p,H,I,rfl,q⟩
def tyV(K:ζ)(T:String)(x:V)(H:Hp):Prop:=match x with
 | .str _=>T = "str"
 | .int _=>T = "int"
 | .ref p=>(T = "list" /\ ∃xs,SqL K H p xs)\/(T = "tuple" /\ ∃o,K.lookup p=some o/\o.cls=.type "tuple" /\ o.dict=none) \/
   (T = "dict" /\ ((∃kvs,H p=some (.dK kvs))\/∃kvs,H p=some (.dT kvs)))\/(T = "set" /\ ∃S n,H p=some (.set S n))
 | _=>False
theorem xl(I:Inv X pins σ H s)(r:bR x v)(ty:tyV X.K T x H) :
  s.TypeIs v T/\∀a,v=.ref a->∃ob,s.heap.get? a=some ob/\ob.dict=none:=by
 cases x with
 | str z =>
  obtain⟨t,rfl⟩:=r
  cases (show T = "str" from ty)
  exact⟨typeIs_str s z t,λ_ e=>nomatch e⟩
 | int i =>
  obtain⟨t,rfl⟩:=r
  cases (show T = "int" from ty)
  exact⟨typeIs_int s i t,λ_ e=>nomatch e⟩
 | ref p =>
  cases r
  rcases ty with ⟨rfl,xs,hq⟩ | ⟨rfl,o,hk,hc,hd⟩ | ⟨rfl,hk⟩ | ⟨rfl,S,n,hk⟩
  ·obtain⟨its,_,pl,_⟩:=I.list hq
   refine⟨pl.isList.typeIs,λa e=>?_⟩
   cases e
   obtain⟨o,n,e,c,hd,_⟩:=pl
   exact⟨o,e,hd⟩
  ·refine⟨⟨o,I.kIn p o hk,hc⟩,λa e=>?_⟩
   cases e
   exact⟨o,I.kIn _ o hk,hd⟩
  ·have z:∃o,s.heap.get? p=some o/\o.ExactDict:=by
    rcases hk with ⟨kvs,hk⟩ | ⟨kvs,hk⟩
    ·obtain⟨_,_,_,_,o,_,_,e,ex,_⟩:=I.hok p _ hk
     exact⟨o,e,ex⟩
    ·obtain⟨_,_,_,_,o,_,_,e,ex,_⟩:=I.hok p _ hk
     exact⟨o,e,ex⟩
   obtain⟨o,e,ex⟩:=z
   refine⟨⟨o,e,ex.1⟩,λa e2=>?_⟩
   cases e2
   exact⟨o,e,ex.2.1⟩
  ·obtain⟨o,_,_,_,e,ex,_⟩:=I.hok p _ hk
   refine⟨⟨o,e,ex.1⟩,λa e2=>?_⟩
   cases e2
   exact⟨o,e,ex.2.1⟩
 | _=>exact False.elim ty
def tBM0(K:ζ)(T:String)(r:V->List V->Hp->VK->Prop)(to:TE):TE:=λσ H Q=>to σ H λx H1=>tyV K T x H1/\r x [] H1 Q
def tBM(K:ζ)(T:String)(r:V->List V->Hp->VK->Prop)(to:TE)(t:TA):TE:=λσ H Q=>to σ H λx H1=>tyV K T x H1/\t σ H1 λxs H2=>r x xs H2 Q
variable{o e:Expr}{es:List Expr}{to:TE}{t:TA}{name:Str}{apos cpos:Pos}{T id:String}{r:V->List V->Hp->VK->Prop}
theorem pe_bm0(pa:PlainAttrs T)(slot:Slot T name id)(hty:typeOf (.builtin id)=pure (.type "method_descriptor"))(hm:MtR X id r)(ho:PE X o to)
  (hbase:attributeBase o name X.env (eval o X.env)=eval o X.env:=by rfl) (hline:(apos.endLine==cpos.line)=true:=by rfl):PE X (.Call (.Attribute o name apos) [] [] cpos) (tBM0 X.K T r to):=by
 intro pins s σ H Q I h
 refine wpAny_Call_method0_late hbase hline (thn (ho pins s σ H _ I h) λv s1 ⟨x,H1,I1,r1,ty,q1⟩=>?_)
 obtain⟨h1,h2⟩:=xl I1 r1 ty
 exact⟨T,id,pa,slot,hty,h1,h2,Calls.callWith_builtin rfl (PySem.evalArgs_none (hm pins s1 σ H1 x [] v [] Q I1 r1 .nil q1))⟩
theorem vc(pa:PlainAttrs T)(slot:Slot T name id)(hty:typeOf (.builtin id)=pure (.type "method_descriptor"))(hm:MtR X id r)(ho:PE X o to)(ha:PA X (e::es) t)
  (hbase:attributeBase o name X.env (eval o X.env)=eval o X.env:=by rfl)
  (hfew:((backTo cpos (starEach (e::es) X.env)).all (λx=>!x.1)&&(backToKw cpos (keywordEach [] X.env)).all (λx=>x.1.isSome)
   && decide ((e::es).length+([]:List Keyword).length+(if ([]:List Keyword).isEmpty then 0 else 1)<30))=true:=by rfl)
  (hline:(apos.endLine==cpos.line)=true:=by rfl) (hs:starEach (e::es) X.env=(false,eval e X.env)::starEach es X.env:=by rfl) (hplain:(backTo cpos (starEach es X.env)).any (·.1)=false:=by rfl) :
  PE X (.Call (.Attribute o name apos) (e::es) [] cpos) (tBM X.K T r to t):=by
 intro pins s σ H Q I h
 refine wpAny_Call_method_late hbase hfew hline rfl (thn (ho pins s σ H _ I h) λv s1 ⟨x,H1,I1,r1,ty,q1⟩=>?_)
 obtain⟨h1,h2⟩:=xl I1 r1 ty
 refine⟨T,id,pa,slot,hty,h1,h2,?_⟩
 have hA:=ha cpos pins s1 σ H1 _ I1 q1
 rw[hs] at hA ⊢
 refine Calls.callWith_builtin (by show(false||(backTo cpos (starEach es X.env)).any (·.1))=false;rw[hplain]<;>rfl) (Calls.evalArgs_plain ?_)
 exact thn hA λus s2 ⟨vs,H2,I2,r2,q2⟩=>hm pins s2 σ H2 x vs v us Q I2 r1 r2 q2
end
end L2
namespace L2
open PyProof.Rows
def MtM(X:Cx)(id:String)(r:V->List V->Hp->VK->Prop):Prop :=
 ∀(pins:List (Addr×Obj)) (s:Shared) (σ:St) (H:Hp) (x:V) (xs:List V) (v:Value) (us:List Value) (Q:VK),Inv X pins σ H s->bR x v->aS xs us->r x xs H Q ->
  wpAny (model X.prog X.w) X.A (call (.builtin id) (v::us)) (EP X pins σ Q) X.xe s
theorem aS.one:∀{x:V} {us:List Value},aS [x] us->∃u,us=[u]/\bR x u
 | _,_,.cons r .nil=>⟨_,rfl,r⟩
theorem aS.zero:∀{us:List Value},aS [] us->us=[]
 | _,.nil=>rfl
theorem aS.dropLast(h:aS xs us):aS xs.dropLast us.dropLast:=by
 induction h with
 | nil=>exact .nil
 | cons r t ih =>
  cases t with
  | nil=>exact .nil
  | cons q t'=>exact .cons r ih
theorem aS.reverse(h:aS xs us):aS xs.reverse us.reverse:=by
 induction h with
 | nil=>exact .nil
 | cons r t ih=>rw[T4,T4];exact aS.append ih (.cons r .nil)
theorem aS.rep(h:aS xs us):∀k:Nat,aS (ρ k xs).flatten (ρ k us).flatten
 | 0=>.nil
 | k+1=>by
  rw[X9,X9,U5,U5]
  exact aS.append h (aS.rep h k)
theorem ur(l:List α):l.eraseIdx (l.length-1)=l.dropLast:=by
 induction l with
 | nil=>rfl
 | cons a r ih =>
  cases r with
  | nil=>rfl
  | cons b r =>
   have e:(a::b::r).length-1=((b::r).length-1)+1:=by
    have h1:(a::b::r).length=r.length+2:=rfl
    have h2:(b::r).length=r.length+1:=rfl
    omega
   rw[e,List.eraseIdx_cons_succ,ih]
   all_goals rfl
theorem pY(its:List Value):∀(k:Nat) (acc:List Value),
  List.foldl (λx1 x2=>x1++x2) acc.toArray (ρ k its.toArray)=(acc++(ρ k its).flatten).toArray
 | 0,acc=>by simp
 | k+1,acc=>by
  have e:acc.toArray++its.toArray=(acc++its).toArray:=by simp
  have e2:(acc++its)++(ρ k its).flatten=acc++(ρ (k+1) its).flatten:=by
   rw[X9,U5,W2]
  rw[<-e2,<-pY its k (acc++its),<-e,X9,List.foldl_cons]
section
variable{X:Cx}{pins:List (Addr×Obj)}{σ:St}{H:Hp}{s:Shared}{l b:Addr}{xs ys zs:List V}
theorem Inv.lset{its its':List Value}{n:Nat}{f:Array Value->Array Value}{t':Nat}(I:Inv X pins σ H s)(hH:H l=some (.lst xs))
  (e:s.heap.get? l=some { cls:=.type "list",data:=.seq its.toArray n }) (hf:f its.toArray=its'.toArray) (hv:aS ys its') (hz:ys.length<=sizeLine) :
  Inv X pins σ (upd H l (.lst ys)) { s with heap:=s.heap.update l (Obj.mapSeq f),toks:=t' }:=by
 have q:=PySem.IsL.update e f
 rw[hf] at q
 refine I.write (x:=l) (e:=l) (by rw[hH];exact trivial) (.inl rfl) (λb' u hb hu=>(Heap.get?_update_other s.heap (Obj.mapSeq f) (Ne.symm hb)).trans hu) ⟨_,q⟩ ?_
 exact⟨hz,its',_,hv,q⟩
theorem Inv.lnew(I:Inv X pins σ H s)(hv:aS ys its)(hz:ys.length<=sizeLine) :
  Inv X pins σ (upd H s.heap.objs.size (.lst ys)) { s with heap:=s.heap.push { cls:=.type "list",data:=.seq its.toArray },toks:=t' } :=
 I.laid (λ_ _ q=>Heap.get?_push_of_some _ q) (υ _) ⟨hz,its,0,hv,Heap.get?_push_size _ rfl⟩
theorem Inv.fresh(I:Inv X pins σ H s):H s.heap.objs.size=none:=I.hok.fresh (υ _)
theorem Inv.lstM(I:Inv X pins σ H s)(hH:H l=some (.lst xs)):xs.length<=sizeLine/\∃(its:List Value) (n:Nat),aS xs its/\xs.length=its.length/\s.heap.get? l=some { cls:=.type "list",data:=.seq its.toArray n }:=by
 obtain⟨z,its,n,r,e⟩:=I.hok l _ hH
 exact⟨z,its,n,r,r.length,e⟩
theorem sx(h:n<=sizeLine):Builtin.List.listTooLong n=false:=by
 unfold Builtin.List.listTooLong
 exact decide_eq_false (by omega)
end
section
variable{X:Cx}
def rAppend:V->List V->Hp->VK->Prop:=λx vs H Q=>∃l xs y,x=.ref l/\vs=[y]/\H l=some (.lst xs)/\xs.length<sizeLine/\Q .non (upd H l (.lst (xs++[y])))
theorem kr:MtM X "list.append" rAppend:=by
 intro pins s σ H x vs v us Q I rx rv h
 obtain⟨l,xs,y,rfl,rfl,hH,hz,q⟩:=h
 cases rx
 obtain⟨u,rfl,ru⟩:=rv.one
 obtain⟨z,its,n,r,hl,e⟩:=I.lstM hH
 refine call_meets F.slot_list_append ⟨_,e,rfl⟩ F.entry_list_append (F.args_list_append_2 _ _) (PySem.list_append l its.toArray n u (by rw[Ξ];omega)) ⟨e,?_⟩
 refine⟨.non,_,I.lset (its':=its++[u]) hH e (by simp) (r.append (.cons ru .nil)) ?_,rfl,q⟩
 rw[η,List.length_singleton]
 omega
def rExtend:V->List V->Hp->VK->Prop:=λx vs H Q=>∃l b xs zs,x=.ref l/\vs=[.ref b]/\H l=some (.lst xs)/\H b=some (.lst zs)/\xs.length+zs.length<=sizeLine/\Q .non (upd H l (.lst (xs++zs)))
theorem wE:MtM X "list.extend" rExtend:=by
 intro pins s σ H x vs v us Q I rx rv h
 obtain⟨l,b,xs,zs,rfl,rfl,hH,hB,hz,q⟩:=h
 cases rx
 obtain⟨u,rfl,ru⟩:=rv.one
 cases ru
 obtain⟨z,its,n,r,hl,e⟩:=I.lstM hH
 obtain⟨z2,its2,n2,r2,hl2,e2⟩:=I.lstM hB
 have hsz:its.toArray.size+its2.toArray.size<=sizeLine:=by rw[Ξ,Ξ];omega
 have hlong:¬(!its.toArray.isEmpty&&Builtin.List.listTooLong (its.toArray.size+its2.toArray.size))=true:=by
  rw[sx hsz,Bool.and_false]
  exact ω
 refine call_meets F.slot_list_extend ⟨_,e,rfl⟩ F.entry_list_extend (F.args_list_extend_2 _ _)
  (AutoSeq1.list_extend_list_list_0 l its.toArray n b its2.toArray n2 hlong (by rw[Ξ];omega) (by omega)) ⟨e,e2,?_⟩
 refine⟨.non,_,I.lset (its':=its++its2) hH e (by simp) (r.append r2) ?_,rfl,q⟩
 rw[η]
 omega
def rPop:V->List V->Hp->VK->Prop:=λx vs H Q=>∃l xs y,x=.ref l/\vs=[]/\H l=some (.lst xs)/\xs[xs.length-1]?=some y/\Q y (upd H l (.lst xs.dropLast))
theorem mt_pop:MtM X "list.pop" rPop:=by
 intro pins s σ H x vs v us Q I rx rv h
 obtain⟨l,xs,y,rfl,rfl,hH,hy,q⟩:=h
 cases rx
 have hus:=rv.zero
 subst hus
 obtain⟨z,its,n,r,hl,e⟩:=I.lstM hH
 obtain⟨u,hu,ru⟩:=r.get hy
 have hy':its.toArray[its.toArray.size-1]?=some u:=by
  show its.toArray[its.length-1]?=some u
  rw[<-Array.getElem?_toList,<-hl]
  exact hu
 refine call_meets F.slot_list_pop ⟨_,e,rfl⟩ F.entry_list_pop (F.args_list_pop_1 _) (MeetsSeq.list_pop_last l its.toArray n u hy' (by rw[Ξ];omega)) ⟨e,?_⟩
 refine⟨y,_,I.lset (its':=its.dropLast) hH e ?_ r.dropLast ?_,ru,q⟩
 ·show its.toArray.eraseIdxIfInBounds (its.toArray.size-1)=its.dropLast.toArray
  rw[Ξ,List.eraseIdxIfInBounds_toArray,ur]
 ·rw[List.length_dropLast]
  omega
noncomputable def rRep:R2:=λx y H Q=>∃l k xs,x=.ref l/\y=.int k/\H l=some (.lst xs) /\ -(2 ^ 63)<=k/\k<2 ^ 63/\xs.length*k.toNat<=sizeLine /\
 ∀p,H p=none->Q (.ref p) (upd H p (.lst (ρ k.toNat xs).flatten))
theorem len_rep(xs:List α)(k:Nat):(ρ k xs).flatten.length=k*xs.length:=by
 induction k with
 | zero=>simp
 | succ k ih=>rw[X9,U5,η,ih,Nat.succ_mul,Nat.add_comm]
theorem op_rep:OpR X (binaryOp .Mult) rRep:=by
 intro pins s σ H x y v u Q I rx ry h
 obtain⟨l,k,xs,rfl,rfl,hH,h1,h2,hz,q⟩:=h
 cases rx
 obtain⟨t,rfl⟩:=ry
 obtain⟨z,its,n,r,hl,e⟩:=I.lstM hH
 have hlen:its.toArray.size*k.toNat<=sizeLine:=by rw[Ξ,<-hl];exact hz
 have hcap:¬its.toArray.size*k.toNat > (2 ^ 63-1) / 8:=by
  have:(sizeLine:Nat)<=(2 ^ 63-1) / 8:=by decide
  omega
 have hfit:¬(!Builtin.List.listFitsIndex k)=true:=by
  rw[fitsIndex_both h1 h2]
  exact ω
 have hlong:¬Builtin.List.listTooLong (its.toArray.size*k.toNat)=true:=by
  rw[sx hlen]
  exact ω
 have hnew:List.foldl (λx1 x2=>x1++x2) #[] (ρ (if its.toArray.isEmpty=true then 0 else k.toNat) its.toArray)=(ρ k.toNat its).flatten.toArray:=by
  have f0:∀m:Nat,List.foldl (λx1 x2=>x1++x2) #[] (ρ m its.toArray)=(ρ m its).flatten.toArray:=λm=>by
   have:=pY its m []
   rw[List.nil_append] at this
   exact this
  rw[f0]
  cases its with
  | nil=>simp
  | cons a r'=>rw[if_neg (by simp)]
 refine wpAny_binaryOp_repeat_ref (T := "list") (U := "int") (by decide) ⟨_,e,rfl⟩ (λs'=>typeIs_int s' k t) noFill_list_mul F.fills_int_mul F.slot_int_rmul repeat_list F.slot_int_index.lookup
  (call_meets F.slot_int_rmul (typeIs_int s k t) F.entry_int_rmul (F.args_int_rmul_2 _ _) (int___rmul___int_list k t l its.toArray n)
   ⟨e,rfl,⟨_,e,rfl⟩,call_meets F.slot_list_mul ⟨_,e,rfl⟩ F.entry_list_mul (F.args_list_mul_2 _ _) (AutoListH.list___mul___list_int_3 l its.toArray n k t hfit hcap hlong) ⟨e,?_⟩⟩)
 rw[hnew]
 exact⟨.ref _,_,I.lnew (t':=s.toks) (r.rep k.toNat) (by rw[len_rep,Nat.mul_comm];exact hz),rfl,q _ I.fresh⟩
end
section
end
section
end
end L2
namespace Att
open PySem.W PySem.Calls PyProof.Rows
theorem mS:∀(ns:List Int) (vs:List Value),WellAll P h vs (ns.map WData.int)->IntsAre vs ns:=by
 intro ns
 induction ns with
 | nil =>
  intro vs w
  rw[List.map_nil] at w
  cases w
  exact .nil
 | cons n ns ih =>
  intro vs w
  rw[Θ] at w
  cases w with
  | cons a b =>
   cases a
   exact .cons _ _ (ih _ b)
theorem v4{l:OpenLaw}{n:Nat}(hn:l.most=some n){P:Params}{h:Heap}{args:List WData}{vals:List Value}
  (hpre:l.row.toRowW.claim.pre args=true) (hwl:WellAll P h vals args) :
  ∃a vs ns,vals=[Value.ref a]/\args=[WData.list (ns.map WData.int)]/\h.get? a=some { cls:=.type "list",data:=.seq vs.toArray }/\IntsAre vs ns/\ns.length<=n:=by
 have hsh:WShape.hasAll [] args [.list .int]=true:=(pre_splitW hpre).1
 have hc:l.pre.holds [] { args:=args }=true:=(pre_splitW hpre).2
 obtain⟨d,r,rfl,h1,h2⟩:=hasAllW_cons hsh
 obtain rfl:=hasAllW_nil h2
 obtain⟨xs,rfl,h3⟩:=hasW_list h1
 obtain⟨ns,rfl⟩:=items_int h3
 have hlen:ns.length<=n:=by
  unfold OpenLaw.pre at hc
  have h4:(WTm.not (.lt (.lit (.int (n:Int))) (.len (.arg 0)))).holds [] { args:=[.list (ns.map .int)] }=true:=by
   have h4:=(holds_andW hc).1
   rw[hn] at h4
   exact h4
  have h5:=condW_of h4 (w_not (w_lt w_lit (w_len_list (w_arg rfl))))
  rw[θ] at h5
  refine Nat.le_of_not_lt λq=>?_
  have q':(n:Int)<((ns.length:Nat):Int):=by omega
  first
   | (rw[decide_eq_true q'] at h5;exact absurd h5 (by decide))
   | (simp at h5;omega)
 cases hwl with
 | cons w1 w2 =>
  cases w2
  cases w1 with
  | list ho hall=>exact⟨_,_,ns,rfl,rfl,ho,mS ns _ hall,hlen⟩
theorem wd(l:OpenLaw)(args:List WData):l.row.toRowW.claim.post args (.bool true) args=true :=
 postW_of (r:=l.row.toRowW) (X:=(true==true))
  (show WShape.has [] (.bool true) .bool=true by first | rfl | decide | simp [WShape.has,WShape.arms,WShape.armsAll])
  (show(WTm.eq .res (.lit (.bool true))).value [] { args:=args,res:=some (.bool true),after:=args }=some (.bool (true==true)) from w_eq_bool (w_res rfl) w_lit) rfl
theorem tq{l:OpenLaw}{n:Nat}{q:Program}{loose:List Str}{XP:(Str->Option Value)->Heap->Prop}{YP:World->Heap->Prop}{d:DefRec}
  (hn:l.most=some n) (hdf:d.params.defaults=[])
  (call:∀(w:World) (s₀ s₁:Shared) (mg mb:Str->Option Value) (fa:Addr) (o:Obj) (pm cd doc:Value) (a:Addr) (vs:List Value) (ns:List Int),
   Ground q loose [] XP w s₀ mg mb s₁.heap->YP w s₁.heap ->
   s₁.heap.get? fa=some o->o.data=.func (docDef d.name d.params d.body d.scope pm cd doc)->s₁.heap.CodeRec cd d.name->mg d.name=some (.ref fa) ->
   s₁.heap.get? a=some { cls:=.type "list",data:=.seq vs.toArray }->IntsAre vs ns->ns.length<=n->s₁.gens=#[] ->
   codeAny (model l.prog w) callerA (.call (.ref fa) ⟨[.ref a],[]⟩) (λr s'=>r=.ok (.ret (.bool true))/\OldK s₁.heap s'.heap/\s'.os=s₁.os/\AllBare s'.gens) s₁) :
  WalkO q loose XP YP l.row.toRowW d [] (λf vs=>PySem.call f vs):=by
 intro w s₀ s₁ mg mb G Y fa o pm cd doc dV kV ho hd hcd hD hmg hg args vals as hpre hlay hrd hwl hlo
 obtain rfl:dV=.none:=Dflts.none hD hdf
 obtain rfl:kV=.none:=Dflts.noKw hD
 obtain⟨a,vs,ns,rfl,rfl,hobj,hints,hlen⟩:=v4 hn hpre hwl
 refine enter_call (codeAny_mono (call w s₀ s₁ mg mb fa o pm cd doc a vs ns G Y ho (fd_plain hd) hcd hmg hobj hints hlen hg) λr s' hq=>?_)
 obtain⟨rfl,h2,h3,h4⟩:=hq
 exact⟨.inl ⟨.bool true,.bool true,[],rfl,λ_=>rfl,.bool true,wd l _,λ_=>⟨List.Pairwise.nil,λ_ hm=>(nomatch hm)⟩⟩,h2,h3,h4⟩
section
end
end Att
namespace L2
open PyProof.Rows
theorem pq:∀{vs:List Value} {ns:List Int},IntsAre vs ns->aS (ns.map V.int) vs
 | _,_,.nil=>.nil
 | _,_,.cons n t h=>.cons ⟨t,rfl⟩ (pq h)
def Only(H:Hp):Prop:=∀b,H b=none\/∃o xs,H b=some (.frz o (.lst xs))
theorem law_call{P:Program}{w:World}{K:ζ}{mg mb:Str->Option Value}{CX:CXT}{k:Nat}{fa a:Addr}{fd:FuncData}{x:Str}{sp:Sp}{s₁:Shared}{vs:List Value}{ns:List Int}
  (KX:K.In s₁.heap) (hns:s₁.heap.Ns mainGlobals mg) (hb:s₁.heap.Ns builtinsNs mb) (hbb:∀x:Str,x ≠ "__name__" -> mb x=bootBuiltins x) (hlim:s₁.heap.NoLimit) (hg:s₁.gens=#[])
  (ha:s₁.heap.get? a=some { cls:=.type "list",data:=.seq vs.toArray }) (hi:IntsAre vs ns) (hl:ns.length<=sizeLine) (hr:Room k callerA)
  (F:∀base:Heap,K.In base->base.Ns mainGlobals mg->FnOk P w K mg base CX k fa fd [x] sp) (hbind:∀(s:Shared) (u:Value),BindsTo s fd ⟨[u],[]⟩ [(x,u)])
  (hsp:∀H:Hp,Only H->SqL K H a (ns.map V.int)->sp [.ref a] H (λv _=>v=.bl true) λ_ _ _=>False)
  (hCX:∀H e s',CX [] H s₁ (λ_ _ _=>False) e s'->False) :
  codeAny (model P w) callerA (.call (.ref fa) ⟨[.ref a],[]⟩) (λr s'=>r=.ok (.ret (.bool true))/\OldK s₁.heap s'.heap/\s'.os=s₁.os/\AllBare s'.gens) s₁:=by
 have rv:=pq hi
 have lenV:=hi.length
 have core:∀H:Hp,Only H->SqL K H a (ns.map V.int)->HOk P w H s₁.heap->(∀b,H b≠none->b=a)->(H a≠none->K.lookup a=none) ->
   codeAny (model P w) callerA (.call (.ref fa) ⟨[.ref a],[]⟩) (λr s'=>r=.ok (.ret (.bool true))/\OldK s₁.heap s'.heap/\s'.os=s₁.os/\AllBare s'.gens) s₁:=by
  intro H hO hS hok hA hK
  have base_of:∀{b:Addr} {o:Obj},s₁.heap.get? b=some o->H b=none->(qO s₁.heap H).get? b=some o:=λe n=>hidT_get e n
  have noA:∀{b:Addr} {o:Obj} {es:Array DictEntry} {ep:Nat},s₁.heap.get? b=some o->o.data=.dict es ep->H b=none:=λ{b o es ep} e d=>by
   cases q:H b with
   | none=>rfl
   | some u =>
    have e':b=a:=hA b (by rw[q];simp)
    subst e'
    rw[ha] at e;cases e
    have d':Data.seq vs.toArray _=Data.dict es ep:=d
    cases d'
  have nsK:∀{b:Addr} {m:Str->Option Value},s₁.heap.Ns b m->(qO s₁.heap H).Ns b m:=λ{b m} ⟨o,es,ep,e,d,r⟩=>⟨o,es,ep,base_of e (noA e d),d,r⟩
  have hKb:K.In (qO s₁.heap H):=λb o e=>base_of (KX b o e) (by
   cases q:H b with
   | none=>rfl
   | some u =>
    have e':b=a:=hA b (by rw[q];simp)
    subst e'
    rw[hK (by rw[q];simp)] at e;cases e)
  have hM:Mod K mg (qO s₁.heap H):=⟨hKb,nsK hns,⟨mb,nsK hb,hbb⟩,let ⟨mc,h1,h2⟩:=hlim;⟨mc,nsK h1,h2⟩⟩
  have e0:Env0 P w K mg (qO s₁.heap H) callerA [] s₁ H:=⟨rfl,hM,λb o e=>of_hidT e,Nat.le_of_eq (wK _ _),trivial,λb hb=>absurd (show b∈([]:List Addr) from hb) (by simp),hok,.of_eq hg⟩
  refine codeAny_mono ((F _ hKb (nsK hns)).run callerA [] s₁ H ⟨[.ref a],[]⟩ [.ref a] [.ref a] _ _ hr e0 (hbind s₁ (.ref a)) (.cons rfl .nil) (hsp H hO hS)) λr s' h=>?_
  cases r with
  | error e=>exact(hCX H e s' h).elim
  | ok fl =>
   cases fl with
   | next=>exact False.elim h
   | brk=>exact False.elim h
   | cont=>exact False.elim h
   | ret u =>
    obtain⟨v,H',os,bare,un,hok',r',q⟩:=h
    have q':v=.bl true:=q
    subst q'
    obtain rfl:u=Value.bool true:=r'
    refine⟨rfl,OldK.of_keep λb o e=>?_,os,bare⟩
    cases q:H b with
    | none=>exact un.keep b o e q (by intro z;exact absurd (show b∈([]:List Addr) from z) (by simp)) (by simp)
    | some u =>
     rcases hO b with z | ⟨ob,xs,z⟩
     ·rw[q] at z;cases z
     ·have z2:=un.frzs b ob _ z
      obtain⟨e1,_⟩:=hok b _ z
      obtain⟨e2,_⟩:=hok' b _ z2
      rw[e] at e1;cases e1
      exact e2
 cases hk:K.lookup a with
 | some o =>
  have e:=KX a o hk
  rw[ha] at e
  cases e
  refine core (λ_=>none) (λ_=>.inl rfl) (.inr ⟨_,vs.toArray,_,hk,rfl,rfl,rfl,by rw[Ξ,lenV];exact hl,by simpa using rv⟩) (λb u z=>by have z':(none:Option HO)=some u:=z;cases z') (λb z=>absurd rfl z) λz=>absurd rfl z
 | none =>
  refine core (λb=>if b=a then some (.frz { cls:=.type "list",data:=.seq vs.toArray } (.lst (ns.map V.int))) else none) (λb=>?_) (.inl (.inr ⟨{ cls:=.type "list",data:=.seq vs.toArray },if_pos rfl⟩)) (λb u z=>?_) (λb z=>?_) λ_=>hk
  ·by_cases hb:b=a
   ·exact .inr ⟨_,_,if_pos hb⟩
   ·exact .inl (if_neg hb)
  ·by_cases hb:b=a
   ·have z':=(if_pos hb).symm.trans z
    cases z'
    subst hb
    exact⟨ha,by rw[θ];exact hl,vs,_,rv,ha⟩
   ·have z':=(if_neg hb).symm.trans z
    cases z'
  ·by_cases hb:b=a
   ·exact hb
   ·exact absurd (if_neg hb) z
end L2
namespace L2
open PyProof.Rows
abbrev KOf{K:ζ}{h:Heap}(_:K.In h):ζ:=K
theorem walk_of{l:PySem.W.OpenLaw}{n k:Nat}{q:Program}{loose:List Str}{XP:(Str->Option Value)->Heap->Prop}{YP:World->Heap->Prop}{d:DefRec}{K:Params->ζ}{CX:World->CXT}{sp:World->Sp}{x:Str}
  (hn:l.most=some n) (hn2:n<=sizeLine) (hdf:d.params.defaults=[]) (hr:Room k callerA)
  (hY:∀(w:World) (h:Heap),YP w h->(K w.params).In h)
  (F:∀(w:World) (mg:Str->Option Value) (fa:Addr) (h:Heap),(K w.params).In h->h.Ns mainGlobals mg->mg d.name=some (.ref fa) ->
   ∃fd:FuncData,(∀(s:Shared) (u:Value),BindsTo s fd ⟨[u],[]⟩ [(x,u)]) /\
    ∀base:Heap,(K w.params).In base->base.Ns mainGlobals mg->FnOk l.prog w (K w.params) mg base (CX w) k fa fd [x] (sp w))
  (hsp:∀(w:World) (H:Hp) (a:Addr) (ns:List Int),ns.length<=n->Only H->SqL (K w.params) H a (ns.map V.int)->sp w [.ref a] H (λv _=>v=.bl true) λ_ _ _=>False)
  (hCX:∀(w:World) (H:Hp) (s:Shared) (e:Value) (s':Shared),CX w [] H s (λ_ _ _=>False) e s'->False) :
  PySem.W.WalkO q loose XP YP l.row.toRowW d [] (λf vs=>PySem.call f vs):=by
 refine Att.tq hn hdf λw s₀ s₁ mg mb fa o pm cd doc a vs ns G Y ho hd hcd hmg hobj hints hlen hg=>?_
 have KX:=hY w _ Y
 obtain⟨fd,hb,hF⟩:=F w mg fa _ KX G.T.g hmg
 exact law_call KX G.T.g G.T.b G.T.builtins G.T.nolimit hg hobj hints (W1 hlen hn2) hr hF hb (λH hO hS=>hsp w H a ns hlen hO hS) λH e s'=>hCX w H s₁ e s'
end L2
namespace L2
open PyProof.Rows
noncomputable def kG(s:Stmt):Arguments:=match s with
 | .FunctionDef _ a _ _ _ _ _ _ _ _=>a
 | _=>{ posonlyargs:=[],args:=[],vararg:=none,kwonlyargs:=[],kw_defaults:=[],kwarg:=none,defaults:=[] }
noncomputable def ek(s:Stmt):List Stmt:=match s with
 | .FunctionDef _ _ b _ _ _ _ _ _ _=>b
 | _=>[]
noncomputable def ao(s:Stmt):Scope:=match s with
 | .FunctionDef _ _ _ _ _ _ sc _ _ _=>sc
 | _=>{ kind:=.function,names:=[],isGenerator:=false,isCoroutine:=false }
abbrev CX0:CXT:=λ_ _ _ _ _ _=>False
abbrev E0:XK:=λ_ _ _=>False
theorem mx:lg CX0 X E0:=λ_ _ _ _ _ _ _ h=>h.elim
structure Fun(K:ζ)(x qual:Str)(st:Stmt)(f:Addr)(fd:FuncData):Prop where
 ex:∃(oc:Value) (od:Option Addr) (kV doc pm:Value) (an:Option Addr) (cdv ct:Value) (osl:Array (Option Value)),
  fd=T6 x qual (kG st) (ek st) (ao st) .none kV doc pm an cdv ct/\K.lookup f=some ⟨oc,od,.func fd,osl⟩/\PySem.W.codeIn K cdv qual=true
 kp:V7 K (.ref f)=true
section
variable{P:Program}{w:World}{K:ζ}{mg:Str->Option Value}{base:Heap}
theorem Fun.ok{x qual:Str}{st:Stmt}{f:Addr}{fd:FuncData}{N ps:List Str}{k:Nat}{sp:Sp}(F:Fun K x qual st f fd)(S:FnScope N ps (ao st))(len:∀vs H Q E,sp vs H Q E->vs.length=ps.length)
  (hbody:∀(cdv:Value) (A:Around) (outer:List Env) (s:Shared) (H:Hp) (vs:List V) (Q:VK) (E:XK),Room k (A.deeper (envOfC qual (ao st) s.heap.objs.size f cdv))->sp vs H Q E ->
   ∃t,PSs (oQ CX0 P w K mg base N qual (ao st) f cdv A outer s H E).nox (ek st) t/\t { nx:=λ_ H'=>Q .non H',rt:=Q } (gj N vs) H):FnOk P w K mg base CX0 (k+1) f fd ps sp:=by
 obtain⟨oc,od,kV,doc,pm,an,cdv,ct,osl,rfl,lk,hcd⟩:=F.ex
 refine fn_of lk hcd S len λA outer s H vs Q E hr hsp=>?_
 obtain⟨t,h,q⟩:=hbody cdv A outer s H vs Q E hr hsp
 exact⟨t,h.nox,q⟩
theorem Fun.binds{x qual:Str}{st:Stmt}{f:Addr}{fd:FuncData}{ps:List Str}(F:Fun K x qual st f fd)
  (h:∀(kV doc pm:Value) (an:Option Addr) (cdv ct:Value) (us:List Value),us.length=ps.length->bindArgs (T6 x qual (kG st) (ek st) (ao st) .none kV doc pm an cdv ct) ⟨us,[]⟩=pure (ps.zip us)):gr K fd ps []:=by
 obtain⟨oc,od,kV,doc,pm,an,cdv,ct,osl,rfl,lk,hcd⟩:=F.ex
 exact .all (h kV doc pm an cdv ct)
theorem ui{x qual:Str}{st:Stmt}{f:Addr}{oc:Value}{od an:Option Addr}{osl:Array (Option Value)}{kV doc pm cdv ct:Value}(l:K.lookup f=some ⟨oc,od,.func (T6 x qual (kG st) (ek st) (ao st) .none kV doc pm an cdv ct),osl⟩)
  (c:PySem.W.codeIn K cdv qual=true) (k:V7 K (.ref f)=true):Fun K x qual st f (T6 x qual (kG st) (ek st) (ao st) .none kV doc pm an cdv ct):=⟨⟨oc,od,kV,doc,pm,an,cdv,ct,osl,rfl,l,c⟩,k⟩
end
section
theorem pv(i:Nat)(hN:X.N[i]?=some x:=by rfl)(hv:Vis X.env.scope x:=by first | exact Or.inl rfl | exact Or.inr (Or.inl rfl) | exact Or.inr (Or.inr rfl))(hd:(x==("__debug__" : Str))=false:=by decide)
  (hcd:(x==("__classdict__" : Str))=false:=by decide):PE X (.Name x pos) (oV i):=pe_var hN hv hd hcd
end
def aG(H H':Hp):Prop:=∀b o,H b=some o->H' b=some o
theorem aG.refl(H:Hp):aG H H:=λ_ _ h=>h
theorem aG.trans{H H1 H2:Hp}(a:aG H H1)(b:aG H1 H2):aG H H2:=λc o h=>b c o (a c o h)
end L2
namespace DL
open PyProof.Rows L2
abbrev D:=PyData
abbrev St:=L2.St
structure XD where
 cls:Str
 flds:List (Str×D)
abbrev M(α:Type):=Option (Except XD α)
noncomputable def M.ret{α:Type}(a:α):M α:=some (.ok a)
noncomputable def M.thn(r:M α)(f:α->M β):M β:=match r with
 | none=>none
 | some (.ok a)=>f a
 | some (.error x)=>some (.error x)
noncomputable def M.lift(r:Option α):M α:=match r with
 | none=>none
 | some a=>some (.ok a)
def ok(G:XD->Prop)(r:M α)(k:α->Prop):Prop:=match r with
 | none=>False
 | some (.ok a)=>k a
 | some (.error x)=>G x
def GS(G:XD->Hp->Prop)(Hr:Hp)(x:XD):Prop:=∀H',aG Hr H'->G x H'
theorem ah(h:ok G r k)(f:∀a,k a->k' a):ok G r k':=by
 match r,h with
 | some (.ok a),h=>exact f a h
 | some (.error x),h=>exact h
theorem aq(h:ok G (r.thn f) k):ok G r (λa=>ok G (f a) k):=by
 match r,h with
 | some (.ok a),h=>exact h
 | some (.error x),h=>exact h
theorem cy(h:ok G (M.lift r) k):∃a,r=some a/\k a:=by
 match r,h with
 | some a,h=>exact⟨a,rfl,h⟩
theorem aD(a:α)(f:α->M β):(M.ret a).thn f=f a:=rfl
theorem rP(a:α)(f:α->M β):M.thn (some (.ok a)) f=f a:=rfl
theorem l4(a:α):M.lift (some a)=M.ret a:=rfl
def KL(K:ζ)(a:Addr)(xs:List V):Prop :=
 ∃(o:Obj) (its:Array Value) (n:Nat),K.lookup a=some o/\o.cls=.type "list" /\ o.dict=none/\o.data=.seq its n/\its.size<=sizeLine/\aS xs its.toList
noncomputable def keyD:Key->D
 | .inl i=>.int i
 | .inr x=>.str x
abbrev jm(nm:Str)(es:List (Str×D)):D:=.dict [(.none,.tuple (.str nm::es.map λe=>.tuple [.str e.1,e.2]))]
def Mu(H:Hp)(l:Addr):Prop:=(∃xs,H l=some (.lst xs))\/(∃kvs,H l=some (.dK kvs))\/∃C dx fs,H l=some (.ins C dx fs)
mutual
inductive Rep(K:ζ)(O:List Addr)(H:Hp):V->D->Prop
 | non:Rep K O H .non .none
 | bl (b:Bool):Rep K O H (.bl b) (.bool b)
 | int (i:Int):Rep K O H (.int i) (.int i)
 | str (x:Str):Rep K O H (.str x) (.str x)
 | tup {a:Addr} {xs:List V} {ds:List D} (h:SqT K H a xs) (r:Reps K O H xs ds):Rep K O H (.ref a) (.tuple ds)
 | lst {a:Addr} {xs:List V} {ds:List D} (h:Rd H a (.lst xs)) (n:a∉O) (r:Reps K O H xs ds):Rep K O H (.ref a) (.list ds)
 | lstK {a:Addr} {xs:List V} {ds:List D} (h:KL K a xs) (r:Reps K O H xs ds):Rep K O H (.ref a) (.list ds)
 | dct {a:Addr} {kvs:List (Key×V)} {es:List (Key×D)} (h:Rd H a (.dK kvs)) (n:a∉O) (hk:kvs.map (·.1)=es.map (·.1)) (r:Reps K O H (kvs.map (·.2)) (es.map (·.2))):Rep K O H (.ref a) (.dict (es.map λe=>(keyD e.1,e.2)))
 | ins {a C dx:Addr} {nm:Str} {fs:List (Str×V)} {es:List (Str×D)} (hN:Z0 K mainGlobals nm=some (some (.ref C))) (h:H a=some (.ins C dx fs)) (n:a∉O) (hk:fs.map (·.1)=es.map (·.1)) (r:Reps K O H (fs.map (·.2)) (es.map (·.2))):Rep K O H (.ref a) (jm nm es)
inductive Reps(K:ζ)(O:List Addr)(H:Hp):List V->List D->Prop
 | nil:Reps K O H [] []
 | cons {v:V} {d:D} {vs:List V} {ds:List D} (r:Rep K O H v d) (rs:Reps K O H vs ds):Reps K O H (v::vs) (d::ds)
end
structure To(O O':List Addr)(H H':Hp):Prop where
 t:∀b xs,Rd H b (.tup xs)->Rd H' b (.tup xs)
 l:∀b xs,b∉O->Rd H b (.lst xs)->b∉O'/\Rd H' b (.lst xs)
 d:∀b xs,b∉O->Rd H b (.dK xs)->b∉O'/\Rd H' b (.dK xs)
 i:∀b C dx fs,b∉O->H b=some (.ins C dx fs)->b∉O'/\H' b=some (.ins C dx fs)
section
variable{K:ζ}{O O':List Addr}{H H':Hp}
theorem To.sqT(k:To O O' H H'){a:Addr}{xs:List V}(h:SqT K H a xs):SqT K H' a xs:=by
 rcases h with h | h
 ·exact .inl (k.t a xs h)
 ·exact .inr h
mutual
theorem Rep.to(k:To O O' H H'):∀{v:V} {d:D},Rep K O H v d->Rep K O' H' v d
 | _,_,.non=>.non
 | _,_,.bl b=>.bl b
 | _,_,.int i=>.int i
 | _,_,.str x=>.str x
 | _,_,.tup h r=>.tup (k.sqT h) (Reps.to k r)
 | _,_,.lst h n r=>.lst (k.l _ _ n h).2 (k.l _ _ n h).1 (Reps.to k r)
 | _,_,.lstK h r=>.lstK h (Reps.to k r)
 | _,_,.dct h n hk r=>.dct (k.d _ _ n h).2 (k.d _ _ n h).1 hk (Reps.to k r)
 | _,_,.ins hN h n hk r=>.ins hN (k.i _ _ _ _ n h).2 (k.i _ _ _ _ n h).1 hk (Reps.to k r)
theorem Reps.to(k:To O O' H H'):∀{vs:List V} {ds:List D},Reps K O H vs ds->Reps K O' H' vs ds
 | _,_,.nil=>.nil
 | _,_,.cons r rs=>.cons (Rep.to k r) (Reps.to k rs)
end
theorem aG.rd(s:aG H H')(h:Rd H b o):Rd H' b o:=by
 rcases h with h | ⟨u,h⟩
 ·exact .inl (s _ _ h)
 ·exact .inr ⟨u,s _ _ h⟩
theorem To.same(s:aG H H'):To O O H H':=⟨λb xs h=>aG.rd s h,λb xs n h=>⟨n,aG.rd s h⟩,λb xs n h=>⟨n,aG.rd s h⟩,λb C dx fs n h=>⟨n,s _ _ h⟩⟩
theorem To.less(s:∀b,b∈O'->b∈O):To O O' H H:=⟨λb xs h=>h,λb xs n h=>⟨λz=>n (s b z),h⟩,λb xs n h=>⟨λz=>n (s b z),h⟩,λb C dx fs n h=>⟨λz=>n (s b z),h⟩⟩
theorem Rep.same(s:aG H H'){v:V}{d:D}(r:Rep K O H v d):Rep K O H' v d:=r.to (.same s)
theorem Reps.same(s:aG H H'){v:List V}{d:List D}(r:Reps K O H v d):Reps K O H' v d:=r.to (.same s)
theorem Rd.ne_new(h:Rd H b o)(hl:H l=none):b≠l:=by
 rcases h with h | ⟨u,h⟩
 ·exact aJ h hl
 ·exact aJ h hl
theorem ba(hl:H l=none):aG H (upd H l o):=λb u e=>by
 rw[upd_ne (aJ e hl)]
 exact e
theorem To.own{l:Addr}{o:HO}(hl:H l=none):To O (l::O) H (upd H l o) :=
 ⟨λb xs h=>aG.rd (ba hl) h,λb xs n h=>⟨λz=>by
  rcases Γ.mp z with z | z
  ·exact Rd.ne_new h hl z
  ·exact n z,aG.rd (ba hl) h⟩,λb xs n h=>⟨λz=>by
  rcases Γ.mp z with z | z
  ·exact Rd.ne_new h hl z
  ·exact n z,aG.rd (ba hl) h⟩,λb C dx fs n h=>⟨λz=>by
  rcases Γ.mp z with z | z
  ·exact aJ h hl z
  ·exact n z,ba hl _ _ h⟩⟩
theorem To.set{l:Addr}{xs ys:List V}(hl:H l=some (.lst xs))(ho:l∈O):To O O H (upd H l (.lst ys)):=by
 have keep:∀{b:Addr} {o:HO},b≠l->Rd H b o->Rd (upd H l (.lst ys)) b o:=λ{b o} hb h=>by
  rcases h with h | ⟨u,h⟩
  ·exact .inl (by rw[upd_ne hb];exact h)
  ·exact .inr ⟨u,by rw[upd_ne hb];exact h⟩
 refine⟨λb zs h=>keep ?_ h,λb zs n h=>⟨n,keep (λz=>n (z▸ho)) h⟩,λb zs n h=>⟨n,keep (λz=>n (z▸ho)) h⟩,λb C dx fs n h=>⟨n,by rw[upd_ne (show b≠l from λz=>n (z▸ho))];exact h⟩⟩
 rintro rfl
 rcases h with h | ⟨u,h⟩
 ·rw[hl] at h;cases h
 ·rw[hl] at h;cases h
theorem Rep.int_inv(r:Rep K O H v (.int i)):v=.int i:=by cases r;rfl
theorem Rep.bool_inv(r:Rep K O H v (.bool i)):v=.bl i:=by cases r;rfl
theorem Rep.str_inv(r:Rep K O H v (.str i)):v=.str i:=by cases r;rfl
theorem Rep.tup_inv(r:Rep K O H v (.tuple ds)):∃a xs,v=.ref a/\SqT K H a xs/\Reps K O H xs ds:=by
 cases r with
 | tup h r=>exact⟨_,_,rfl,h,r⟩
theorem Rep.lst_inv(r:Rep K O H v (.list ds)):∃a xs,v=.ref a/\SqL K H a xs/\Reps K O H xs ds:=by
 cases r with
 | lst h n r=>exact⟨_,_,rfl,.inl h,r⟩
 | lstK h r=>exact⟨_,_,rfl,.inr h,r⟩
noncomputable def sA:D->Bool
 | .dict [(.none,_)]=>false
 | _=>true
theorem Reps.length:∀{vs:List V} {ds:List D},Reps K O H vs ds->vs.length=ds.length
 | _,_,.nil=>rfl
 | _,_,.cons _ rs=>congrArg (· + 1) (Reps.length rs)
theorem Reps.get:∀{vs:List V} {ds:List D} {i:Nat} {d:D},Reps K O H vs ds->ds[i]?=some d->∃v,vs[i]?=some v/\Rep K O H v d
 | _,_,_,_,.nil,e=>by simp at e
 | _,_,0,_,.cons r _,e=>by simp at e;subst e;exact⟨_,rfl,r⟩
 | _,_,i+1,d,.cons _ rs,e=>by
  obtain⟨u,h1,h2⟩:=Reps.get (i:=i) (d:=d) rs (by simpa using e)
  exact⟨u,by simpa using h1,h2⟩
theorem Reps.append:∀{xs ys:List V} {ds es:List D},Reps K O H xs ds->Reps K O H ys es->Reps K O H (xs++ys) (ds++es)
 | _,_,_,_,.nil,s=>s
 | _,_,_,_,.cons r t,s=>.cons r (Reps.append t s)
theorem Reps.take:∀{xs:List V} {ds:List D} (n:Nat),Reps K O H xs ds->Reps K O H (xs.take n) (ds.take n)
 | _,_,0,_=>.nil
 | _,_,_+1,.nil=>.nil
 | _,_,n+1,.cons r t=>.cons r (Reps.take n t)
theorem Reps.drop:∀{xs:List V} {ds:List D} (n:Nat),Reps K O H xs ds->Reps K O H (xs.drop n) (ds.drop n)
 | _,_,0,r=>r
 | _,_,_+1,.nil=>.nil
 | _,_,n+1,.cons _ t=>Reps.drop n t
theorem Reps.ints(ns:List Int):Reps K O H (ns.map V.int) (ns.map ε):=by
 induction ns with
 | nil=>exact .nil
 | cons n ns ih=>exact .cons (.int n) ih
theorem Reps.atI(r:Reps K O H vs ds)(h:L2.atI ds i=some d):∃v,L2.atI vs i=some v/\Rep K O H v d:=by
 unfold L2.atI at h ⊢
 rw[r.length]
 cases e:ixN ds.length i with
 | none=>rw[e] at h;cases h
 | some j =>
  rw[e] at h
  exact r.get h
end
inductive Sl where
 | un
 | vl (d:D)
 | ow (ds:List D)
 | od (es:List (Key×D))
 | ex (a:Addr)
abbrev DS:=List Sl
def SlOk(K:ζ)(O:List Addr)(H:Hp)(o:Option (Option V)):Sl->Prop
 | .un=>True
 | .vl d=>∃v,o=some (some v)/\Rep K O H v d
 | .ow ds=>∃l xs,o=some (some (.ref l))/\l∈O/\H l=some (.lst xs)/\Reps K O H xs ds
 | .od es=>∃l kvs,o=some (some (.ref l))/\l∈O/\H l=some (.dK kvs)/\kvs.map (·.1)=es.map (·.1)/\Reps K O H (kvs.map (·.2)) (es.map (·.2))
 | .ex a=>o=some (some (.ref a))
def Sl.own:Sl->Prop
 | .ow _=>True
 | .od _=>True
 | _=>False
theorem Mu.same(s:aG H H')(h:Mu H l):Mu H' l:=by
 rcases h with ⟨xs,h⟩ | ⟨xs,h⟩ | ⟨C,dx,fs,h⟩
 ·exact .inl ⟨xs,s _ _ h⟩
 ·exact .inr (.inl ⟨xs,s _ _ h⟩)
 ·exact .inr (.inr ⟨C,dx,fs,s _ _ h⟩)
theorem Mu.upd_ne(n:a≠l)(h:Mu H a):Mu (upd H l o) a:=by
 rcases h with ⟨xs,h⟩ | ⟨xs,h⟩ | ⟨C,dx,fs,h⟩
 ·exact .inl ⟨xs,by rw[L2.upd_ne n];exact h⟩
 ·exact .inr (.inl ⟨xs,by rw[L2.upd_ne n];exact h⟩)
 ·exact .inr (.inr ⟨C,dx,fs,by rw[L2.upd_ne n];exact h⟩)
theorem Mu.new(hl:H l=none)(h:Mu H a):Mu (upd H l o) a:=h.same (ba hl)
theorem Mu.lst{H:Hp}{l:Addr}{xs:List V}(h:H l=some (.lst xs)):Mu H l:=.inl ⟨xs,h⟩
theorem Mu.some{H:Hp}{l:Addr}(h:Mu H l):∃o,H l=some o:=by
 rcases h with ⟨xs,h⟩ | ⟨xs,h⟩ | ⟨C,dx,fs,h⟩
 ·exact⟨_,h⟩
 ·exact⟨_,h⟩
 ·exact⟨_,h⟩
structure Ev(K:ζ)(Hr:Hp)(O:List Addr)(H:Hp)(σ:St)(δ:DS):Prop where
 root:aG Hr H
 oo:∀l∈O,Mu H l
 len:σ.length=δ.length
 at_:∀(i:Nat) (s:Sl),δ[i]?=some s->SlOk K O H σ[i]? s
 dis:∀(i j:Nat) (l:Addr) (ds es:List D),i≠j->δ[i]?=some (.ow ds)->δ[j]?=some (.ow es)->σ[i]?=some (some (.ref l))->σ[j]? ≠ some (some (.ref l))
section
variable{K:ζ}{Hr:Hp}{O:List Addr}{H H':Hp}{σ:St}{δ:DS}
theorem Ev.same(s:aG H H')(e:Ev K Hr O H σ δ):Ev K Hr O H' σ δ:=by
 refine⟨e.root.trans s,λl hl=>(e.oo l hl).same s,e.len,λi sl h=>?_,e.dis⟩
 have q:=e.at_ i sl h
 cases sl with
 | un=>trivial
 | ex a=>exact q
 | vl d =>
  obtain⟨v,h1,r⟩:=q
  exact⟨v,h1,r.same s⟩
 | ow ds =>
  obtain⟨l,xs,h1,h2,h3,r⟩:=q
  exact⟨l,xs,h1,h2,s _ _ h3,r.same s⟩
 | od es =>
  obtain⟨l,kvs,h1,h2,h3,hk,r⟩:=q
  exact⟨l,kvs,h1,h2,s _ _ h3,hk,r.same s⟩
theorem Ev.val{i:Nat}{d:D}(e:Ev K Hr O H σ δ)(h:δ[i]?=some (.vl d)):∃v,σ[i]?=some (some v)/\Rep K O H v d:=e.at_ i _ h
theorem bB{α:Type}{l:List α}{i j:Nat}{a:α}:(l.set i a)[j]?=if i=j then (if i<l.length then some a else none) else l[j]?:=by
 rw[V5]
theorem Ev.set{i:Nat}{v:V}{d:D}(e:Ev K Hr O H σ δ)(r:Rep K O H v d):Ev K Hr O H (σ.set i (some v)) (δ.set i (.vl d)):=by
 refine⟨e.root,e.oo,by rw[Ω,Ω];exact e.len,λj sl h=>?_,λj k l ds es hjk h1 h2 h3 h4=>?_⟩
 ·rw[bB] at h ⊢
  by_cases hij:i=j
  ·rw[if_pos hij] at h ⊢
   by_cases hl:i<δ.length
   ·rw[if_pos hl] at h
    rw[if_pos (by rw[e.len];exact hl)]
    cases h
    exact⟨v,rfl,r⟩
   ·rw[if_neg hl] at h;cases h
  ·rw[if_neg hij] at h ⊢
   exact e.at_ j sl h
 ·rw[bB] at h1 h2 h3 h4
  by_cases hij:i=j
  ·rw[if_pos hij] at h1
   split at h1<;>cases h1
  ·by_cases hik:i=k
   ·rw[if_pos hik] at h2
    split at h2<;>cases h2
   ·rw[if_neg hij] at h1 h3
    rw[if_neg hik] at h2 h4
    exact e.dis j k l ds es hjk h1 h2 h3 h4
end
end DL
namespace DL
open PyProof.Rows L2
def PD(X:Cx)(G:XD->Hp->Prop)(e:Expr)(f:DS->M D):Prop :=
 ∃t,PE X e t/\∀{Hr:Hp} (δ:DS) (O:List Addr) (σ:St) (H:Hp) (Q:VK),Ev X.K Hr O H σ δ->ok (GS G Hr) (f δ) (λd=>∀v H',aG H H'->Rep X.K O H' v d->Q v H')->t σ H Q
def PDT(X:Cx)(G:XD->Hp->Prop)(e:Expr)(f:DS->M Bool):Prop :=
 ∃t,PT X e t/\∀{Hr:Hp} (δ:DS) (O:List Addr) (σ:St) (H:Hp) (Q:Bool->Hp->Prop),Ev X.K Hr O H σ δ->ok (GS G Hr) (f δ) (λb=>∀H',aG H H'->Q b H')->t σ H Q
def PDW(X:Cx)(G:XD->Hp->Prop)(e:Expr)(f:DS->M Bool):Prop :=
 ∃t,PW X e t/\∀{Hr:Hp} (δ:DS) (O:List Addr) (σ:St) (H:Hp) (Q:Bool->Hp->Prop),Ev X.K Hr O H σ δ->ok (GS G Hr) (f δ) (λb=>∀H',aG H H'->Q b H')->t σ H Q
def PDA(X:Cx)(G:XD->Hp->Prop)(es:List Expr)(f:DS->M (List D)):Prop :=
 (∀δ ds,f δ=some (.ok ds)->ds.length=es.length)/\∃t,PA X es t/\∀{Hr:Hp} (δ:DS) (O:List Addr) (σ:St) (H:Hp) (Q:List V->Hp->Prop),Ev X.K Hr O H σ δ->ok (GS G Hr) (f δ) (λds=>∀vs H',aG H H'->Reps X.K O H' vs ds->Q vs H')->t σ H Q
section
variable{X:Cx}{G:XD->Hp->Prop}{a b c e:Expr}{es rest:List Expr}{f g h:DS->M D}{fb gb:DS->M Bool}{fa:DS->M (List D)}{pos:Pos}
noncomputable def ac(i:Nat):DS->M D:=λδ=>match δ[i]? with
 | some (.vl d)=>M.ret d
 | _=>none
theorem gw{i:Nat}(h:PE X e (oV i)):PD X G e (ac i):=by
 refine⟨_,h,λδ O σ H Q E k=>?_⟩
 unfold ac at k
 split at k
 ·rename_i d hd
  obtain⟨v,e1,r⟩:=E.val hd
  exact⟨v,e1,k v H (aG.refl H) r⟩
 ·exact k.elim
noncomputable def dC(d:D):DS->M D:=λ_=>M.ret d
theorem pd_int{i j pos}:PD X G (.Constant (.int i) j pos) (dC (.int i)):=⟨_,pe_int,λ_ _ _ H Q _ k=>k _ H (aG.refl H) (.int i)⟩
theorem vh{i j pos}:PD X G (.Constant (.bool i) j pos) (dC (.bool i)):=⟨_,pe_bl,λ_ _ _ H Q _ k=>k _ H (aG.refl H) (.bl i)⟩
theorem tW{j pos}:PD X G (.Constant .none j pos) (dC .none):=⟨_,pe_non,λ_ _ _ H Q _ k=>k _ H (aG.refl H) .non⟩
theorem pd_str{x j pos}:PD X G (.Constant (.str x) j pos) (dC (.str x)):=⟨_,pe_str,λ_ _ _ H Q _ k=>k _ H (aG.refl H) (.str x)⟩
def DOp(X:Cx)(sem:Value->Value->Sem Value)(h:D->D->Option D):Prop :=
 ∃r:R2,OpR X sem r/\∀(O:List Addr) (H:Hp) (x y d:D) (v u:V) (Q:VK),(∀l∈O,Mu H l)->Rep X.K O H v x->Rep X.K O H u y->h x y=some d->(∀v' H',aG H H'->Rep X.K O H' v' d->Q v' H')->r v u H Q
noncomputable def d2(h:D->D->Option D)(f g:DS->M D):DS->M D:=λδ=>(f δ).thn λx=>(g δ).thn λy=>M.lift (h x y)
theorem qB{r:R2}{h:D->D->Option D}{ta tb:TE}
  (ho:∀(O:List Addr) (H:Hp) (x y d:D) (v u:V) (Q:VK),(∀l∈O,Mu H l)->Rep X.K O H v x->Rep X.K O H u y->h x y=some d->(∀v' H',aG H H'->Rep X.K O H' v' d->Q v' H')->r v u H Q)
  (ha:∀{Hr:Hp} (δ:DS) (O:List Addr) (σ:St) (H:Hp) (Q:VK),Ev X.K Hr O H σ δ->ok (GS G Hr) (f δ) (λd=>∀v H',aG H H'->Rep X.K O H' v d->Q v H')->ta σ H Q)
  (hb:∀{Hr:Hp} (δ:DS) (O:List Addr) (σ:St) (H:Hp) (Q:VK),Ev X.K Hr O H σ δ->ok (GS G Hr) (g δ) (λd=>∀v H',aG H H'->Rep X.K O H' v d->Q v H')->tb σ H Q)
  {Hr:Hp} (δ:DS) (O:List Addr) (σ:St) (H:Hp) (Q:VK) (E:Ev X.K Hr O H σ δ) (k:ok (GS G Hr) (d2 h f g δ) (λd=>∀v H',aG H H'->Rep X.K O H' v d->Q v H')):tOp r ta tb σ H Q:=by
 refine ha δ O σ H _ E (ah (aq k) λx kx v H1 s1 rx=>?_)
 refine hb δ O σ H1 _ (E.same s1) (ah (aq kx) λy ky u H2 s2 ry=>?_)
 obtain⟨d,hd,kd⟩:=cy ky
 exact ho O H2 x y d v u Q (E.same (s1.trans s2)).oo (rx.same s2) ry hd λv' H3 s3 r3=>kd v' H3 ((s1.trans s2).trans s3) r3
theorem pd_op{op:Operator}{h:D->D->Option D}(ho:DOp X (binaryOp op) h)(ha:PD X G a f)(hb:PD X G b g):PD X G (.BinOp a op b pos) (d2 h f g):=by
 obtain⟨r,hr,ho⟩:=ho
 obtain⟨ta,pa,ha⟩:=ha
 obtain⟨tb,pb,hb⟩:=hb
 exact⟨_,va hr pa pb,qB ho ha hb⟩
theorem pd_cmp{op:CmpOp}{h:D->D->Option D}(ho:DOp X (compareOp op) h)(ha:PD X G a f)(hb:PD X G b g)(hm:behindInMarks op b=false):PD X G (.Compare a [op] [b] pos) (d2 h f g):=by
 obtain⟨r,hr,ho⟩:=ho
 obtain⟨ta,pa,ha⟩:=ha
 obtain⟨tb,pb,hb⟩:=hb
 exact⟨_,pe_cmpR hr pa pb hm,qB ho ha hb⟩
noncomputable def dB(f:DS->M D):DS->M Bool:=λδ=>(f δ).thn λd=>match d with
 | .bool b=>M.ret b
 | _=>none
theorem sq(q:ok (GS G Hr) (dB f δ) k):ok (GS G Hr) (f δ) (λd=>∃b,d=.bool b/\k b):=by
 refine ah (aq q) λd z=>?_
 cases d with
 | bool b=>exact⟨b,rfl,z⟩
 | _=>exact z.elim
theorem vf{op:CmpOp}{h:D->D->Option D}(ho:DOp X (compareOp op) h)(ha:PD X G a f)(hb:PD X G b g)(hm:behindInMarks op b=false):PDT X G (.Compare a [op] [b] pos) (dB (d2 h f g)):=by
 obtain⟨r,hr,ho⟩:=ho
 obtain⟨ta,pa,ha⟩:=ha
 obtain⟨tb,pb,hb⟩:=hb
 refine⟨_,pt_cmpR hr pa pb hm,λδ O σ H Q E k=>?_⟩
 refine qB ho ha hb δ O σ H _ E (ah (sq k) λd z v H' s r=>?_)
 obtain⟨b,rfl,z⟩:=z
 exact⟨b,r.bool_inv,z H' s⟩
theorem vd(he:PD X G e f)(h1:∀whole,isTrue e X.env whole=(do let v <- whole;standAt e.pos;holding [v] (truthy v)):=by intro _;rfl):PDT X G e (dB f):=by
 obtain⟨t,p,he⟩:=he
 refine⟨_,pt_val p h1,λδ O σ H Q E k=>?_⟩
 refine he δ O σ H _ E (ah (sq k) λd z v H' s r=>?_)
 obtain⟨b,rfl,z⟩:=z
 exact⟨b,r.bool_inv,z H' s⟩
noncomputable def jD(fb gb:DS->M Bool):DS->M Bool:=λδ=>(fb δ).thn λc=>if c=true then gb δ else M.ret false
noncomputable def dOr(fb gb:DS->M Bool):DS->M Bool:=λδ=>(fb δ).thn λc=>if c=true then M.ret true else gb δ
noncomputable def eG(fb:DS->M Bool):DS->M Bool:=λδ=>(fb δ).thn λc=>M.ret (!c)
theorem pdw_and1(ha:PDT X G a fb):PDW X G (.BoolOp .And [a] pos) fb:=by
 obtain⟨t,p,ha⟩:=ha
 exact⟨_,pw_and1 p,ha⟩
theorem pdw_or1(ha:PDT X G a fb):PDW X G (.BoolOp .Or [a] pos) fb:=by
 obtain⟨t,p,ha⟩:=ha
 exact⟨_,pw_or1 p,ha⟩
theorem pdw_and(ha:PDT X G a fb)(hb:PDW X G (.BoolOp .And (b::rest) pos) gb):PDW X G (.BoolOp .And (a::b::rest) pos) (jD fb gb):=by
 obtain⟨t,p,ha⟩:=ha
 obtain⟨u,q,hb⟩:=hb
 refine⟨_,pw_and p q,λδ O σ H Q E k=>?_⟩
 refine ha δ O σ H _ E (ah (aq k) λc z H1 s1=>?_)
 cases c with
 | true =>
  rw[if_pos rfl] at z ⊢
  exact hb δ O σ H1 Q (E.same s1) (ah z λb y H2 s2=>y H2 (s1.trans s2))
 | false =>
  rw[if_neg ω] at z ⊢
  exact z H1 s1
theorem pdw_or(ha:PDT X G a fb)(hb:PDW X G (.BoolOp .Or (b::rest) pos) gb):PDW X G (.BoolOp .Or (a::b::rest) pos) (dOr fb gb):=by
 obtain⟨t,p,ha⟩:=ha
 obtain⟨u,q,hb⟩:=hb
 refine⟨_,pw_or p q,λδ O σ H Q E k=>?_⟩
 refine ha δ O σ H _ E (ah (aq k) λc z H1 s1=>?_)
 cases c with
 | true =>
  rw[if_pos rfl] at z ⊢
  exact z H1 s1
 | false =>
  rw[if_neg ω] at z ⊢
  exact hb δ O σ H1 Q (E.same s1) (ah z λb y H2 s2=>y H2 (s1.trans s2))
theorem PDW.t(h:PDW X G e fb):PDT X G e fb:=by
 obtain⟨t,p,h⟩:=h
 exact⟨_,p.pt,h⟩
theorem ve(ha:PDT X G a fb):PDT X G (.UnaryOp .Not a pos) (eG fb):=by
 obtain⟨t,p,ha⟩:=ha
 refine⟨_,pt_not p,λδ O σ H Q E k=>?_⟩
 exact ha δ O σ H _ E (ah (aq k) λc z H1 s1=>z H1 s1)
noncomputable def i9(f g:DS->M D):DS->M D:=λδ=>(dB f δ).thn λc=>if c=true then g δ else M.ret (.bool false)
noncomputable def uz(f g:DS->M D):DS->M D:=λδ=>(dB f δ).thn λc=>if c=true then M.ret (.bool true) else g δ
noncomputable def kS(f:DS->M D):DS->M D:=λδ=>(dB f δ).thn λc=>M.ret (.bool (!c))
theorem pd_one{op}(ha:PD X G a f):PD X G (.BoolOp op [a] pos) f:=by
 obtain⟨t,p,ha⟩:=ha
 exact⟨_,pe_one p,ha⟩
theorem pd_and(ha:PD X G a f)(hb:PD X G (.BoolOp .And (b::rest) pos) g):PD X G (.BoolOp .And (a::b::rest) pos) (i9 f g):=by
 obtain⟨t,p,ha⟩:=ha
 obtain⟨u,q,hb⟩:=hb
 refine⟨_,pe_and p q,λδ O σ H Q E k=>?_⟩
 refine ha δ O σ H _ E (ah (sq (aq k)) λd z v H1 s1 r=>?_)
 obtain⟨c,rfl,z⟩:=z
 refine⟨c,r.bool_inv,?_⟩
 cases c with
 | true =>
  rw[if_pos rfl] at z ⊢
  exact hb δ O σ H1 Q (E.same s1) (ah z λb y v H2 s2=>y v H2 (s1.trans s2))
 | false =>
  rw[if_neg ω] at z ⊢
  exact z _ H1 s1 (.bl false)
theorem pd_or(ha:PD X G a f)(hb:PD X G (.BoolOp .Or (b::rest) pos) g):PD X G (.BoolOp .Or (a::b::rest) pos) (uz f g):=by
 obtain⟨t,p,ha⟩:=ha
 obtain⟨u,q,hb⟩:=hb
 refine⟨_,pe_or p q,λδ O σ H Q E k=>?_⟩
 refine ha δ O σ H _ E (ah (sq (aq k)) λd z v H1 s1 r=>?_)
 obtain⟨c,rfl,z⟩:=z
 refine⟨c,r.bool_inv,?_⟩
 cases c with
 | true =>
  rw[if_pos rfl] at z ⊢
  exact z _ H1 s1 (.bl true)
 | false =>
  rw[if_neg ω] at z ⊢
  exact hb δ O σ H1 Q (E.same s1) (ah z λb y v H2 s2=>y v H2 (s1.trans s2))
theorem pd_not(ha:PD X G a f):PD X G (.UnaryOp .Not a pos) (kS f):=by
 obtain⟨t,p,ha⟩:=ha
 refine⟨_,pe_not p,λδ O σ H Q E k=>?_⟩
 refine ha δ O σ H _ E (ah (sq (aq k)) λd z v H1 s1 r=>?_)
 obtain⟨c,rfl,z⟩:=z
 exact⟨c,r.bool_inv,z _ H1 s1 (.bl _)⟩
noncomputable def dIf(c:DS->M Bool)(f g:DS->M D):DS->M D:=λδ=>(c δ).thn λb=>if b=true then f δ else g δ
theorem pd_if(hc:PDT X G c fb)(ha:PD X G a f)(hb:PD X G b g):PD X G (.IfExp c a b pos) (dIf fb f g):=by
 obtain⟨t,p,hc⟩:=hc
 obtain⟨ta,pa,ha⟩:=ha
 obtain⟨tb,pb,hb⟩:=hb
 refine⟨_,xX p pa pb,λδ O σ H Q E k=>?_⟩
 refine hc δ O σ H _ E (ah (aq k) λd z H1 s1=>?_)
 cases d with
 | true =>
  rw[if_pos rfl] at z ⊢
  exact ha δ O σ H1 Q (E.same s1) (ah z λb y v H2 s2=>y v H2 (s1.trans s2))
 | false =>
  rw[if_neg ω] at z ⊢
  exact hb δ O σ H1 Q (E.same s1) (ah z λb y v H2 s2=>y v H2 (s1.trans s2))
noncomputable def ai:DS->M (List D):=λ_=>M.ret []
noncomputable def ae(f:DS->M D)(g:DS->M (List D)):DS->M (List D):=λδ=>(f δ).thn λx=>(g δ).thn λxs=>M.ret (x::xs)
theorem eK:PDA X G [] ai:=⟨λδ ds h=>by cases h;rfl,_,jS,λ_ _ _ H Q _ k=>k [] H (aG.refl H) .nil⟩
theorem bv(ha:PD X G e f)(hr:PDA X G es fa)(hs:starEach (e::es) X.env=(false,eval e X.env)::starEach es X.env:=by rfl):PDA X G (e::es) (ae f fa):=by
 obtain⟨t,p,ha⟩:=ha
 obtain⟨hl,u,q,hr⟩:=hr
 refine⟨λδ ds h=>?_,_,gG p q hs,λδ O σ H Q E k=>?_⟩
 ·unfold ae at h
  cases e1:f δ with
  | none=>rw[e1] at h;cases h
  | some r =>
   rw[e1] at h
   cases r with
   | error x=>cases h
   | ok x =>
    cases e2:fa δ with
    | none=>rw[rP,e2] at h;cases h
    | some r2 =>
     rw[rP,e2] at h
     cases r2 with
     | error x=>cases h
     | ok xs =>
      cases h
      rw[Φ,Φ,hl δ xs e2]
 ·refine ha δ O σ H _ E (ah (aq k) λd z v H1 s1 r=>?_)
  refine hr δ O σ H1 _ (E.same s1) (ah (aq z) λds y vs H2 s2 rs=>?_)
  exact y (v::vs) H2 (s1.trans s2) (.cons (r.same s2) rs)
noncomputable def aL(n:Nat):Bool:=decide (n<=16000000)
theorem bz(h:aL n=true):n<=sizeLine:=by
 have:=of_decide_eq_true h
 rw[sizeLine_eq]
 omega
noncomputable def gz(fa:DS->M (List D)):DS->M D:=λδ=>(fa δ).thn λds=>if aL ds.length then M.ret (.tuple ds) else none
noncomputable def iA(fa:DS->M (List D)):DS->M D:=λδ=>(fa δ).thn λds=>if aL ds.length then M.ret (.list ds) else none
theorem gZ{K:ζ}{O:List Addr}{H:Hp}{p:Addr}{vs:List V}{ds:List D}(hp:H p=none)(r:Reps K O H vs ds):Rep K O (upd H p (.tup vs)) (.ref p) (.tuple ds) :=
 .tup (SqT.of aK) (r.same (ba hp))
theorem pd_tup{x1}(h:PDA X G es fa):PD X G (.Tuple es x1 pos) (gz fa):=by
 obtain⟨_,t,p,h⟩:=h
 refine⟨_,pe_tup p,λδ O σ H Q E k=>?_⟩
 refine h δ O σ H _ E (ah (aq k) λds z vs H1 s1 rs=>?_)
 by_cases hz:aL ds.length=true
 ·rw[if_pos hz] at z
  exact⟨by rw[rs.length];exact bz hz,λp hp=>z _ _ (s1.trans (ba hp)) (gZ hp rs)⟩
 ·rw[if_neg hz] at z
  exact z.elim
end
end DL
namespace DL
open PyProof.Rows L2
section
variable{X:Cx}{G:XD->Hp->Prop}{a b c e:Expr}{es rest:List Expr}{f g h:DS->M D}{fb gb:DS->M Bool}{fa:DS->M (List D)}{pos:Pos}
noncomputable def ii(h:Int->Int->Option D):D->D->Option D
 | .int i,.int j=>h i j
 | _,_=>none
theorem vx{h:Int->Int->Option D}{x y d:D}(e:ii h x y=some d):∃i j,x=.int i/\y=.int j/\h i j=some d:=by
 unfold ii at e
 split at e
 ·exact⟨_,_,rfl,rfl,e⟩
 ·cases e
theorem qZ{sem:Value->Value->Sem Value}{g:Int->Int->V}{gd:Int->Int->D}(h:OpR X sem (rI0 g))(hg:∀O H i j,Rep X.K O H (g i j) (gd i j)):DOp X sem (ii λi j=>some (gd i j)):=by
 refine⟨_,h,λO H x y d v u Q oo rx ry e k=>?_⟩
 obtain⟨i,j,rfl,rfl,e⟩:=vx e
 cases e
 exact⟨i,j,rx.int_inv,ry.int_inv,k _ H (aG.refl H) (hg O H i j)⟩
theorem qY{sem:Value->Value->Sem Value}{C:Int->Int->Prop}{B:Int->Int->Bool}{g:Int->Int->V}{gd:Int->Int->D}(h:OpR X sem (rI C g))(hC:∀i j,B i j=true->C i j)(hg:∀O H i j,Rep X.K O H (g i j) (gd i j)) :
  DOp X sem (ii λi j=>if B i j=true then some (gd i j) else none):=by
 refine⟨_,h,λO H x y d v u Q oo rx ry e k=>?_⟩
 obtain⟨i,j,rfl,rfl,e1⟩:=vx e
 by_cases hb:B i j=true
 ·rw[if_pos hb] at e1
  cases e1
  exact⟨i,j,rx.int_inv,ry.int_inv,hC i j hb,k _ H (aG.refl H) (hg O H i j)⟩
 ·rw[if_neg hb] at e1;cases e1
abbrev gm:D->D->Option D:=ii λi j=>some (.int (i-j))
noncomputable def bMul(i j:Int):Bool:=decide ((-18446744073709551616<i/\i<18446744073709551616)\/(-18446744073709551616<j/\j<18446744073709551616))
abbrev oe:D->D->Option D:=ii λi j=>if bMul i j=true then some (.int (i*j)) else none
noncomputable def bDiv(j:Int):Bool:=decide (0<j/\j<1267650600228229401496703205376)
abbrev qF:D->D->Option D:=ii λi j=>if bDiv j=true then some (.int (i / j)) else none
abbrev gn:D->D->Option D:=ii λi j=>if decide (0<j)=true then some (.int (i % j)) else none
noncomputable def bPow(i j:Int):Bool:=decide (0<=j/\j<=1000000/\i.natAbs<18446744073709551616)
abbrev t6:D->D->Option D:=ii λi j=>if bPow i j=true then some (.int (i ^ j.toNat)) else none
theorem dop_sub:DOp X (binaryOp .Sub) gm:=qZ op_sub λ_ _ _ _=>.int _
theorem dop_mul:DOp X (binaryOp .Mult) oe:=qY op_mul (λi j h=>by
 have h:=of_decide_eq_true h
 unfold CMul
 have e:(2:Int) ^ 64=18446744073709551616:=by decide
 rw[e]
 exact h) λ_ _ _ _=>.int _
theorem sC{j:Int}(h:0<j/\j<1267650600228229401496703205376):j.natAbs.log2<9000:=by
 have h2:j.natAbs<2 ^ 100:=by
  have e:(2:Nat) ^ 100=1267650600228229401496703205376:=by decide
  omega
 exact Nat.lt_trans ((Nat.log2_lt (by omega)).mpr h2) (by decide)
theorem op_fdivW:OpR X (binaryOp .FloorDiv) (rI (λ_ j=>0<j/\j<1267650600228229401496703205376) λi j=>.int (i / j)):=opI λi j _ _ _ _ _ hc q=>by
 rw[<-Int.fdiv_eq_ediv_of_nonneg _ (Int.le_of_lt hc.1)] at q
 exact floordiv_int (by omega) q (.inl (PyProof.noPylong_of_log2 (sC hc)))
theorem dop_div:DOp X (binaryOp .FloorDiv) qF:=qY op_fdivW (λi j h=>of_decide_eq_true h) λ_ _ _ _=>.int _
theorem dop_mod:DOp X (binaryOp .Mod) gn:=qY op_mod (λi j h=>of_decide_eq_true h) λ_ _ _ _=>.int _
theorem dop_pow:DOp X (binaryOp .Pow) t6:=qY op_pow (λi j h=>by
 have h:=of_decide_eq_true h
 unfold CPow
 have e:(2:Nat) ^ 64=18446744073709551616:=by decide
 rw[e]
 exact h) λ_ _ _ _=>.int _
abbrev oLt:D->D->Option D:=ii λi j=>some (.bool (decide (i<j)))
abbrev oGt:D->D->Option D:=ii λi j=>some (.bool (decide (j<i)))
abbrev oGe:D->D->Option D:=ii λi j=>some (.bool (decide (j<=i)))
theorem dop_lt:DOp X (compareOp .Lt) oLt:=qZ op_lt λ_ _ _ _=>.bl _
theorem dop_gt:DOp X (compareOp .Gt) oGt:=qZ op_gt λ_ _ _ _=>.bl _
theorem dop_ge:DOp X (compareOp .GtE) oGe:=qZ op_ge λ_ _ _ _=>.bl _
theorem nin{O:List Addr}{H:Hp}(oo:∀l∈O,Mu H l){p:Addr}(hp:H p=none):p∉O:=λz=>by
 obtain⟨o,ho⟩:=(oo p z).some
 rw[hp] at ho;cases ho
theorem g9{K:ζ}{O:List Addr}{H:Hp}{p:Addr}{vs:List V}{ds:List D}(oo:∀l∈O,Mu H l)(hp:H p=none)(r:Reps K O H vs ds):Rep K O (upd H p (.lst vs)) (.ref p) (.list ds) :=
 .lst (.inl aK) (nin oo hp) (r.same (ba hp))
theorem op_cat0:OpR X (binaryOp .Add) (λx y H Q=>∃a b ys,x=.ref a/\y=.ref b/\SqT X.K H a []/\SqT X.K H b ys/\Q (.ref b) H):=by
 intro pins s σ H x y v u Q I rx ry h
 obtain⟨a,b,ys,rfl,rfl,ha,hb,q⟩:=h
 cases rx
 cases ry
 obtain⟨its,r1,p1,_⟩:=I.tuple ha
 obtain⟨its2,r2,p2,_⟩:=I.tuple hb
 cases r1
 obtain⟨⟨cls,dd,data,sl⟩,ho,hc,n,hd⟩:=id p1
 obtain⟨⟨cls2,dd2,data2,sl2⟩,ho2,hc2,n2,hd2⟩:=id p2
 simp only at hc hd hc2 hd2
 subst hc hd hc2 hd2
 exact concat_meets ⟨_,ho,rfl⟩ ⟨_,ho2,rfl⟩ noFill_tuple_add seq_tuple_add PySem.F.slot_tuple_add PySem.F.entry_tuple_add (PySem.F.args_tuple_add_2 _ _)
  (tuple_addW0 a b _ its2.toArray n n2 dd dd2 sl sl2 rfl) ⟨ho,ho2,⟨.ref b,H,I,rfl,q⟩⟩
theorem qD:OpR X (binaryOp .Add) (λx y H Q=>∃l b xs zs,x=.ref l/\y=.ref b/\SqL X.K H l xs/\SqL X.K H b zs/\xs.length+zs.length<=sizeLine/\∀p,H p=none->Q (.ref p) (upd H p (.lst (xs++zs)))):=by
 intro pins s σ H x y v u Q I rx ry h
 obtain⟨l,b,xs,zs,rfl,rfl,hH,hB,hz,q⟩:=h
 cases rx
 cases ry
 obtain⟨its,r,⟨⟨cls,dd,data,sl⟩,n,e,hc,hdd,hd⟩,z⟩:=I.list hH
 obtain⟨its2,r2,⟨⟨cls2,dd2,data2,sl2⟩,n2,e2,hc2,hdd2,hd2⟩,z2⟩:=I.list hB
 have hl:=r.length
 have hl2:=r2.length
 simp only at hc hd hc2 hd2 hdd hdd2
 subst hc hd hc2 hd2 hdd hdd2
 have ea:its.toArray++its2.toArray=(its++its2).toArray:=by simp
 refine concat_meets ⟨_,e,rfl⟩ ⟨_,e2,rfl⟩ noFill_list_add seq_list_add PySem.F.slot_list_add PySem.F.entry_list_add (PySem.F.args_list_add_2 _ _) (list_addW l b its.toArray its2.toArray n n2 none none sl sl2 (by rw[Ξ,Ξ];omega)) ⟨e,e2,?_⟩
 rw[ea]
 exact⟨.ref _,_,I.lnew (t':=s.toks) (r.append r2) (by rw[η];omega),rfl,q _ I.fresh⟩
noncomputable def bg:D->D->Option D
 | .int i,.int j=>some (.int (i+j))
 | .str i,.str j=>if aL (i.length+j.length) then some (.str (i++j)) else none
 | .tuple xs,.tuple ys=>if aL (xs.length+ys.length) then some (.tuple (xs++ys)) else none
 | .list xs,.list ys=>if aL (xs.length+ys.length) then some (.list (xs++ys)) else none
 | _,_=>none
theorem dop_add:DOp X (binaryOp .Add) bg:=by
 refine⟨_,op_add.or (tY.or (op_catT.or (op_cat0.or qD))),λO H x y d v u Q oo rx ry e k=>?_⟩
 unfold bg at e
 split at e
 ·rename_i i j
  cases e
  exact .inl ⟨i,j,rx.int_inv,ry.int_inv,k _ H (aG.refl H) (.int _)⟩
 ·rename_i i j
  by_cases hz:aL (i.length+j.length)=true
  ·rw[if_pos hz] at e
   cases e
   exact .inr (.inl ⟨i,j,rx.str_inv,ry.str_inv,bz hz,k _ H (aG.refl H) (.str _)⟩)
  ·rw[if_neg hz] at e;cases e
 ·rename_i xs ys
  by_cases hz:aL (xs.length+ys.length)=true
  ·rw[if_pos hz] at e
   cases e
   obtain⟨p,vs,rfl,h1,r1⟩:=rx.tup_inv
   obtain⟨q,ws,rfl,h2,r2⟩:=ry.tup_inv
   by_cases hx:xs=[]
   ·subst hx
    cases r1
    exact .inr (.inr (.inr (.inl ⟨p,q,ws,rfl,rfl,h1,h2,k _ H (aG.refl H) (.tup h2 r2)⟩)))
   ·refine .inr (.inr (.inl ⟨p,q,vs,ws,rfl,rfl,h1,h2,λz=>?_,by rw[r1.length,r2.length];exact bz hz,λz=>?_,λz l hl=>?_⟩))
    ·subst z
     cases r1
     exact hx rfl
    ·subst z
     have z2:=r2
     cases z2
     refine k _ H (aG.refl H) ?_
     rw[Z4]
     exact .tup h1 r1
    ·exact k _ _ (ba hl) (gZ hl (r1.append r2))
  ·rw[if_neg hz] at e;cases e
 ·rename_i xs ys
  by_cases hz:aL (xs.length+ys.length)=true
  ·rw[if_pos hz] at e
   cases e
   obtain⟨p,vs,rfl,h1,r1⟩:=rx.lst_inv
   obtain⟨q,ws,rfl,h2,r2⟩:=ry.lst_inv
   exact .inr (.inr (.inr (.inr ⟨p,q,vs,ws,rfl,rfl,h1,h2,by rw[r1.length,r2.length];exact bz hz,λl hl=>k _ _ (ba hl) (g9 oo hl (r1.append r2))⟩)))
  ·rw[if_neg hz] at e;cases e
 ·cases e
mutual
theorem Rep.reads(I:Inv X pins σ H s):∀{v:V} {d:D} {u:Value},d.canLay0=true->Rep X.K O H v d->bR v u->∃as,Reads s.heap u d as
 | _,_,u,_,.non,q=>by cases (show u=Value.none from q);exact⟨_,.none⟩
 | _,_,u,_,.bl b,q=>by cases (show u=Value.bool b from q);exact⟨_,.bool b⟩
 | _,_,u,_,.int i,q=>by obtain⟨t,rfl⟩:=(show ∃t,u=Value.int i t from q);exact⟨_,.int i t⟩
 | _,_,u,_,.str x,q=>by obtain⟨t,rfl⟩:=(show ∃t,u=Value.str x t from q);exact⟨_,.str x t⟩
 | .ref a,_,u,hc,.tup h r,q=>by
  cases (show u=Value.ref a from q)
  obtain⟨its,rv,⟨o,h1,h2,n,h3⟩,_⟩:=I.tuple h
  obtain⟨as,ra⟩:=Reps.reads I (by simpa [V2] using hc) r rv
  exact⟨_,.tuple h1 h2 h3 ra⟩
 | .ref a,_,u,hc,.lst h n r,q=>by
  cases (show u=Value.ref a from q)
  obtain⟨its,rv,⟨o,n,h1,h2,_,h3⟩,_⟩:=I.list (.inl h)
  obtain⟨as,ra⟩:=Reps.reads I (by simpa [V2] using hc) r rv
  exact⟨_,.list h1 h2 h3 ra⟩
 | .ref a,_,u,hc,.lstK h r,q=>by
  cases (show u=Value.ref a from q)
  obtain⟨its,rv,⟨o,n,h1,h2,_,h3⟩,_⟩:=I.list (.inr h)
  obtain⟨as,ra⟩:=Reps.reads I (by simpa [V2] using hc) r rv
  exact⟨_,.list h1 h2 h3 ra⟩
 | .ref a,_,u,hc,.dct _ _ _ _,q=>by simp [V2] at hc
 | .ref a,_,u,hc,.ins _ _ _ _ _,q=>by simp [V2,jm] at hc
theorem Reps.reads(I:Inv X pins σ H s):∀{vs:List V} {ds:List D} {us:List Value},U3 ds=true->Reps X.K O H vs ds->aS vs us->∃as,ReadsAll s.heap us ds as
 | _,_,_,_,.nil,q=>by cases q;exact⟨_,.nil⟩
 | _,_,_,hc,.cons r rs,q=>by
  rw[U3,Z5] at hc
  cases q with
  | cons p ps =>
   obtain⟨as,h1⟩:=Rep.reads I hc.1 r p
   obtain⟨bs,h2⟩:=Reps.reads I hc.2 rs ps
   exact⟨_,.cons h1 h2⟩
end
noncomputable def flat(x y:D):Bool:=x.canLay0&&y.canLay0&&decide (min x.depth y.depth<=60)
noncomputable def oEq(x y:D):Option D:=if flat x y=true then some (.bool (PyData.eqv x y)) else none
noncomputable def oNe(x y:D):Option D:=if flat x y=true then some (.bool (!PyData.eqv x y)) else none
noncomputable def rDat(X:Cx)(p:D->D->Bool):R2:=λv u H Q=>∃O x y,Rep X.K O H v x/\Rep X.K O H u y/\flat x y=true/\Q (.bl (p x y)) H
theorem lB(h:flat x y=true):x.canLay0=true/\y.canLay0=true/\min x.depth y.depth<=60:=by
 unfold flat at h
 rw[Z5,Z5] at h
 exact⟨h.1.1,h.1.2,of_decide_eq_true h.2⟩
theorem op_eqD(hu:X.A.units+64<cLine):OpR X (compareOp .Eq) (rDat X PyData.eqv):=by
 intro pins s σ H v u v' u' Q I rv ru h
 obtain⟨O,x,y,rx,ry,hf,q⟩:=h
 obtain⟨h1,h2,h3⟩:=lB hf
 obtain⟨as,r1⟩:=rx.reads I h1 rv
 obtain⟨bs,r2⟩:=ry.reads I h2 ru
 exact SeqAt.compareEq_reads r1 r2 h1 h2 (by omega) ⟨.bl _,H,I,rfl,q⟩
theorem op_neD(hu:X.A.units+64<cLine):OpR X (compareOp .NotEq) (rDat X λx y=>!PyData.eqv x y):=by
 intro pins s σ H v u v' u' Q I rv ru h
 obtain⟨O,x,y,rx,ry,hf,q⟩:=h
 obtain⟨h1,h2,h3⟩:=lB hf
 obtain⟨as,r1⟩:=rx.reads I h1 rv
 obtain⟨bs,r2⟩:=ry.reads I h2 ru
 exact SeqAt.compareNe_reads r1 r2 h1 h2 (by omega) ⟨.bl _,H,I,rfl,q⟩
theorem dop_eq(hu:X.A.units+64<cLine):DOp X (compareOp .Eq) oEq:=by
 refine⟨_,op_eqD hu,λO H x y d v u Q oo rx ry e k=>?_⟩
 unfold oEq at e
 by_cases hf:flat x y=true
 ·rw[if_pos hf] at e
  cases e
  exact⟨O,x,y,rx,ry,hf,k _ H (aG.refl H) (.bl _)⟩
 ·rw[if_neg hf] at e;cases e
theorem dop_ne(hu:X.A.units+64<cLine):DOp X (compareOp .NotEq) oNe:=by
 refine⟨_,op_neD hu,λO H x y d v u Q oo rx ry e k=>?_⟩
 unfold oNe at e
 by_cases hf:flat x y=true
 ·rw[if_pos hf] at e
  cases e
  exact⟨O,x,y,rx,ry,hf,k _ H (aG.refl H) (.bl _)⟩
 ·rw[if_neg hf] at e;cases e
noncomputable def oIx:D->D->Option D
 | .tuple ds,.int i=>L2.atI ds i
 | .list ds,.int i=>L2.atI ds i
 | .str z,.int i=>if aL z.length then (L2.atI z.cps.toList i).map (λc=>.str ⟨#[c]⟩) else none
 | _,_=>none
theorem pd_ix(ha:PD X G a f)(hb:PD X G b g)(hs:rH b):PD X G (.Subscript a b pos) (d2 oIx f g):=by
 obtain⟨ta,pa,ha⟩:=ha
 obtain⟨tb,pb,hb⟩:=hb
 refine⟨_,pe_ix ix_seq pa pb hs,qB (λO H x y d v u Q oo rx ry e k=>?_) ha hb⟩
 unfold oIx at e
 split at e
 ·rename_i ds i
  obtain⟨p,vs,rfl,h1,r1⟩:=rx.tup_inv
  obtain⟨w,hw,rw'⟩:=r1.atI e
  exact .inr (.inl ⟨p,vs,i,w,rfl,ry.int_inv,h1,hw,k w H (aG.refl H) rw'⟩)
 ·rename_i ds i
  obtain⟨p,vs,rfl,h1,r1⟩:=rx.lst_inv
  obtain⟨w,hw,rw'⟩:=r1.atI e
  exact .inl ⟨p,vs,i,w,rfl,ry.int_inv,h1,hw,k w H (aG.refl H) rw'⟩
 ·rename_i z i
  by_cases hz:aL z.length=true
  ·rw[if_pos hz] at e
   cases e2:L2.atI z.cps.toList i with
   | none=>rw[e2] at e;cases e
   | some c =>
    rw[e2] at e
    cases e
    exact .inr (.inr ⟨z,i,c,rx.str_inv,ry.int_inv,bz hz,e2,k _ H (aG.refl H) (.str _)⟩)
  ·rw[if_neg hz] at e;cases e
 ·cases e
end
end DL
namespace DL
open PyProof.Rows L2
section
variable{X:Cx}{G:XD->Hp->Prop}{a b c e:Expr}{es rest:List Expr}{f g h:DS->M D}{fb gb:DS->M Bool}{fa:DS->M (List D)}{pos:Pos}
def PDO(X:Cx)(G:XD->Hp->Prop)(e:Option Expr)(f:DS->M (Option Int)):Prop :=
 ∃t,PO X e t/\∀{Hr:Hp} (δ:DS) (O:List Addr) (σ:St) (H:Hp) (Q:Option Int->Hp->Prop),Ev X.K Hr O H σ δ->ok (GS G Hr) (f δ) (λd=>∀H',aG H H'->Q d H')->t σ H Q
noncomputable def ce:DS->M (Option Int):=λ_=>M.ret none
noncomputable def dW(f:DS->M D):DS->M (Option Int):=λδ=>(f δ).thn λd=>match d with
 | .int i=>M.ret (some i)
 | _=>none
theorem pdo_none:PDO X G none ce:=⟨_,po_none,λ_ _ _ H Q _ k=>k H (aG.refl H)⟩
theorem pdo_some(he:PD X G e f):PDO X G (some e) (dW f):=by
 obtain⟨t,p,he⟩:=he
 refine⟨_,po_some p,λδ O σ H Q E k=>?_⟩
 refine he δ O σ H _ E (ah (aq k) λd z v H1 s1 r=>?_)
 cases d with
 | int i=>exact⟨i,r.int_inv,z H1 s1⟩
 | _=>exact z.elim
noncomputable def lf(xs:List α)(lo hi:Option Int):List α:=(xs.drop (HT.sIx xs.length 0 lo)).take (HT.sIx xs.length xs.length hi-HT.sIx xs.length 0 lo)
theorem Reps.cut{K:ζ}{O:List Addr}{H:Hp}{xs:List V}{ds:List D}(r:Reps K O H xs ds)(lo hi:Option Int):Reps K O H (sX xs lo hi) (lf ds lo hi):=by
 unfold sX lf
 rw[r.length]
 exact(r.drop _).take _
noncomputable def oCut(lo hi:Option Int):D->Option D
 | .list ds=>some (.list (lf ds lo hi))
 | .tuple ds=>if HT.sIx ds.length 0 lo=0/\HT.sIx ds.length ds.length hi=ds.length then none else some (.tuple (lf ds lo hi))
 | _=>none
theorem pd_lst(h:PDA X G es fa):PD X G (.List es pos) (iA fa):=by
 obtain⟨_,t,p,h⟩:=h
 refine⟨_,tV p,λδ O σ H Q E k=>?_⟩
 refine h δ O σ H _ E (ah (aq k) λds z vs H1 s1 rs=>?_)
 by_cases hz:aL ds.length=true
 ·rw[if_pos hz] at z
  exact⟨by rw[rs.length];exact bz hz,λp hp=>z _ _ (s1.trans (ba hp)) (g9 (E.same s1).oo hp rs)⟩
 ·rw[if_neg hz] at z
  exact z.elim
def eJ(X:Cx)(fn:Value)(h:List D->Option D):Prop :=
 ∃r,fN X fn r/\∀(O:List Addr) (H:Hp) (ds:List D) (d:D) (vs:List V) (Q:VK),(∀l∈O,Mu H l)->Reps X.K O H vs ds->h ds=some d->(∀v' H',aG H H'->Rep X.K O H' v' d->Q v' H')->r vs H Q
noncomputable def dCB(h:List D->Option D)(fa:DS->M (List D)):DS->M D:=λδ=>(fa δ).thn λds=>M.lift (h ds)
theorem hJ{x:Str}{p:Pos}{id:String}{h:List D->Option D}(hc:eJ X (.builtin id) h)(hg:Gl X x)(hm:X.mg x=none)(hv:bootBuiltins x=some (.builtin id))(ha:PDA X G (e::es) fa)(hn:x ≠ "__name__" := by decide)(hdb:(x==("__debug__" : Str))=false:=by decide)
  (he:starEach (e::es) X.env=(false,eval e X.env)::starEach es X.env:=by rfl) (hpl:(backTo pos (starEach es X.env)).any (·.1)=false:=by rfl):PD X G (.Call (.Name x p) (e::es) [] pos) (dCB h fa):=by
 obtain⟨r,hr,hc⟩:=hc
 obtain⟨_,t,pa,ha⟩:=ha
 refine⟨_,sj hr hg hm hv pa hn hdb he hpl,λδ O σ H Q E k=>?_⟩
 refine ha δ O σ H _ E (ah (aq k) λds z vs H1 s1 rs=>?_)
 obtain⟨d,hd,z⟩:=cy z
 exact hc O H1 ds d vs Q (E.same s1).oo rs hd λv' H2 s2 r2=>z v' H2 (s1.trans s2) r2
theorem wt{x:Str}{p:Pos}{id:String}{h:List D->Option D}(hc:eJ X (.type id) h)(hg:Gl X x)(hm:X.mg x=none)(hv:bootBuiltins x=some (.type id))(ha:PDA X G (e::es) fa)(hn:x ≠ "__name__" := by decide)(hdb:(x==("__debug__" : Str))=false:=by decide)
  (he:starEach (e::es) X.env=(false,eval e X.env)::starEach es X.env:=by rfl) (hpl:(backTo pos (starEach es X.env)).any (·.1)=false:=by rfl):PD X G (.Call (.Name x p) (e::es) [] pos) (dCB h fa):=by
 obtain⟨r,hr,hc⟩:=hc
 obtain⟨_,t,pa,ha⟩:=ha
 refine⟨_,pI hr hg hm hv pa hn hdb he hpl,λδ O σ H Q E k=>?_⟩
 refine ha δ O σ H _ E (ah (aq k) λds z vs H1 s1 rs=>?_)
 obtain⟨d,hd,z⟩:=cy z
 exact hc O H1 ds d vs Q (E.same s1).oo rs hd λv' H2 s2 r2=>z v' H2 (s1.trans s2) r2
theorem fK{K:ζ}{O:List Addr}{H:Hp}{vs:List V}{d:D}(r:Reps K O H vs [d]):∃v,vs=[v]/\Rep K O H v d:=by
 cases r with
 | cons r rs=>cases rs;exact⟨_,rfl,r⟩
theorem uW{K:ζ}{O:List Addr}{H:Hp}{vs:List V}{d d':D}(r:Reps K O H vs [d,d']):∃v v',vs=[v,v']/\Rep K O H v d/\Rep K O H v' d':=by
 cases r with
 | cons r rs =>
  obtain⟨v',rfl,r'⟩:=fK rs
  exact⟨_,_,rfl,r,r'⟩
noncomputable def cV:List D->Option D
 | [.list ds]=>some (.int ds.length)
 | [.tuple ds]=>some (.int ds.length)
 | [.str z]=>if aL z.length then some (.int z.length) else none
 | _=>none
theorem wU:eJ X (.builtin "len") cV:=by
 refine⟨_,rq.or rf,λO H ds d vs Q oo rs e k=>?_⟩
 unfold cV at e
 split at e
 ·rename_i es
  cases e
  obtain⟨v,rfl,r⟩:=fK rs
  obtain⟨p,xs,rfl,h1,rx⟩:=r.lst_inv
  refine .inl ⟨p,xs,rfl,.inl h1,k _ H (aG.refl H) ?_⟩
  rw[rx.length]
  exact .int _
 ·rename_i es
  cases e
  obtain⟨v,rfl,r⟩:=fK rs
  obtain⟨p,xs,rfl,h1,rx⟩:=r.tup_inv
  refine .inl ⟨p,xs,rfl,.inr h1,k _ H (aG.refl H) ?_⟩
  rw[rx.length]
  exact .int _
 ·rename_i z
  by_cases hz:aL z.length=true
  ·rw[if_pos hz] at e
   cases e
   obtain⟨v,rfl,r⟩:=fK rs
   refine .inr ⟨z,by rw[r.str_inv],bz hz,k _ H (aG.refl H) (.int _)⟩
  ·rw[if_neg hz] at e;cases e
 ·cases e
noncomputable def oMin:List D->Option D
 | [.int i,.int j]=>some (.int (min i j))
 | _=>none
noncomputable def wy:List D->Option D
 | [.int i,.int j]=>some (.int (max i j))
 | _=>none
theorem wS(hc:X.calm=true):eJ X (.builtin "min") oMin:=by
 refine⟨_,w6 hc,λO H ds d vs Q oo rs e k=>?_⟩
 unfold oMin at e
 split at e
 ·rename_i i j
  cases e
  obtain⟨v,v',rfl,r,r'⟩:=uW rs
  refine⟨i,j,by rw[r.int_inv,r'.int_inv],k _ H (aG.refl H) ?_⟩
  have:(if j<i then j else i)=min i j:=by
   rcases Int.lt_or_le j i with h | h
   ·rw[if_pos h];omega
   ·rw[if_neg (by omega)];omega
  rw[this]
  exact .int _
 ·cases e
theorem wT(hc:X.calm=true):eJ X (.builtin "max") wy:=by
 refine⟨_,w8 hc,λO H ds d vs Q oo rs e k=>?_⟩
 unfold wy at e
 split at e
 ·rename_i i j
  cases e
  obtain⟨v,v',rfl,r,r'⟩:=uW rs
  refine⟨i,j,by rw[r.int_inv,r'.int_inv],k _ H (aG.refl H) ?_⟩
  have:(if j > i then j else i)=max i j:=by
   rcases Int.lt_or_le i j with h | h
   ·rw[if_pos h];omega
   ·rw[if_neg (by omega)];omega
  rw[this]
  exact .int _
 ·cases e
noncomputable def f6:List D->Option D
 | [.list ds]=>some (.list ds)
 | [.tuple ds]=>some (.list ds)
 | _=>none
theorem ut:eJ X (.type "list") f6:=by
 refine⟨_,lK,λO H ds d vs Q oo rs e k=>?_⟩
 unfold f6 at e
 split at e
 ·cases e
  obtain⟨v,rfl,r⟩:=fK rs
  obtain⟨p,xs,rfl,h1,rx⟩:=r.lst_inv
  exact⟨p,xs,rfl,.inl h1,λl hl=>k _ _ (ba hl) (g9 oo hl rx)⟩
 ·cases e
  obtain⟨v,rfl,r⟩:=fK rs
  obtain⟨p,xs,rfl,h1,rx⟩:=r.tup_inv
  exact⟨p,xs,rfl,.inr h1,λl hl=>k _ _ (ba hl) (g9 oo hl rx)⟩
 ·cases e
noncomputable def tyD:D->String
 | .none => "NoneType"
 | .bool _ => "bool"
 | .int _ => "int"
 | .str _ => "str"
 | .list _ => "list"
 | .tuple _ => "tuple"
 | .dict _ => "dict"
noncomputable def isD(T:String)(d:D):Bool:=tyD d==T||(T == "int" && tyD d == "bool")
def ki(K:ζ)(T:String):Prop:=∀d:D,PySem.W.kitOne K (.type (tyD d)) (.type T)=some (isD T d)
theorem kit_int(K:ζ):ki K "int" := λd=>by cases d<;>kernel_rfl
theorem kit_bool(K:ζ):ki K "bool" := λd=>by cases d<;>kernel_rfl
theorem kit_list(K:ζ):ki K "list" := λd=>by cases d<;>kernel_rfl
theorem tj(hk:ki X.K T):fN X (.builtin "isinstance") (λxs H Q=>∃v O d,xs=[v,.ty T]/\Rep X.K O H v d/\sA d=true/\Q (.bl (isD T d)) H):=by
 intro pins s σ H xs us Q I r h
 obtain⟨v,O,d,rfl,rd,hi,q⟩:=h
 obtain⟨u,w',rfl,r1,r2⟩:=xk r
 cases (show w'=Value.type T from r2)
 have fin:∀tk,EP X pins σ Q (.bool (isD T d)) { s with toks:=tk }:=λtk=>⟨.bl _,H,I.tok _,rfl,q⟩
 have e:=hk d
 cases rd with
 | non=>cases (show u=Value.none from r1);exact U0 PySem.W.kitx_none I.kIn True.intro e (λz=>nomatch z) fin
 | bl y=>cases (show u=Value.bool y from r1);exact U0 PySem.W.kitx_bool I.kIn True.intro e (λz=>nomatch z) fin
 | int i=>obtain⟨t,q⟩:=(show ∃t,u=Value.int i t from r1);cases q;exact U0 PySem.W.kitx_int I.kIn True.intro e (λz=>nomatch z) fin
 | str y=>obtain⟨t,q⟩:=(show ∃t,u=Value.str y t from r1);cases q;exact U0 PySem.W.kitx_str I.kIn True.intro e (λz=>nomatch z) fin
 | @tup a ys ds h rr =>
  cases (show u=Value.ref a from r1)
  obtain⟨its,rv,⟨o,h1,h2,_⟩,_⟩:=I.tuple h
  exact U0 PySem.W.kitx_tuple I.kIn ⟨o,h1,h2⟩ e (λz=>nomatch z) fin
 | @lst a ys ds h n rr =>
  cases (show u=Value.ref a from r1)
  obtain⟨its,rv,⟨o,n,h1,h2,_⟩,_⟩:=I.list (.inl h)
  exact U0 PySem.W.kitx_list I.kIn ⟨o,h1,h2⟩ e (λz=>nomatch z) fin
 | @lstK a ys ds h rr =>
  cases (show u=Value.ref a from r1)
  obtain⟨its,rv,⟨o,n,h1,h2,_⟩,_⟩:=I.list (.inr h)
  exact U0 PySem.W.kitx_list I.kIn ⟨o,h1,h2⟩ e (λz=>nomatch z) fin
 | @dct a kvs es h n hk rr =>
  cases (show u=Value.ref a from r1)
  obtain⟨_,_,_,_,o,_,_,h1,h2,_⟩:=h.ok I.hok
  exact U0 PySem.W.kitx_dict I.kIn ⟨o,h1,h2.1⟩ e (λz=>nomatch z) fin
 | ins hN h n hk rr=>cases hi
noncomputable def dIs(T:String)(f:DS->M D):DS->M D:=λδ=>(f δ).thn λd=>if sA d=true then M.ret (.bool (isD T d)) else none
theorem wq(hx:x = "isinstance")(hk:ki X.K T)(hg:Gl X x)(hm:X.mg x=none)(hg2:Gl X y)(hm2:X.mg y=none)(hb2:bootBuiltins y=some (.type T))(he:PD X G e f)
  (hn2:y ≠ "__name__" := by decide) (hd2:(y==("__debug__" : Str))=false:=by decide)
  (hs1:starEach [e,.Name y p2] X.env=(false,eval e X.env)::starEach [.Name y p2] X.env:=by rfl) (hs2:starEach [.Name y p2] X.env=(false,eval (.Name y p2) X.env)::starEach [] X.env:=by rfl)
  (hpl:(backTo pos (starEach [.Name y p2] X.env)).any (·.1)=false:=by rfl):PD X G (.Call (.Name x p) [e,.Name y p2] [] pos) (dIs T f):=by
 subst hx
 obtain⟨t,pe,he⟩:=he
 refine⟨_,sj (tj hk) hg hm boot_isinstance (gG pe (gG (pe_bltn (v:=.ty T) hg2 hm2 hb2 rfl hn2 hd2) jS hs2) hs1) (by decide) (by decide) hs1 hpl,λδ O σ H Q E k=>?_⟩
 refine he δ O σ H _ E (ah (aq k) λd z v H1 s1 r=>?_)
 by_cases hi:sA d=true
 ·rw[if_pos hi] at z
  exact⟨v,O,d,rfl,r,hi,z _ H1 s1 (.bl _)⟩
 ·rw[if_neg hi] at z
  exact z.elim
end
end DL
namespace DL
open PyProof.Rows L2
noncomputable def d1(h:D->Option D)(f:DS->M D):DS->M D:=λδ=>(f δ).thn λx=>M.lift (h x)
noncomputable def mR:D->Option D
 | .int i=>some (.int (-i))
 | _=>none
theorem pd_neg(ha:PD X G a f):PD X G (.UnaryOp .USub a pos) (d1 mR f):=by
 obtain⟨t,p,ha⟩:=ha
 refine⟨_,pe_un un_neg p,λδ O σ H Q E k=>?_⟩
 refine ha δ O σ H _ E (ah (aq k) λd z v H1 s1 r=>?_)
 obtain⟨y,hy,z⟩:=cy z
 cases d with
 | int i=>cases hy;exact⟨i,r.int_inv,z _ H1 s1 (.int _)⟩
 | _=>cases hy
inductive Out where
 | nx (δ:DS)
 | rt (d:D)
 | bk (δ:DS)
 | ct (δ:DS)
structure EI(K:ζ)(Hr:Hp)(R0:List Addr)(P0:Addr->Prop)(H0:Hp)(O:List Addr)(H:Hp)(σ:St)(δ:DS):Prop where
 ev:Ev K Hr O H σ δ
 omr:∀l∈O,l∈R0\/Hr l=none
 keep:∀b o,¬P0 b->H0 b=some o->H b=some o
 om:∀l∈O,l∈R0\/P0 l\/H0 l=none
 nr1:∀(i:Nat) (s:Sl) (l:Addr),δ[i]?=some s->s.own->σ[i]?=some (some (.ref l))->l∉R0
 sub:∀l∈R0,l∈O
theorem EI.nr{K:ζ}{Hr:Hp}{R0:List Addr}{P0:Addr->Prop}{H0:Hp}{O:List Addr}{H:Hp}{σ:St}{δ:DS}(E:EI K Hr R0 P0 H0 O H σ δ):∀(i:Nat) (ds:List D) (l:Addr),δ[i]?=some (.ow ds)->σ[i]?=some (some (.ref l))->l∉R0:=λi ds l h1 h2=>E.nr1 i _ l h1 trivial h2
def Fin(K:ζ)(Hr:Hp)(R0:List Addr)(P0:Addr->Prop)(H0:Hp)(Dn:Ends):Out->Prop
 | .nx δ=>∀O σ H,EI K Hr R0 P0 H0 O H σ δ->Dn.nx σ H
 | .rt d=>∀v H,(∀b o,¬P0 b->H0 b=some o->H b=some o)->Rep K R0 H v d->Dn.rt v H
 | .bk δ=>∀O σ H,EI K Hr R0 P0 H0 O H σ δ->Dn.bk σ H
 | .ct δ=>∀O σ H,EI K Hr R0 P0 H0 O H σ δ->Dn.ct σ H
def PDS(X:Cx)(G:XD->Hp->Prop)(st:Stmt)(g:DS->M Out):Prop :=
 ∃t,PS X st t/\∀{Hr:Hp} (R0:List Addr) (P0:Addr->Prop) (H0:Hp) (δ:DS) (O:List Addr) (σ:St) (H:Hp) (Dn:Ends),EI X.K Hr R0 P0 H0 O H σ δ->ok (GS G Hr) (g δ) (Fin X.K Hr R0 P0 H0 Dn)->t Dn σ H
def kg(X:Cx)(G:XD->Hp->Prop)(st:List Stmt)(g:DS->M Out):Prop :=
 ∃t,PSs X st t/\∀{Hr:Hp} (R0:List Addr) (P0:Addr->Prop) (H0:Hp) (δ:DS) (O:List Addr) (σ:St) (H:Hp) (Dn:Ends),EI X.K Hr R0 P0 H0 O H σ δ->ok (GS G Hr) (g δ) (Fin X.K Hr R0 P0 H0 Dn)->t Dn σ H
section
variable{X:Cx}{G:XD->Hp->Prop}{a b c e:Expr}{es rest:List Expr}{f g h:DS->M D}{fb gb:DS->M Bool}{fa:DS->M (List D)}{pos:Pos}{st:Stmt}{sts st1 st2:List Stmt}{gs gt gu:DS->M Out}
variable{K:ζ}{Hr:Hp}{R0:List Addr}{P0:Addr->Prop}{H0 H H':Hp}{O:List Addr}{σ:St}{δ:DS}
theorem EI.same(E:EI K Hr R0 P0 H0 O H σ δ)(s:aG H H'):EI K Hr R0 P0 H0 O H' σ δ:=⟨E.ev.same s,E.omr,λb o n h=>s _ _ (E.keep b o n h),E.om,E.nr1,E.sub⟩
theorem EI.set{i:Nat}{v:V}{d:D}(E:EI K Hr R0 P0 H0 O H σ δ)(r:Rep K O H v d):EI K Hr R0 P0 H0 O H (σ.set i (some v)) (δ.set i (.vl d)):=by
 refine⟨E.ev.set r,E.omr,E.keep,E.om,λj ds l h1 ho h2=>?_,E.sub⟩
 rw[bB] at h1 h2
 by_cases hij:i=j
 ·rw[if_pos hij] at h1
  split at h1
  ·cases h1;exact ho.elim
  ·cases h1
 ·rw[if_neg hij] at h1 h2
  exact E.nr1 j ds l h1 ho h2
theorem EI.less(E:EI K Hr R0 P0 H0 O H σ δ){v:V}{d:D}(r:Rep K O H v d):Rep K R0 H v d:=r.to (.less E.sub)
noncomputable def cA:DS->M Out:=λδ=>M.ret (.nx δ)
noncomputable def aM(g h:DS->M Out):DS->M Out:=λδ=>(g δ).thn λo=>match o with
 | .nx δ'=>h δ'
 | o=>M.ret o
theorem qA:kg X G [] cA:=⟨_,uZ,λR0 P0 H0 δ O σ H Dn E k=>k O σ H E⟩
theorem gE(h1:PDS X G st gs):kg X G [st] gs:=by
 obtain⟨t,p,h1⟩:=h1
 exact⟨_,qw p,h1⟩
theorem d6(h1:PDS X G st gs)(h2:kg X G sts gt):kg X G (st::sts) (aM gs gt):=by
 obtain⟨t,p,h1⟩:=h1
 obtain⟨u,q,h2⟩:=h2
 refine⟨_,nR p q,λR0 P0 H0 δ O σ H Dn E k=>?_⟩
 refine h1 R0 P0 H0 δ O σ H _ E (ah (aq k) λo z=>?_)
 cases o with
 | nx δ'=>exact λO' σ' H' E'=>h2 R0 P0 H0 δ' O' σ' H' Dn E' z
 | rt d=>exact z
 | bk δ'=>exact z
 | ct δ'=>exact z
noncomputable def bW(f:DS->M D):DS->M Out:=λδ=>(f δ).thn λd=>M.ret (.rt d)
theorem ji(he:PD X G e f):PDS X G (.Return (some e) pos) (bW f):=by
 obtain⟨t,p,he⟩:=he
 refine⟨_,lV p,λR0 P0 H0 δ O σ H Dn E k=>?_⟩
 exact he δ O σ H _ E.ev (ah (aq k) λd z v H1 s1 r=>z v H1 (λb o n q=>s1 _ _ (E.keep b o n q)) ((E.same s1).less r))
noncomputable def gIf(c:DS->M Bool)(g h:DS->M Out):DS->M Out:=λδ=>(c δ).thn λb=>if b=true then g δ else h δ
theorem tX(hc:PDT X G c fb)(h1:kg X G st1 gs)(h2:kg X G st2 gt):PDS X G (.If c st1 st2 pos) (gIf fb gs gt):=by
 obtain⟨t,p,hc⟩:=hc
 obtain⟨u,q,h1⟩:=h1
 obtain⟨w,r,h2⟩:=h2
 refine⟨_,ps_if p q r,λR0 P0 H0 δ O σ H Dn E k=>?_⟩
 refine hc δ O σ H _ E.ev (ah (aq k) λd z H1 s1=>?_)
 cases d with
 | true =>
  rw[if_pos rfl] at z ⊢
  exact h1 R0 P0 H0 δ O σ H1 Dn (E.same s1) z
 | false =>
  rw[if_neg ω] at z ⊢
  exact h2 R0 P0 H0 δ O σ H1 Dn (E.same s1) z
def PDG(X:Cx)(target:Expr)(g:D->DS->Option DS):Prop :=
 ∃t,PG X target t/\∀{Hr:Hp} (R0:List Addr) (P0:Addr->Prop) (H0:Hp) (δ δ':DS) (d:D) (v:V) (O:List Addr) (σ:St) (H:Hp) (Q:St->Hp->Prop),EI X.K Hr R0 P0 H0 O H σ δ->Rep X.K O H v d->g d δ=some δ' ->
  (∀σ' H',EI X.K Hr R0 P0 H0 O H' σ' δ'->aG H H'->Q σ' H')->t v σ H Q
def uF(X:Cx)(ts:List Expr)(g:List D->DS->Option DS):Prop :=
 ∃t,PGs X ts t/\∀{Hr:Hp} (R0:List Addr) (P0:Addr->Prop) (H0:Hp) (δ δ':DS) (ds:List D) (vs:List V) (O:List Addr) (σ:St) (H:Hp) (Q:St->Hp->Prop),EI X.K Hr R0 P0 H0 O H σ δ->Reps X.K O H vs ds->g ds δ=some δ' ->
  (∀σ' H',EI X.K Hr R0 P0 H0 O H' σ' δ'->aG H H'->Q σ' H')->t vs σ H Q
noncomputable def tgN(i:Nat):D->DS->Option DS:=λd δ=>some (δ.set i (.vl d))
theorem be(h:PG X e (vB i)):PDG X e (tgN i):=by
 refine⟨_,h,λR0 P0 H0 δ δ' d v O σ H Q E r e k=>?_⟩
 cases e
 exact k _ H (E.set r) (aG.refl H)
noncomputable def dS:List D->DS->Option DS:=λds δ=>match ds with
 | []=>some δ
 | _=>none
noncomputable def aU(t:D->DS->Option DS)(u:List D->DS->Option DS):List D->DS->Option DS:=λds δ=>match ds with
 | d::r=>(t d δ).bind (u r)
 | []=>none
theorem jR:uF X [] dS:=by
 refine⟨_,u9,λR0 P0 H0 δ δ' ds vs O σ H Q E r e k=>?_⟩
 cases ds with
 | nil=>cases r;cases e;exact⟨rfl,k σ H E (aG.refl H)⟩
 | cons d ds=>cases e
theorem dJ(h1:PDG X e t)(h2:uF X es u)
  (hs:(assignEach (e::es) X.env).map (·.2)=assign e X.env::(assignEach es X.env).map (·.2):=by rfl):uF X (e::es) (aU t u):=by
 obtain⟨t1,p1,h1⟩:=h1
 obtain⟨t2,p2,h2⟩:=h2
 refine⟨_,se p1 p2 hs,λR0 P0 H0 δ δ' ds vs O σ H Q E r e k=>?_⟩
 cases ds with
 | nil=>cases e
 | cons d ds =>
  cases r with
  | @cons v _ vs _ r rs =>
   have e:(t d δ).bind (u ds)=some δ':=e
   cases e1:t d δ with
   | none=>rw[e1] at e;cases e
   | some δ1 =>
    rw[e1] at e
    refine⟨v,vs,rfl,h1 R0 P0 H0 δ δ1 d v O σ H _ E r e1 λσ1 H1 E1 s1=>?_⟩
    exact h2 R0 P0 H0 δ1 δ' ds vs O σ1 H1 Q E1 (rs.same s1) e λσ2 H2 E2 s2=>k σ2 H2 E2 (s1.trans s2)
noncomputable def dR(n:Nat)(u:List D->DS->Option DS):D->DS->Option DS:=λd δ=>match d with
 | .tuple ds=>if ds.length=n then u ds δ else none
 | _=>none
theorem lr(hc:X.calm=true)(h:uF X es u)
  (hn:(assignEach es X.env).length=n:=by rfl) (hst:(assignEach es X.env).findIdx? (·.1)=none:=by rfl):PDG X (.Tuple es k pos) (dR n u):=by
 obtain⟨t,p,h⟩:=h
 refine⟨_,xV hc p hn hst,λR0 P0 H0 δ δ' d v O σ H Q E r e k=>?_⟩
 cases d with
 | tuple ds =>
  have e:(if ds.length=n then u ds δ else none)=some δ':=e
  by_cases hl:ds.length=n
  ·rw[if_pos hl] at e
   obtain⟨a,xs,rfl,h1,rs⟩:=r.tup_inv
   exact⟨a,xs,rfl,h1,by rw[rs.length];exact hl,h R0 P0 H0 δ δ' ds xs O σ H Q E rs e k⟩
  ·rw[if_neg hl] at e;cases e
 | _=>cases e
noncomputable def cv(f:DS->M D)(g:D->DS->Option DS):DS->M Out:=λδ=>(f δ).thn λd=>(M.lift (g d δ)).thn λδ'=>M.ret (.nx δ')
theorem pd_asg{tg:Expr}{g:D->DS->Option DS}(he:PD X G e f)(hg:PDG X tg g)(hs:swapsWithSole [tg] e pos.line X.env=pure false:=by rfl)(hw:swappedStores [tg] e X.env=pure none:=by rfl)
  (h1:(assignEach [tg] X.env).map (·.2)=[assign tg X.env]:=by rfl):PDS X G (.Assign [tg] e pos) (cv f g):=by
 obtain⟨t,p,he⟩:=he
 obtain⟨u,q,hg⟩:=hg
 refine⟨_,qy p q hs hw h1,λR0 P0 H0 δ O σ H Dn E k=>?_⟩
 refine he δ O σ H _ E.ev (ah (aq k) λd z v H1 s1 r=>?_)
 obtain⟨δ',hd,z⟩:=cy (aq z)
 exact hg R0 P0 H0 δ δ' d v O σ H1 _ (E.same s1) r hd λσ' H' E' _=>z O σ' H' E'
theorem pd_set(hN:X.N.Nodup)(hi:X.N[i]?=some x)(hx:Loc X.env.scope x)(he:PD X G e f)(hs:swapsWith e (some (.Name x pos')) pos.line X.env=pure false:=by rfl)(hf:X.fn x=true\/X.env.scope.names.lookup x=some .local:=by first | exact .inl rfl | exact .inr rfl | assumption) :
  PDS X G (.Assign [.Name x pos'] e pos) (cv f (tgN i)):=by
 obtain⟨t,p,he⟩:=he
 refine⟨_,qx hN hi hx p hs hf,λR0 P0 H0 δ O σ H Dn E k=>?_⟩
 refine he δ O σ H _ E.ev (ah (aq k) λd z v H1 s1 r=>?_)
 obtain⟨δ',hd,z⟩:=cy (aq z)
 cases hd
 exact z O _ H1 ((E.same s1).set r)
noncomputable def im(body:D->DS->M Out):List D->DS->M Out
 | [],δ=>M.ret (.nx δ)
 | x::xs,δ=>(body x δ).thn λo=>match o with
  | .nx δ'=>im body xs δ'
  | .ct δ'=>im body xs δ'
  | .bk δ'=>M.ret (.nx δ')
  | .rt d=>M.ret (.rt d)
noncomputable def cn(t:D->DS->Option DS)(g:DS->M Out):D->DS->M Out:=λd δ=>(M.lift (t d δ)).thn g
noncomputable def seqD:D->Option (List D)
 | .list ds=>some ds
 | .tuple ds=>some ds
 | _=>none
noncomputable def iSeq(K:ζ)(tl:TE):TI:=λσ H R=>tl σ H λx H1=>∃a,x=.ref a/\(((∃xs,SqL K H1 a xs)/\R (Itl K a) H1)\/((∃xs,SqT K H1 a xs)/\R (Itt K a) H1))
theorem pi_seq(hl:PE X l tl):PI X tg l (iSeq X.K tl):=by
 intro pins s σ H R I h
 refine thn (hl pins s σ H _ I h) λv s1 ⟨x,H1,I1,r1,q1⟩=>?_
 obtain⟨a,e,q⟩:=q1
 subst e
 cases r1
 rcases q with ⟨⟨xs,hq⟩,q⟩ | ⟨⟨xs,hq⟩,q⟩
 ·obtain⟨its,rv,p,hz⟩:=I1.list hq
  refine wpAny_pyIter_list p.isList ?_
  refine⟨s1.heap.objs.size,[s1.heap.objs.size],_,_,H1,rfl,I1.kept (t':=s1.toks) λb o e=>Heap.get?_push_of_some _ e,px a _,⟨_,Heap.get?_push_size _ rfl,rfl,rfl⟩,λb hb=>?_,q⟩
  have e:b=s1.heap.objs.size:=by simpa using hb
  subst e
  exact I1.fpOk (υ _) (I1.hok.fresh (υ _))
 ·obtain⟨its,rv,p,hz⟩:=I1.tuple hq
  refine wpAny_pyIter_tuple (show s1.heap.IsTuple a its.toArray from p) ?_
  refine⟨s1.heap.objs.size,[s1.heap.objs.size],_,_,H1,rfl,I1.kept (t':=s1.toks) λb o e=>Heap.get?_push_of_some _ e,tH a _,⟨_,Heap.get?_push_size _ rfl,rfl,rfl⟩,λb hb=>?_,q⟩
  have e:b=s1.heap.objs.size:=by simpa using hb
  subst e
  exact I1.fpOk (υ _) (I1.hok.fresh (υ _))
def Ch(O R0:List Addr)(l:Addr):Prop:=l∈O/\l∉R0
theorem EI.noCh(E:EI K Hr R0 P0 H0 O H σ δ){b:Addr}{o:HO}(n:¬P0 b)(h:H0 b=some o):¬Ch O R0 b:=λ⟨z1,z2⟩=>by
 rcases E.om b z1 with q | q | q
 ·exact z2 q
 ·exact n q
 ·rw[h] at q;cases q
theorem EI.inner(E:EI K Hr R0 P0 H0 O H σ δ):EI K Hr R0 (Ch O R0) H O H σ δ :=
 ⟨E.ev,E.omr,λb o _ h=>h,λl hl=>(Classical.em (l∈R0)).elim .inl λn=>.inr (.inl ⟨hl,n⟩),E.nr1,E.sub⟩
theorem EI.outer{O1:List Addr}{H1:Hp}{σ1:St}{δ1:DS}(E:EI K Hr R0 P0 H0 O H σ δ)(E1:EI K Hr R0 (Ch O R0) H O1 H1 σ1 δ1):EI K Hr R0 P0 H0 O1 H1 σ1 δ1:=by
 refine⟨E1.ev,E1.omr,λb o n h=>E1.keep b o (E.noCh n h) (E.keep b o n h),λl hl=>?_,E1.nr1,E1.sub⟩
 rcases E1.om l hl with q | q | q
 ·exact .inl q
 ·exact E.om l q.1
 ·refine .inr ?_
  by_cases hp:P0 l
  ·exact .inl hp
  ·cases e:H0 l with
   | none=>exact .inr rfl
   | some o =>
    rw[E.keep l o hp e] at q
    cases q
theorem Fin.outer{Dn:Ends}(E:EI K Hr R0 P0 H0 O H σ δ){o:Out}(h:Fin K Hr R0 P0 H0 Dn o):Fin K Hr R0 (Ch O R0) H Dn o:=by
 cases o with
 | nx δ1=>exact λO1 σ1 H1 E1=>h O1 σ1 H1 (E.outer E1)
 | bk δ1=>exact λO1 σ1 H1 E1=>h O1 σ1 H1 (E.outer E1)
 | ct δ1=>exact λO1 σ1 H1 E1=>h O1 σ1 H1 (E.outer E1)
 | rt d=>exact λv H1 kp r=>h v H1 (λb o n q=>kp b o (E.noCh n q) (E.keep b o n q)) r
theorem EI.to{O1:List Addr}{H1:Hp}{σ1:St}{δ1:DS}(E:EI K Hr R0 P0 H0 O H σ δ)(E1:EI K Hr R0 (Ch O R0) H O1 H1 σ1 δ1):To O O1 H H1:=by
 have nt:∀{b:Addr} {o:HO},(∀xs,o≠.lst xs)->(∀xs,o≠.dK xs)->(∀C dx fs,o≠.ins C dx fs)->H b=some o->¬Ch O R0 b:=λ{b o} ho ho2 ho3 h z=>by
  rcases E.ev.oo b z.1 with ⟨ys,hl⟩ | ⟨ys,hl⟩ | ⟨C,dx,fs,hl⟩
  ·rw[h] at hl
   exact ho _ (Option.some.inj hl)
  ·rw[h] at hl
   exact ho2 _ (Option.some.inj hl)
  ·rw[h] at hl
   exact ho3 _ _ _ (Option.some.inj hl)
 have kp:∀{b:Addr} {o:HO},b∉O->Rd H b o->b∉O1/\Rd H1 b o:=λ{b o} n h=>by
  refine⟨λz=>?_,?_⟩
  ·rcases E1.om b z with q | q | q
   ·exact n (E.sub b q)
   ·exact n q.1
   ·rcases h with h | ⟨u,h⟩
    ·rw[h] at q;cases q
    ·rw[h] at q;cases q
  ·rcases h with h | ⟨u,h⟩
   ·exact .inl (E1.keep _ _ (λz=>n z.1) h)
   ·exact .inr ⟨u,E1.keep _ _ (λz=>n z.1) h⟩
 refine⟨λb xs h=>?_,λb xs n h=>kp n h,λb xs n h=>kp n h,λb C dx fs n h=>⟨(kp n (.inl h)).1,E1.keep _ _ (λz=>n z.1) h⟩⟩
 ·rcases h with h | ⟨u,h⟩
  ·exact .inl (E1.keep _ _ (nt (λ_ z=>by cases z) (λ_ z=>by cases z) (λ_ _ _ z=>by cases z) h) h)
  ·exact .inr ⟨u,E1.keep _ _ (nt (λ_ z=>by cases z) (λ_ z=>by cases z) (λ_ _ _ z=>by cases z) h) h⟩
theorem iu{ds:List D}{i:Nat}{d:D}(h:ds[i]?=some d):ds.drop i=d::ds.drop (i+1):=by
 obtain⟨hl,e⟩:=ς.mp h
 rw[List.drop_eq_getElem_cons hl,e]
noncomputable def b6(lo:Int)(n:Nat):List D:=(Z3 n).map λ(i:Nat)=>ε (lo+(i:Int))
noncomputable def b62(j:Int):Bool:=decide (-4611686018427387904<=j/\j<4611686018427387904)
noncomputable def gY:List D->Option (List D)
 | [.int j]=>if b62 j=true then some (b6 0 j.toNat) else none
 | _=>none
noncomputable def wa:List D->Option (List D)
 | [.int i,.int j]=>if (b62 i&&b62 j)=true then some (b6 i (j-i).toNat) else none
 | _=>none
theorem rF(h:b62 j=true) : -(2 ^ 62)<=j/\j<2 ^ 62:=by
 have e62:(2:Int) ^ 62=4611686018427387904:=by decide
 rw[e62]
 exact of_decide_eq_true h
end
noncomputable def spD(K:ζ)(n:Nat)(F:List D->M D):Sp:=λvs H Q _=>∃O ds,vs.length=n/\(∀l∈O,Mu H l)/\Reps K O H vs ds/\ok (λ_=>False) (F ds) (λd=>∀v H',aG H H'->Rep K O H' v d->Q v H')
structure Def(P:Program)(w:World)(K:ζ)(mg:Str->Option Value)(base:Heap)(k:Nat)(x:Str)(n:Nat)(F:List D->M D):Prop where
 ex:∃(f:Addr) (fd:FuncData) (ps:List Str),FnOk P w K mg base CX0 k f fd ps (spD K n F)/\mg x=some (.ref f)/\V7 K (.ref f)=true/\gr K fd ps []
noncomputable def aI(F:List D->M D)(fa:DS->M (List D)):DS->M D:=λδ=>(fa δ).thn F
section
theorem nY(h:ok (λ_=>False) r k):ok G r k:=by
 match r,h with
 | some (.ok a),h=>exact h
noncomputable def noX{α:Type}(r:M α):M α:=match r with
 | some (.error _)=>none
 | r=>r
theorem nW(h:ok G (noX r) k):ok (λ_=>False) r k:=by
 match r,h with
 | some (.ok a),h=>exact h
theorem pd_call(h:Def X.prog X.w X.K X.mg X.base k x n F)(hr:Room k X.A)(hg:Gl X x)(hn:(e::es).length=n)(ha:PDA X G (e::es) fa)
  (hdb:(x==("__debug__" : Str))=false:=by decide) (he:starEach (e::es) X.env=(false,eval e X.env)::starEach es X.env:=by rfl) (hpl:(backTo pos (starEach es X.env)).any (·.1)=false:=by rfl) :
  PD X G (.Call (.Name x p) (e::es) [] pos) (aI (λds=>noX (F ds)) fa):=by
 obtain⟨f,fd,ps,F1,hm,hk,hb⟩:=h.ex
 obtain⟨hl,t,pa,ha⟩:=ha
 refine⟨_,vb F1 hr hg hm hk hb .nil mx pa hdb he hpl,λδ O σ H Q E k=>?_⟩
 have k1:=aq k
 refine ha δ O σ H _ E ?_
 cases e1:fa δ with
 | none=>rw[e1] at k1;exact k1.elim
 | some r =>
  rw[e1] at k1
  cases r with
  | error x=>exact k1
  | ok ds =>
   refine λvs H1 s1 rs=>?_
   refine⟨O,ds,?_,(E.same s1).oo,?_,ah (nW k1) λd z v H2 s2 r=>z v H2 (s1.trans s2) r⟩
   ·rw[Z4,rs.length,hl δ ds e1]
    exact hn
   ·rw[Z4]
    exact rs
end
noncomputable def iM(n:Nat)(ds:List D):DS:=ds.map Sl.vl++ρ (n-ds.length) Sl.un
noncomputable def endD(o:Out):M D:=match o with
 | .rt d=>M.ret d
 | .nx _=>M.ret .none
 | _=>none
noncomputable def run(n:Nat)(g:DS->M Out)(ds:List D):M D:=(g (iM n ds)).thn endD
section
variable{P:Program}{w:World}{K:ζ}{mg:Str->Option Value}{base:Heap}
theorem rR{n i:Nat}{ds:List D}{s:Sl}(h1:(iM n ds)[i]?=some s)(ho:s.own):False:=by
 unfold iM at h1
 by_cases hi:i<ds.length
 ·rw[ξ (by simpa using hi),Λ] at h1
  cases e:ds[i]? with
  | none=>rw[e] at h1;cases h1
  | some d=>rw[e] at h1;cases h1;exact ho
 ·rw[χ (by simpa using hi),X5] at h1
  split at h1
  ·cases h1;exact ho
  ·cases h1
theorem sP{O:List Addr}{H:Hp}{vs:List V}{ds:List D}(N:List Str)(oo:∀l∈O,Mu H l)(r:Reps K O H vs ds):Ev K H O H (L2.gj N vs) (iM N.length ds):=by
 have get:∀(i:Nat) (s:Sl),(iM N.length ds)[i]?=some s->(∃d,ds[i]?=some d/\s=.vl d)\/s=.un:=λi s h=>by
  unfold iM at h
  by_cases hi:i<ds.length
  ·rw[ξ (by simpa using hi),Λ] at h
   cases e:ds[i]? with
   | none=>rw[e] at h;cases h
   | some d=>rw[e] at h;cases h;exact .inl ⟨d,rfl,rfl⟩
  ·rw[χ (by simpa using hi),X5] at h
   split at h
   ·cases h;exact .inr rfl
   ·cases h
 refine⟨aG.refl H,oo,?_,λi s h=>?_,λi j l es fs hij h1 h2 h3=>?_⟩
 ·unfold L2.gj iM
  simp [r.length]
 ·rcases get i s h with ⟨d,hd,rfl⟩ | rfl
  ·obtain⟨v,hv,rd⟩:=r.get hd
   refine⟨v,?_,rd⟩
   unfold L2.gj
   have hi:i<vs.length:=(ς.mp hv).1
   rw[ξ (by simpa using hi),Λ,hv]
   rfl
  ·trivial
 ·rcases get i _ h1 with ⟨d,_,z⟩ | z<;>cases z
theorem uk{x qual:Str}{st:Stmt}{f:Addr}{fd:FuncData}{N ps:List Str}{k:Nat}{g:DS->M Out}(F0:Fun K x qual st f fd)(S:FnScope N ps (ao st))
  (hbody:∀(cdv:Value) (A:Around) (outer:List Env) (s:Shared) (H:Hp) (E:XK),Room k (A.deeper (envOfC qual (ao st) s.heap.objs.size f cdv)) ->
   kg (oQ CX0 P w K mg base N qual (ao st) f cdv A outer s H E).nox (λ_ _=>False) (ek st) g):FnOk P w K mg base CX0 (k+1) f fd ps (spD K ps.length (run N.length g)):=by
 refine F0.ok S (λvs H Q E h=>?_) (λcdv A outer s H vs Q E hr h=>?_)
 ·obtain⟨O,ds,hl,_⟩:=h
  exact hl
 ·obtain⟨O,ds,hl,oo,r,q⟩:=h
  obtain⟨t,p,hB⟩:=hbody cdv A outer s H E hr
  refine⟨t,p,hB O (λ_=>False) H (iM N.length ds) O (L2.gj N vs) H _ ⟨sP N oo r,λl hl=>.inl hl,λb o _ h=>h,λl hl=>.inl hl,λi es l h1 ho h2=>?_,λl hl=>hl⟩ (ah (nY (aq q)) λo z=>?_)⟩
  ·exact(rR h1 ho).elim
  ·cases o with
   | rt d=>exact λv H' kp r=>z v H' (λb o h=>kp b o (λw=>w) h) r
   | nx δ=>exact λO' σ' H' E'=>z .non H' (λb o h=>E'.keep b o (λw=>w) h) .non
   | bk δ=>exact z.elim
   | ct δ=>exact z.elim
theorem def_of{x qual:Str}{st:Stmt}{f:Addr}{fd:FuncData}{N ps:List Str}{k:Nat}{g:DS->M Out}(F0:Fun K x qual st f fd)(S:FnScope N ps (ao st))(hm:mg x=some (.ref f))(hb:gr K fd ps [])
  (hbody:∀(cdv:Value) (A:Around) (outer:List Env) (s:Shared) (H:Hp) (E:XK),Room k (A.deeper (envOfC qual (ao st) s.heap.objs.size f cdv)) ->
   kg (oQ CX0 P w K mg base N qual (ao st) f cdv A outer s H E).nox (λ_ _=>False) (ek st) g):Def P w K mg base (k+1) x ps.length (run N.length g) :=
 ⟨f,fd,ps,uk F0 S hbody,hm,F0.kp,hb⟩
noncomputable def spLaw(K:ζ):Sp:=λvs H Q _=>∃(a:Addr) (ns:List Int),vs=[.ref a]/\SqL K H a (ns.map V.int)/\ns.length<=63/\∀H',Q (.bl true) H'
theorem law_sp(hF:∀ns:List Int,ns.length<=63->F [.list (ns.map ε)]=M.ret (.bool true))(vs:List V)(H:Hp)(Q:VK)(E:XK)(h:spLaw K vs H Q E):spD K 1 F vs H Q E:=by
 obtain⟨a,ns,rfl,hS,hl,k⟩:=h
 refine⟨[],[.list (ns.map ε)],rfl,(λl z=>nomatch z),.cons ?_ .nil,?_⟩
 ·rcases hS with hS | hS
  ·exact .lst hS (λz=>nomatch z) (Reps.ints ns)
  ·exact .lstK hS (Reps.ints ns)
 ·rw[hF ns hl]
  intro v H' s r
  rw[r.bool_inv]
  exact k H'
theorem walk{l:PySem.W.OpenLaw}{q:Program}{loose:List Str}{XP:(Str->Option Value)->Heap->Prop}{YP:World->Heap->Prop}{d:DefRec}{K:Params->ζ}{k:Nat}{F:List D->M D}{x:Str}(hn:l.most=some 63)(hdf:d.params.defaults=[])
  (hF:∀ns:List Int,ns.length<=63->F [.list (ns.map ε)]=M.ret (.bool true)) (hr:Room k callerA)
  (hY:∀(w:World) (h:Heap),YP w h->(K w.params).In h)
  (T:∀(w:World) (mg:Str->Option Value) (fa:Addr) (h:Heap),(K w.params).In h->h.Ns mainGlobals mg->mg d.name=some (.ref fa) ->
   ∃fd:FuncData,(∀(s:Shared) (u:Value),BindsTo s fd ⟨[u],[]⟩ [(x,u)])/\∀base:Heap,(K w.params).In base->base.Ns mainGlobals mg->FnOk l.prog w (K w.params) mg base CX0 k fa fd [x] (spD (K w.params) 1 F)) :
  PySem.W.WalkO q loose XP YP l.row.toRowW d [] (λf vs=>PySem.call f vs) :=
 L2.walk_of (n:=63) (k:=k) (x:=x) (CX:=λ_=>CX0) (sp:=λw=>spD (K w.params) 1 F) hn (by decide) hdf hr hY T (λw H a ns hl _ hS=>law_sp hF _ _ _ _ ⟨a,ns,rfl,hS,hl,λ_=>rfl⟩) λ_ _ _ _ _ z=>z
end
end DL
namespace DL
open L2
section
variable{δ δ':DS}{f g:DS->M D}{fb gb:DS->M Bool}{fa:DS->M (List D)}{gs gt g1 g2:DS->M Out}{d x y:D}{b b1 b2:Bool}{ds xs:List D}{i j:Int}{r:M Out}{o:Out}
theorem aa{n:Nat}(h:δ[n]?=some (.vl d)):ac n δ=M.ret d:=by unfold ac;rw[h]
theorem aj:dC d δ=M.ret d:=rfl
theorem ag{h:D->D->Option D}(h1:f δ=M.ret x)(h2:g δ=M.ret y)(h3:h x y=some d):d2 h f g δ=M.ret d:=by
 unfold d2;rw[h1,aD,h2,aD,h3];rfl
theorem cm{h:D->Option D}(h1:f δ=M.ret x)(h3:h x=some d):d1 h f δ=M.ret d:=by
 unfold d1;rw[h1,aD,h3];rfl
theorem cu:bg (.int i) (.int j)=some (.int (i+j)):=rfl
theorem gA:gm (.int i) (.int j)=some (.int (i-j)):=rfl
theorem pL(h:bMul i j=true):oe (.int i) (.int j)=some (.int (i*j)):=if_pos h
theorem o_div(h:bDiv j=true):qF (.int i) (.int j)=some (.int (i / j)):=if_pos h
theorem gB(h:0<j):gn (.int i) (.int j)=some (.int (i % j)):=if_pos (decide_eq_true h)
theorem nZ:oLt (.int i) (.int j)=some (.bool (decide (i<j))):=rfl
theorem mP:oGt (.int i) (.int j)=some (.bool (decide (j<i))):=rfl
theorem o_ge:oGe (.int i) (.int j)=some (.bool (decide (j<=i))):=rfl
theorem t4:t6 (.int 10) (.int 9)=some (.int 1000000000):=rfl
theorem o_max:wy [.int i,.int j]=some (.int (max i j)):=rfl
theorem o_min:oMin [.int i,.int j]=some (.int (min i j)):=rfl
theorem eA:cV [.list ds]=some (.int ds.length):=rfl
theorem mQ:oEq (.int i) (.int j)=some (.bool (decide (i=j))):=by
 show some (W3 (i==j))=_
 rw[Bool.beq_eq_decide_eq]
theorem jI:oNe (.int i) (.int j)=some (.bool (!decide (i=j))):=by
 show some (W3 (!(i==j)))=_
 rw[Bool.beq_eq_decide_eq]
theorem rC(h1 : -18446744073709551616<i)(h2:i<18446744073709551616):bMul i j=true:=decide_eq_true (.inl ⟨h1,h2⟩)
theorem bMul_r(h1 : -18446744073709551616<j)(h2:j<18446744073709551616):bMul i j=true:=decide_eq_true (.inr ⟨h1,h2⟩)
theorem rE(h1:0<j)(h2:j<1267650600228229401496703205376):bDiv j=true:=decide_eq_true ⟨h1,h2⟩
theorem aC(h:f δ=M.ret (.bool b)):dB f δ=M.ret b:=by unfold dB;rw[h];rfl
theorem bH(h:fb δ=M.ret b):eG fb δ=M.ret (!b):=by unfold eG;rw[h];rfl
theorem uo(h1:fb δ=M.ret b1)(h2:gb δ=M.ret b2):jD fb gb δ=M.ret (b1&&b2):=by
 unfold jD;rw[h1,aD,h2];cases b1<;>rfl
theorem gI(h1:fb δ=M.ret true):dOr fb gb δ=M.ret true:=by unfold dOr;rw[h1];rfl
theorem bM(h1:fb δ=M.ret false)(h2:gb δ=M.ret b):dOr fb gb δ=M.ret b:=by unfold dOr;rw[h1,aD,if_neg ω];exact h2
theorem oN(h1:fb δ=M.ret false):jD fb gb δ=M.ret false:=by unfold jD;rw[h1];rfl
theorem lE(h1:fb δ=M.ret true)(h2:gb δ=M.ret b):jD fb gb δ=M.ret b:=by unfold jD;rw[h1,aD,if_pos rfl];exact h2
theorem ev_notV(h:f δ=M.ret (.bool b)):kS f δ=M.ret (.bool (!b)):=by unfold kS;rw[aC h];rfl
theorem mn(h1:f δ=M.ret (.bool false)):i9 f g δ=M.ret (.bool false):=by unfold i9;rw[aC h1];rfl
theorem kD(h1:f δ=M.ret (.bool true))(h2:g δ=M.ret d):i9 f g δ=M.ret d:=by unfold i9;rw[aC h1,aD,if_pos rfl];exact h2
theorem lC(h:f δ=M.ret d)(hi:sA d=true:=by rfl):dIs T f δ=M.ret (.bool (isD T d)):=by unfold dIs;rw[h,aD,if_pos hi]
theorem af:ai δ=M.ret []:=rfl
theorem ad(h1:f δ=M.ret x)(h2:fa δ=M.ret xs):ae f fa δ=M.ret (x::xs):=by unfold ae;rw[h1,aD,h2];rfl
theorem eV(h:fa δ=M.ret ds)(hz:aL ds.length=true):gz fa δ=M.ret (.tuple ds):=by unfold gz;rw[h,aD,if_pos hz]
theorem jy(h:fa δ=M.ret ds)(hz:aL ds.length=true):iA fa δ=M.ret (.list ds):=by unfold iA;rw[h,aD,if_pos hz]
theorem bt(h1:fa δ=M.ret ds)(h2:h ds=some d):dCB h fa δ=M.ret d:=by unfold dCB;rw[h1,aD,h2];rfl
theorem az{F:List D->M D}(h1:fa δ=M.ret ds)(h2:F ds=M.ret d):aI (λds=>noX (F ds)) fa δ=M.ret d:=by
 unfold aI;rw[h1,aD,h2];rfl
theorem jw(h:f δ=M.ret (.int i)):dW f δ=M.ret (some i):=by unfold dW;rw[h];rfl
theorem i7:ce δ=M.ret none:=rfl
theorem kR(h1:fb δ=M.ret b){r:M D}(h2:(if b=true then f δ else g δ)=r):dIf fb f g δ=r:=by unfold dIf;rw[h1];exact h2
theorem aA(h1:gs δ=M.ret (.nx δ'))(h2:gt δ'=r):aM gs gt δ=r:=by unfold aM;rw[h1];exact h2
theorem b9(h1:gs δ=M.ret (.rt d)):aM gs gt δ=M.ret (.rt d):=by unfold aM;rw[h1];rfl
theorem bG(h1:fb δ=M.ret b)(h2:(if b=true then aM g1 gt δ else aM g2 gt δ)=r):aM (gIf fb g1 g2) gt δ=r:=by
 unfold aM gIf;rw[h1,aD];unfold aM at h2;cases b<;>exact h2
theorem j6(h1:fb δ=M.ret b)(h2:(if b=true then g1 δ else g2 δ)=r):gIf fb g1 g2 δ=r:=by unfold gIf;rw[h1];exact h2
theorem ev_seqN(h:gt δ=r):aM cA gt δ=r:=h
theorem bi(h:f δ=M.ret d):cv f (tgN n) δ=M.ret (.nx (δ.set n (.vl d))):=by unfold cv;rw[h];rfl
theorem ev_asgT(h:f δ=M.ret d)(h2:t d δ=some δ'):cv f t δ=M.ret (.nx δ'):=by unfold cv;rw[h,aD,h2];rfl
theorem aO(h:f δ=M.ret d):bW f δ=M.ret (.rt d):=by unfold bW;rw[h];rfl
theorem aE{n:Nat}(h:gs (iM n ds)=M.ret (.rt d)):run n gs ds=M.ret d:=by unfold run;rw[h];rfl
theorem pQ{α:Type}{p:Prop}[Decidable p]{A B r:α}(h:p)(k:A=r):(if decide p=true then A else B)=r:=by rw[if_pos (decide_eq_true h)];exact k
theorem ox{α:Type}{p:Prop}[Decidable p]{A B r:α}(h:¬p)(k:B=r):(if decide p=true then A else B)=r:=by rw[if_neg (by rw[decide_eq_false h];exact ω)];exact k
theorem b7{α:Type}{A B r:α}{b:Bool}(h:b=true)(k:A=r):(if b=true then A else B)=r:=by rw[if_pos h];exact k
theorem iF{α:Type}{A B r:α}{b:Bool}(h:b=false)(k:B=r):(if b=true then A else B)=r:=by rw[h,if_neg ω];exact k
theorem sM(P:DS->Prop):∀(ds:List D) (δ:DS),P δ->(∀d∈ds,∀δ,P δ->∃δ',body d δ=M.ret (.nx δ')/\P δ')->∃δ',im body ds δ=M.ret (.nx δ')/\P δ'
 | [],δ,p,_=>⟨δ,rfl,p⟩
 | d::ds,δ,p,h=>by
  obtain⟨δ1,h1,p1⟩:=h d ο δ p
  obtain⟨δ2,h2,p2⟩:=sM P ds δ1 p1 λe he=>h e (ι _ he)
  refine⟨δ2,?_,p2⟩
  show(body d δ).thn _=_
  rw[h1]
  exact h2
theorem cB(h1:t d δ=some δ')(h2:gs δ'=r):cn t gs d δ=r:=by unfold cn;rw[h1];exact h2
end
end DL
namespace L2
open PyProof.Rows
section
end
end L2
namespace DL
open PyProof.Rows L2
def tD(K:ζ)(G:XD->Hp->Prop)(f:DS->M D):TE:=λσ H Q=>∃Hr δ O,Ev K Hr O H σ δ/\ok (GS G Hr) (f δ) (λd=>∀v H',aG H H'->Rep K O H' v d->Q v H')
theorem PD.can(h:PD X G e f):PE X e (tD X.K G f):=by
 obtain⟨t,p,h⟩:=h
 intro pins s σ H Q I hw
 obtain⟨Hr,δ,O,E,k⟩:=hw
 exact p pins s σ H Q I (h δ O σ H Q E k)
section
def Kp(l:Addr)(H H':Hp):Prop:=∀b o,b≠l->H b=some o->H' b=some o
theorem Kp.to(k:Kp l H H')(hl:H l=none):To O (l::O) H H':=by
 have rd:∀{b:Addr} {o:HO},Rd H b o->Rd H' b o:=λ{b o} h=>by
  have hb:=Rd.ne_new h hl
  rcases h with h | ⟨u,h⟩
  ·exact .inl (k _ _ hb h)
  ·exact .inr ⟨u,k _ _ hb h⟩
 have no:∀{b:Addr} {o:HO},b∉O->Rd H b o->b∉l::O:=λ{b o} n h z=>by
  rcases Γ.mp z with z | z
  ·exact Rd.ne_new h hl z
  ·exact n z
 exact⟨λb xs h=>rd h,λb xs n h=>⟨no n h,rd h⟩,λb xs n h=>⟨no n h,rd h⟩,λb C dx fs n h=>⟨no n (.inl h),k _ _ (aJ h hl) h⟩⟩
theorem Kp.same(k:Kp l H H')(hl:H l=none):aG H H':=λb o e=>k b o (aJ e hl) e
end
section
noncomputable def lL:List D->Option (List Bool)
 | []=>some []
 | .bool b::r=>(lL r).map (b :: ·)
 | _=>none
theorem p9:∀{ds:List D} {bs:List Bool},lL ds=some bs->ds=bs.map W3
 | [],bs,h=>by cases h;rfl
 | .bool b::r,bs,h=>by
  have h:(lL r).map (b :: ·)=some bs:=h
  cases e:lL r with
  | none=>rw[e] at h;cases h
  | some cs=>rw[e] at h;cases h;rw[p9 e];rfl
theorem nP{K:ζ}{O:List Addr}{H:Hp}:∀{bs:List Bool} {vs:List V},Reps K O H vs (bs.map W3)->vs=bs.map V.bl
 | [],_,.nil=>rfl
 | b::bs,_,.cons r rs=>by rw[r.bool_inv,nP rs];rfl
theorem w9(hc:X.calm=true):fN X (.builtin "all") (λxs H Q=>∃(p:Addr) (bs:List Bool),xs=[.ref p]/\SqL X.K H p (bs.map V.bl)/\Q (.bl (bs.all id)) H):=by
 intro pins s σ H xs us Q I r h
 obtain⟨l,bs,rfl,hq,q⟩:=h
 obtain⟨u,rfl,rx⟩:=kO r
 cases rx
 obtain⟨its,rv,pl,hz⟩:=I.list hq
 have hl:=pl.isList
 have hlt:l<s.heap.objs.size:=by obtain⟨_,e,_⟩:=hl;exact Heap.lt_size e
 have hlen:its.length=bs.length:=by rw[<-rv.length,θ]
 refine call_all_walk (wpAny_pyIter_list hl ?_)
 refine⟨s.heap.objs.size,[s.heap.objs.size,l],[s.heap.objs.size],its.toArray.size,_,_,λi=>(bs[i]?).getD true,rfl,Walks.list (A:=X.A.in1) (I.ok.hd hc) _ l (Z8 hlt) its.toArray,
  ⟨⟨_,Heap.get?_push_size _ rfl,rfl,rfl⟩,hl.push _⟩,λi v s' Q' E' hP hQ=>?_,λh' tk hk=>?_⟩
 ·have hv:its[i]?=some v:=by simpa using hP
  have hi:i<bs.length:=by rw[<-hlen];exact(ς.mp hv).1
  obtain⟨w',e1,e2⟩:=rv.get (i:=i) (x:=V.bl bs[i]) (by rw[Λ,ψ hi];rfl)
  rw[hv] at e1
  cases e1
  cases (show v=Value.bool bs[i] from e2)
  dsimp only at hQ
  rw[ψ hi] at hQ
  exact wpAny_truthy_bool hQ
 ·have e:((Z3 its.toArray.size).all λi=>(bs[i]?).getD true)=bs.all id:=by
   rw[Ξ,hlen];exact LSm.range_all bs
  rw[e]
  exact⟨.bl _,H,I.kept λb o e=>LSm.kept_iter hk b o e,rfl,q⟩
noncomputable def su:List D->Option D
 | [.list ds]=>(lL ds).map λbs=>.bool (bs.all id)
 | _=>none
theorem kI(hc:X.calm=true):eJ X (.builtin "all") su:=by
 refine⟨_,w9 hc,λO H ds d vs Q oo rs e k=>?_⟩
 unfold su at e
 split at e
 ·rename_i es
  cases e1:lL es with
  | none=>rw[e1] at e;cases e
  | some bs =>
   rw[e1] at e
   cases e
   obtain⟨v,rfl,r⟩:=fK rs
   obtain⟨p,xs,rfl,h1,rx⟩:=r.lst_inv
   rw[p9 e1] at rx
   rw[nP rx] at h1
   exact⟨p,bs,rfl,h1,k _ H (aG.refl H) (.bl _)⟩
 ·cases e
end
section
end
end DL
namespace L2
open PyProof.Rows
section
end
end L2
namespace DL
open PyProof.Rows L2
noncomputable def jL(δ:DS)(j:Nat):Sl:=match δ[j]? with
 | some (.vl d)=>.vl d
 | _=>.un
section
end
section
end
section
end
end DL
namespace DL
open PyProof.Rows L2
section
variable{X:Cx}{G:XD->Hp->Prop}{a b c e:Expr}{f:DS->M D}{pos pos':Pos}{sts:List Stmt}{gs:DS->M Out}
variable{K:ζ}{Hr:Hp}{R0:List Addr}{P0:Addr->Prop}{H0 H H':Hp}{O:List Addr}{σ:St}{δ:DS}
theorem SlOk.to{O':List Addr}{o:Option (Option V)}{s:Sl}(t:To O O' H H')(hd:∀l kvs,l∈O->H l=some (.dK kvs)->l∈O'/\H' l=some (.dK kvs))(hs:∀l xs,l∈O->H l=some (.lst xs)->o=some (some (.ref l))->(∃ds,s=.ow ds)->l∈O'/\H' l=some (.lst xs))(h:SlOk K O H o s):SlOk K O' H' o s:=by
 cases s with
 | un=>trivial
 | ex a=>exact h
 | vl d =>
  obtain⟨v,h1,r⟩:=h
  exact⟨v,h1,r.to t⟩
 | ow ds =>
  obtain⟨l,xs,h1,h2,h3,r⟩:=h
  obtain⟨q1,q2⟩:=hs l xs h2 h3 h1 ⟨ds,rfl⟩
  exact⟨l,xs,h1,q1,q2,r.to t⟩
 | od es =>
  obtain⟨l,kvs,h1,h2,h3,hk,r⟩:=h
  obtain⟨q1,q2⟩:=hd l kvs h2 h3
  exact⟨l,kvs,h1,q1,q2,hk,r.to t⟩
theorem hd_new(hl:H l=none):∀a kvs,a∈O->H a=some (.dK kvs)->a∈l::O/\upd H l o a=some (.dK kvs):=λa kvs h1 h2=>⟨ι _ h1,by rw[upd_ne (aJ h2 hl)];exact h2⟩
theorem hd_set{l:Addr}{xs:List V}{o:HO}(hl:H l=some (.lst xs)):∀a kvs,a∈O->H a=some (.dK kvs)->a∈O/\upd H l o a=some (.dK kvs):=λa kvs h1 h2=>⟨h1,by rw[upd_ne (ne_of h2 hl (by intro z;cases z))];exact h2⟩
theorem EI.app{i:Nat}{l:Addr}{xs:List V}{ds:List D}{v:V}{d:D}(E:EI K Hr R0 P0 H0 O H σ δ)(hd:δ[i]?=some (.ow ds))(hσ:σ[i]?=some (some (.ref l)))(hl:H l=some (.lst xs))(rx:Reps K O H xs ds)(r:Rep K O H v d) :
  EI K Hr R0 P0 H0 O (upd H l (.lst (xs++[v]))) σ (δ.set i (.ow (ds++[d]))):=by
 obtain⟨l',xs',q1,lO,q3,_⟩:=E.ev.at_ i _ hd
 rw[hσ] at q1
 cases q1
 have tO:To O O H (upd H l (.lst (xs++[v]))):=To.set hl lO
 refine⟨⟨λb o h=>?_,λa ha=>?_,by rw[Ω];exact E.ev.len,λj s h=>?_,λj k a es es' hjk h1 h2 h3=>?_⟩,E.omr,λb o n h=>?_,E.om,λj es a h1 ho h2=>?_,E.sub⟩
 ·have q:=E.ev.root b o h
  have hne:b≠l:=λz=>by
   subst z
   rcases E.omr b lO with w | w
   ·exact E.nr i ds b hd hσ w
   ·rw[h] at w;cases w
  rw[upd_ne hne]
  exact q
 ·by_cases hb:a=l
  ·rw[hb];exact .lst aK
  ·exact(E.ev.oo a ha).upd_ne hb
 ·rw[bB] at h
  by_cases hij:i=j
  ·rw[if_pos hij] at h
   split at h
   ·cases h
    rw[<-hij,hσ]
    exact⟨l,_,rfl,lO,aK,(rx.to tO).append (.cons (r.to tO) .nil)⟩
   ·cases h
  ·rw[if_neg hij] at h
   refine(E.ev.at_ j s h).to tO (hd_set hl) λa ys h1 h2 h3 h4=>⟨h1,?_⟩
   obtain⟨es,rfl⟩:=h4
   have hne:a≠l:=λz=>by
    subst z
    exact E.ev.dis i j a ds es hij hd h hσ h3
   rw[upd_ne hne]
   exact h2
 ·have old:∀(j:Nat) (es:List D),(δ.set i (.ow (ds++[d])))[j]?=some (.ow es)->∃es',δ[j]?=some (.ow es'):=λj es h=>by
   rw[bB] at h
   by_cases hij:i=j
   ·rw[<-hij];exact⟨ds,hd⟩
   ·rw[if_neg hij] at h;exact⟨es,h⟩
  obtain⟨e1,h1⟩:=old j es h1
  obtain⟨e2,h2⟩:=old k es' h2
  exact E.ev.dis j k a e1 e2 hjk h1 h2 h3
 ·have q:=E.keep b o n h
  have hne:b≠l:=λz=>by
   subst z
   rcases E.om b lO with w | w | w
   ·exact E.nr i ds b hd hσ w
   ·exact n w
   ·rw[h] at w;cases w
  rw[upd_ne hne]
  exact q
 ·rw[bB] at h1
  by_cases hij:i=j
  ·exact E.nr i ds a hd (by rw[hij];exact h2)
  ·rw[if_neg hij] at h1
   exact E.nr1 j es a h1 ho h2
noncomputable def jJ(i:Nat)(f:DS->M D):DS->M Out:=λδ=>match δ[i]? with
 | some (.ow ds)=>(f δ).thn λd=>if aL (ds.length+1) then M.ret (.nx (δ.set i (.ow (ds++[d])))) else none
 | _=>none
theorem rS(h:aL (n+1)=true):n<sizeLine:=by
 have:=bz h
 omega
theorem pd_app(hv:PE X (.Name x xp) (oV i))(he:PD X G e f)
  (hst:starEach [e] X.env=(false,eval e X.env)::starEach [] X.env:=by rfl)
  (hbase:attributeBase (.Name x xp) "append" X.env (eval (.Name x xp) X.env)=eval (.Name x xp) X.env:=by rfl)
  (hfew:((backTo cpos (starEach [e] X.env)).all (λx=>!x.1)&&(backToKw cpos (keywordEach [] X.env)).all (λx=>x.1.isSome)
   && decide ([e].length+([]:List Keyword).length+(if ([]:List Keyword).isEmpty then 0 else 1)<30))=true:=by rfl)
  (hline:(apos.endLine==cpos.line)=true:=by rfl) (hplain:(backTo cpos (starEach [] X.env)).any (·.1)=false:=by rfl)
  (hs:swapsWith (.Call (.Attribute (.Name x xp) "append" apos) [e] [] cpos) none pos.line X.env=pure false:=by rfl) :
  PDS X G (.Expr (.Call (.Attribute (.Name x xp) "append" apos) [e] [] cpos) pos) (jJ i f):=by
 obtain⟨t,p,he⟩:=he
 refine⟨_,u0 (vc PySem.F.plainAttrs_list PySem.F.slot_list_append PySem.F.type_list_append kr hv (gG p jS hst) hbase hfew hline hst hplain) hs,λR0 P0 H0 δ O σ H Dn E k=>?_⟩
 unfold jJ at k
 split at k
 ·rename_i ds hd
  obtain⟨l,xs,q1,q2,q3,q4⟩:=E.ev.at_ i _ hd
  refine⟨.ref l,q1,.inl ⟨rfl,xs,.inl (.inl q3)⟩,?_⟩
  refine he δ O σ H _ E.ev (ah (aq k) λd z v H1 s1 r=>?_)
  by_cases hz:aL (ds.length+1)=true
  ·rw[if_pos hz] at z
   refine⟨l,xs,v,rfl,rfl,s1 _ _ q3,by rw[q4.length];exact rS hz,?_⟩
   exact z O σ _ ((E.same s1).app hd q1 (s1 _ _ q3) (q4.same s1) r)
  ·rw[if_neg hz] at z
   exact z.elim
 ·exact k.elim
noncomputable def lz(i:Nat):DS->M Out:=λδ=>match δ[i]? with
 | some (.ow ds)=>M.ret (.rt (.list ds))
 | _=>none
theorem pd_retO(he:PE X e (oV i)):PDS X G (.Return (some e) pos) (lz i):=by
 refine⟨_,lV he,λR0 P0 H0 δ O σ H Dn E k=>?_⟩
 unfold lz at k
 split at k
 ·rename_i ds hd
  obtain⟨l,xs,q1,q2,q3,q4⟩:=E.ev.at_ i _ hd
  exact⟨.ref l,q1,k _ H E.keep (.lst (.inl q3) (E.nr i ds l hd q1) (q4.to (.less E.sub)))⟩
 ·exact k.elim
noncomputable def frz(i:Nat)(δ:DS):DS:=match δ[i]? with
 | some (.ow ds)=>δ.set i (.vl (.list ds))
 | _=>δ
theorem EI.frz{i:Nat}(E:EI K Hr R0 P0 H0 O H σ δ):∃O',EI K Hr R0 P0 H0 O' H σ (DL.frz i δ):=by
 unfold DL.frz
 split
 ·rename_i ds hd
  obtain⟨l,xs,q1,q2,q3,q4⟩:=E.ev.at_ i _ hd
  have nr:=E.nr i ds l hd q1
  refine⟨O.filter (λa=>decide (a≠l)),⟨E.ev.root,λa ha=>E.ev.oo a (Y7.mp ha).1,by rw[Ω];exact E.ev.len,λj s h=>?_,λj k a es es' hjk h1 h2 h3=>?_⟩,λa ha=>E.omr a (Y7.mp ha).1,E.keep,λa ha=>E.om a (Y7.mp ha).1,λj es a h1 ho h2=>?_,λa ha=>?_⟩
  ·have tl:To O (O.filter (λa=>decide (a≠l))) H H:=To.less λb hb=>(Y7.mp hb).1
   rw[bB] at h
   by_cases hij:i=j
   ·rw[if_pos hij] at h
    split at h
    ·cases h
     rw[<-hij,q1]
     exact⟨.ref l,rfl,.lst (.inl q3) (λz=>absurd rfl (of_decide_eq_true (Y7.mp z).2)) (q4.to tl)⟩
    ·cases h
   ·rw[if_neg hij] at h
    refine(E.ev.at_ j s h).to tl (λa kvs h1 h2=>⟨Y7.mpr ⟨h1,decide_eq_true (ne_of h2 q3 (by intro z;cases z))⟩,h2⟩) λa ys h1 h2 h3 h4=>⟨Y7.mpr ⟨h1,decide_eq_true λz=>?_⟩,h2⟩
    obtain⟨es,rfl⟩:=h4
    subst z
    exact E.ev.dis i j a ds es hij hd h q1 h3
  ·have old:∀(j:Nat) (es:List D),(δ.set i (.vl (.list ds)))[j]?=some (.ow es)->δ[j]?=some (.ow es):=λj es h=>by
    rw[bB] at h
    by_cases hij:i=j
    ·rw[if_pos hij] at h
     split at h<;>cases h
    ·rw[if_neg hij] at h;exact h
   exact E.ev.dis j k a es es' hjk (old j es h1) (old k es' h2) h3
  ·rw[bB] at h1
   by_cases hij:i=j
   ·rw[if_pos hij] at h1
    split at h1
    ·cases h1;exact ho.elim
    ·cases h1
   ·rw[if_neg hij] at h1
    exact E.nr1 j es a h1 ho h2
  ·exact Y7.mpr ⟨E.sub a ha,decide_eq_true λz=>nr (z▸ha)⟩
 ·exact⟨O,E⟩
noncomputable def wM(i:Nat)(g:DS->M Out):DS->M Out:=λδ=>g (frz i δ)
theorem vg(i:Nat)(h:kg X G sts gs):kg X G sts (wM i gs):=by
 obtain⟨t,p,h⟩:=h
 refine⟨t,p,λR0 P0 H0 δ O σ H Dn E k=>?_⟩
 obtain⟨O',E'⟩:=E.frz (i:=i)
 exact h R0 P0 H0 (frz i δ) O' σ H Dn E' k
end
noncomputable def jl:List D->Option (List Int)
 | []=>some []
 | .int i::r=>(jl r).map (i :: ·)
 | _=>none
theorem oA:∀{ds:List D} {ns:List Int},jl ds=some ns->ds=ns.map ε
 | [],ns,h=>by cases h;rfl
 | .int i::r,ns,h=>by
  have h:(jl r).map (i :: ·)=some ns:=h
  cases e:jl r with
  | none=>rw[e] at h;cases h
  | some cs=>rw[e] at h;cases h;rw[oA e];rfl
theorem pG{K:ζ}{O:List Addr}{H:Hp}:∀{ns:List Int} {vs:List V},Reps K O H vs (ns.map ε)->vs=ns.map V.int
 | [],_,.nil=>rfl
 | b::bs,_,.cons r rs=>by rw[r.int_inv,pG rs];rfl
theorem bZ{names:List (Str×NameKind)}{cl:List (Str×Addr)}(h:names.all (λy=>!(y.2==.cell||y.2==.free)||(cl.lookup y.1).isSome)=true):∀y∈names,(y.2=.cell\/y.2=.free)->∃c,cl.lookup y.1=some c:=λy hy hk=>by
 have q:=List.all_eq_true.mp h y hy
 have k:(y.2==NameKind.cell||y.2==NameKind.free)=true:=by
  rcases hk with e | e<;>rw[e]<;>rfl
 rw[k] at q
 exact Option.isSome_iff_exists.mp (by simpa using q)
section
variable{X:Cx}{scope:Scope}{cl:List (Str×Addr)}
theorem cX:∀p∈([]:List (Nat×Str)),X.N[p.1]?=some p.2/\X.env.kindOf p.2=some .cell/\(compEnvC scope cl 0 X.env).kindOf p.2=some .cell/\∃c,cl.lookup p.2=some c:=λp hp=>nomatch hp
theorem f7{j:Nat}{y:Str}{fr:List (Nat×Str)}(h1:X.N[j]?=some y)(h2:X.env.kindOf y=some .cell)(h3:(compEnvC scope cl 0 X.env).kindOf y=some .cell)(h4:∃c,cl.lookup y=some c)
  (hr:∀p∈fr,X.N[p.1]?=some p.2/\X.env.kindOf p.2=some .cell/\(compEnvC scope cl 0 X.env).kindOf p.2=some .cell/\∃c,cl.lookup p.2=some c) :
  ∀p∈(j,y)::fr,X.N[p.1]?=some p.2/\X.env.kindOf p.2=some .cell/\(compEnvC scope cl 0 X.env).kindOf p.2=some .cell/\∃c,cl.lookup p.2=some c:=λp hp=>by
 rcases Γ.mp hp with rfl | hp
 ·exact⟨h1,h2,h3,h4⟩
 ·exact hr p hp
end
section
theorem iU(h:δ[i]?=some (.ow ds))(h1:f δ=M.ret d)(hz:aL (ds.length+1)=true):jJ i f δ=M.ret (.nx (δ.set i (.ow (ds++[d])))):=by
 unfold jJ;rw[h,h1];show(if aL (ds.length+1)=true then _ else _)=_;rw[if_pos hz]
theorem um(h:g (frz i δ)=r):wM i g δ=r:=h
theorem k9(h0:0<=i)(h:ds[i.toNat]?=some d):oIx (.list ds) (.int i)=some d:=by
 have e:=L2.atI_nat h
 rw[Int.toNat_of_nonneg h0] at e
 exact e
theorem ax{n:Nat}(h:n<=16000000):aL n=true:=decide_eq_true h
theorem io:∀{ds:List D},(∀d∈ds,d.canLay0=true/\d.depth<=5)->U3 ds=true/\PyData.depthAll ds<=5
 | [],_=>⟨rfl,X8 _⟩
 | d::ds,h=>by
  obtain⟨h1,h2⟩:=h d ο
  obtain⟨h3,h4⟩:=io λe he=>h e (ι _ he)
  refine⟨?_,?_⟩
  ·show(d.canLay0&&U3 ds)=true
   rw[h1,h3]
   rfl
  ·show max d.depth (PyData.depthAll ds)<=5
   omega
end
end DL
namespace XF
open PyProof.Rows
section
end
end XF
namespace L2
open PyProof.Rows
section
end
section
end
end L2
namespace DL
open PyProof.Rows L2
section
end
section
end
end DL
namespace L2
open PyProof.Rows
section
abbrev Cx.held(X:Cx)(pn:List (Addr×Obj))(e:Addr):Cx:={ X with A:=X.A.mark (some (.ref e)),calm:=false,pn:=pn,xe:=λ_ _=>False }
end
end L2
namespace L2
open PyProof.Rows
section
noncomputable def Ends.gone(D:Ends)(i:Nat):Ends:=⟨λσ H=>D.nx (σ.set i none) H,D.rt,λσ H=>D.bk (σ.set i none) H,λσ H=>D.ct (σ.set i none) H⟩
end
end L2
namespace DL
open PyProof.Rows L2
section
noncomputable def Sl.noOw:Sl->Sl
 | .ow _=>.un
 | .od _=>.un
 | s=>s
noncomputable def noOw(δ:DS):DS:=δ.map Sl.noOw
noncomputable def Out.gone(i:Nat):Out->Out
 | .nx δ=>.nx (δ.set i .un)
 | .rt d=>.rt d
 | .bk δ=>.bk (δ.set i .un)
 | .ct δ=>.ct (δ.set i .un)
noncomputable def exS(N i:Nat)(a:Addr):DS:=(ρ N Sl.un).set i (.ex a)
open Classical in
noncomputable def xn(N i:Nat)(gs:Addr->DS->M Out):M Out :=
 if h:∃r,∀a,(noX (gs a (exS N i a))).thn (λo=>M.ret (o.gone i))=r then choose h else none
open Classical in
noncomputable def gTry(x:Str)(N i:Nat)(gb:DS->M Out)(gs:Addr->DS->M Out):DS->M Out:=λδ=>match gb (noOw δ) with
 | none=>none
 | some (.ok o)=>some (.ok o)
 | some (.error y)=>if y.cls=x then xn N i gs else none
end
section
end
end DL
namespace L2
open PySem.W PySem.Calls PyProof.Rows
open PySem.Builtin.ObjectAttr PySem.Builtin PySem.Builtin.Getset_descriptor
section
end
end L2
namespace DL
open PyProof.Rows L2
section
end
end DL
namespace DL
open PyProof.Rows L2
section
variable{X:Cx}
noncomputable def one? : D->Bool
 | .bool _=>true
 | .none=>true
 | _=>false
noncomputable def kn:D->D->Bool
 | .bool a,.bool b=>a==b
 | .none,.none=>true
 | _,_=>false
noncomputable def oIs(x y:D):Option D:=if one? y then some (.bool (kn x y)) else none
noncomputable def eM(x y:D):Option D:=if one? y then some (.bool (!kn x y)) else none
theorem op_isB:OpR X (compareOp .Is) (λx y H Q=>∃b,y=.bl b/\Q (.bl (decide (x=.bl b))) H):=by
 intro pins s σ H x y v u Q I rx ry h
 obtain⟨b,rfl,q⟩:=h
 cases (show u=Value.bool b from ry)
 have fin:∀c:Bool,decide (x=V.bl b)=c->EP X pins σ Q (.bool c) s:=λc e=>⟨.bl _,H,I,rfl,e▸q⟩
 cases x with
 | non=>cases (show v=Value.none from rx);exact wpAny_pure (fin _ (by simp))
 | bl c=>cases (show v=Value.bool c from rx);exact wpAny_pure (fin _ (by cases b<;>cases c<;>rfl))
 | int i=>obtain⟨t,z⟩:=(show ∃t,v=Value.int i t from rx);cases z;exact wpAny_pure (fin _ (by simp))
 | str i=>obtain⟨t,z⟩:=(show ∃t,v=Value.str i t from rx);cases z;exact wpAny_pure (fin _ (by simp))
 | byt i=>obtain⟨t,z⟩:=(show ∃t,v=Value.bytes i t from rx);cases z;exact wpAny_pure (fin _ (by simp))
 | flt i=>obtain⟨t,z⟩:=(show ∃t,v=Value.float i t from rx);cases z;exact wpAny_pure (fin _ (by simp))
 | ref p=>cases (show v=Value.ref p from rx);exact wpAny_pure (fin _ (by simp))
 | ty p=>cases (show v=Value.type p from rx);exact wpAny_pure (fin _ (by simp))
theorem op_notB:OpR X (compareOp .IsNot) (λx y H Q=>∃b,y=.bl b/\Q (.bl (!decide (x=.bl b))) H):=by
 intro pins s σ H x y v u Q I rx ry h
 obtain⟨b,rfl,q⟩:=h
 cases (show u=Value.bool b from ry)
 have fin:∀c:Bool,decide (x=V.bl b)=c->EP X pins σ Q (.bool (!c)) s:=λc e=>⟨.bl _,H,I,rfl,e▸q⟩
 cases x with
 | non=>cases (show v=Value.none from rx);exact wpAny_pure (fin false (by simp))
 | bl c=>cases (show v=Value.bool c from rx);exact wpAny_pure (fin (Value.bool c==Value.bool b) (by cases b<;>cases c<;>rfl))
 | int i=>obtain⟨t,z⟩:=(show ∃t,v=Value.int i t from rx);cases z;exact wpAny_pure (fin false (by simp))
 | str i=>obtain⟨t,z⟩:=(show ∃t,v=Value.str i t from rx);cases z;exact wpAny_pure (fin false (by simp))
 | byt i=>obtain⟨t,z⟩:=(show ∃t,v=Value.bytes i t from rx);cases z;exact wpAny_pure (fin false (by simp))
 | flt i=>obtain⟨t,z⟩:=(show ∃t,v=Value.float i t from rx);cases z;exact wpAny_pure (fin false (by simp))
 | ref p=>cases (show v=Value.ref p from rx);exact wpAny_pure (fin false (by simp))
 | ty p=>cases (show v=Value.type p from rx);exact wpAny_pure (fin false (by simp))
theorem nG{K:ζ}{O:List Addr}{H:Hp}{v u:V}{x y:D}(rv:Rep K O H v x)(ru:Rep K O H u y)(h1:one? y=true):(∃b,u=.bl b/\decide (v=.bl b)=kn x y)\/(u=.non/\decide (v=.non)=kn x y):=by
 cases ru with
 | non=>refine .inr ⟨rfl,?_⟩;cases rv<;>simp [kn]
 | bl d=>refine .inl ⟨d,rfl,?_⟩;cases rv<;>simp [kn]<;>exact decide_eq_decide.mpr Iff.rfl
 | _=>cases h1
theorem dop_is:DOp X (compareOp .Is) oIs:=by
 refine⟨_,op_isB.or op_isN,λO H x y d v u Q oo rx ry e k=>?_⟩
 unfold oIs at e
 by_cases h1:one? y=true
 ·rw[if_pos h1] at e
  cases e
  rcases nG rx ry h1 with ⟨b,h2,h3⟩ | ⟨h2,h3⟩
  ·exact .inl ⟨b,h2,h3▸k _ _ (λ_ _ h=>h) (h3▸.bl _)⟩
  ·exact .inr ⟨h2,h3▸k _ _ (λ_ _ h=>h) (h3▸.bl _)⟩
 ·rw[if_neg h1] at e;cases e
theorem wQ:DOp X (compareOp .IsNot) eM:=by
 refine⟨_,op_notB.or op_notN,λO H x y d v u Q oo rx ry e k=>?_⟩
 unfold eM at e
 by_cases h1:one? y=true
 ·rw[if_pos h1] at e
  cases e
  rcases nG rx ry h1 with ⟨b,h2,h3⟩ | ⟨h2,h3⟩
  ·exact .inl ⟨b,h2,h3▸k _ _ (λ_ _ h=>h) (h3▸.bl _)⟩
  ·exact .inr ⟨h2,h3▸k _ _ (λ_ _ h=>h) (h3▸.bl _)⟩
 ·rw[if_neg h1] at e;cases e
end
end DL
namespace DL
open PyProof.Rows L2
section
noncomputable def oStr:List D->Option D
 | [.int i]=>if i.natAbs.log2<1920 then some (.str (Str.ofString (toString i))) else none
 | _=>none
theorem wR:eJ X (.type "str") oStr:=by
 refine⟨_,rb,λO H ds d vs Q oo rs e k=>?_⟩
 unfold oStr at e
 split at e
 ·rename_i i
  by_cases hz:i.natAbs.log2<1920
  ·rw[if_pos hz] at e
   cases e
   obtain⟨v,rfl,r⟩:=fK rs
   exact⟨i,by rw[r.int_inv],hz,k _ H (aG.refl H) (.str _)⟩
  ·rw[if_neg hz] at e;cases e
 ·cases e
end
end DL
namespace DL
open PyProof.Rows L2
section
end
end DL
namespace DL
open PyProof.Rows L2
section
noncomputable def dY(c:DS->M Bool)(g:DS->M Out):Nat->DS->M Out
 | 0,_=>none
 | n+1,δ=>(c δ).thn λb=>if b=true then (g δ).thn λo=>match o with
   | .nx δ'=>dY c g n δ'
   | .ct δ'=>dY c g n δ'
   | .bk δ'=>M.ret (.nx δ')
   | .rt d=>M.ret (.rt d)
  else M.ret (.nx δ)
theorem jd:∀{n:Nat} {δ:DS} {r:Except XD Out} (k:Nat),dY c g n δ=some r->dY c g (n+k) δ=some r
 | 0,_,_,_,h=>by cases h
 | n+1,δ,r,k,h=>by
  have e:n+1+k=(n+k)+1:=by omega
  rw[e]
  unfold dY at h ⊢
  match hc:c δ,h with
  | some (.ok true),h =>
   have h:M.thn (g δ) _=_:=h
   show M.thn (g δ) _=_
   match hg:g δ,h with
   | some (.ok (.nx δ')),h=>exact jd k h
   | some (.ok (.ct δ')),h=>exact jd k h
   | some (.ok (.bk δ')),h=>exact h
   | some (.ok (.rt d)),h=>exact h
   | some (.error x),h=>exact h
  | some (.ok false),h=>exact h
  | some (.error x),h=>exact h
noncomputable def du(c:DS->M Bool)(g:DS->M Out):DS->M Out:=λδ =>
 open Classical in if h:∃n r,dY c g n δ=some r then dY c g (Classical.choose h) δ else none
theorem mF(h:dY c g n δ=some r):du c g δ=some r:=by
 have hx:∃n r,dY c g n δ=some r:=⟨n,r,h⟩
 unfold du
 rw[dif_pos hx]
 obtain⟨r',hr⟩:=Classical.choose_spec hx
 have h1:=jd (Classical.choose hx) h
 have h2:=jd n hr
 rw[Nat.add_comm] at h2
 rw[h2] at h1
 rw[hr,h1]
theorem oH(h:du c g δ=some r):∃n,dY c g n δ=some r:=by
 unfold du at h
 split at h
 ·exact⟨_,h⟩
 ·cases h
theorem pd_while(hp:PassesOwn (model X.prog X.w) X.A X.env X.xe)(hc:PDT X G c fb)(hb:kg X G body gs):PDS X G (.While c body [] pos) (du fb gs):=by
 obtain⟨tc,pc,hc⟩:=hc
 obtain⟨tb,pb,hb⟩:=hb
 refine⟨_,sd hp pc pb,λ{Hr} R0 P0 H0 δ O σ H Dn E k=>?_⟩
 obtain⟨n,hn⟩:∃n,ok (GS G Hr) (dY fb gs n δ) (Fin X.K Hr R0 P0 H0 Dn):=by
  cases e:du fb gs δ with
  | none=>rw[e] at k;exact k.elim
  | some r =>
   obtain⟨n,hn⟩:=oH e
   rw[e] at k
   exact⟨n,by rw[hn];exact k⟩
 refine⟨λm σ H=>∃δ O,EI X.K Hr R0 P0 H0 O H σ δ/\ok (GS G Hr) (dY fb gs m δ) (Fin X.K Hr R0 P0 H0 Dn),⟨n,δ,O,E,hn⟩,λm σ H hw=>?_⟩
 obtain⟨δ,O,E,k⟩:=hw
 cases m with
 | zero=>exact k.elim
 | succ m =>
  unfold dY at k
  refine hc δ O σ H _ E.ev (ah (aq k) λb z H1 s1=>?_)
  cases b with
  | false=>exact z O σ H1 (E.same s1)
  | true =>
   have z:ok (GS G Hr) (M.thn (gs δ) _) _:=z
   refine⟨λσ' H'=>∃δ O,EI X.K Hr R0 P0 H0 O H' σ' δ/\ok (GS G Hr) (dY fb gs m δ) (Fin X.K Hr R0 P0 H0 Dn),λσ' H' hN=>⟨m,Nat.lt_succ_self m,hN⟩,?_⟩
   refine hb R0 P0 H0 δ O σ H1 _ (E.same s1) (ah (aq z) λo q=>?_)
   cases o with
   | nx δ'=>exact λO' σ' H' E'=>⟨δ',O',E',q⟩
   | ct δ'=>exact λO' σ' H' E'=>⟨δ',O',E',q⟩
   | bk δ'=>exact q
   | rt d=>exact q
end
section
end
section
theorem ju(h1:fb δ=M.ret true)(h2:gs δ=M.ret (.nx δ'))(h3:du fb gs δ'=some r):du fb gs δ=some r:=by
 obtain⟨n,hn⟩:=oH h3
 refine mF (n:=n+1) ?_
 unfold dY
 rw[h1,aD,if_pos rfl,h2,aD]
 exact hn
theorem ld(h1:fb δ=M.ret false):du fb gs δ=M.ret (.nx δ):=by
 refine mF (n:=1) ?_
 unfold dY
 rw[h1,aD,if_neg ω]
 rfl
theorem eW(h1:fb δ=M.ret b)(hb:b=false)(h2:gt δ=r):aM (gIf fb g1 cA) gt δ=r:=by
 subst hb
 unfold aM gIf;rw[h1,aD,if_neg ω];exact h2
theorem j5(h1:fb δ=M.ret b)(hb:b=false):gIf fb g1 cA δ=M.ret (.nx δ):=by
 subst hb
 unfold gIf;rw[h1,aD,if_neg ω];rfl
theorem t5(h:aL (xs.length+ys.length)=true):bg (.list xs) (.list ys)=some (.list (xs++ys)):=by
 show(if aL (xs.length+ys.length)=true then _ else _)=_
 rw[if_pos h]
end
end DL
namespace L2
open PyProof.Rows
section
variable{X:Cx}
theorem Inv.turnNew{pins:List (Addr×Obj)}{σ:St}{H:Hp}{s:Shared}{h':Heap}{t':Nat}{ch:List Addr}{a:Addr}{o:HO}(I:Inv X pins σ H s)(hf:∀b∈ch,lh X pins H b)
  (k:∀b u,b∉ch->s.heap.get? b=some u->h'.get? b=some u) (hp:s.heap.objs.size<=a) (new:fM X.prog X.w (upd H a o) h' a o):Inv X pins σ (upd H a o) { s with heap:=h',toks:=t' }:=by
 have hn:=I.hok.fresh hp
 have nc:∀{b:Addr} {u:HO},H b=some u->b∉ch:=λe z=>by rw[(hf _ z).1] at e;cases e
 refine I.call (g':=s.gens) (d':=s.drawn) (ch:=ch) ⟨λb u q _ _ hc=>k b u hc q,λb u q _ _ hc=>⟨u.slots,k b u hc q⟩,λb u q n _=>?_,λb u q hc=>⟨u,k b u hc q⟩,λb xs q=>?_,λb u xs q=>?_,λb ps q=>⟨#[],?_⟩⟩ (λb u e=>?_) I.bare λb hb=>?_
 ·rw[upd_ne (Z8 (Z2 (Heap.lt_size q) hp))];exact n
 ·rw[upd_ne (aJ q hn)];exact q
 ·rw[upd_ne (aJ q hn)];exact q
 ·rw[upd_ne (aJ q hn),q];simp
 ·by_cases hb:b=a
  ·subst hb;rw[aK] at e;cases e;exact new
  ·rw[upd_ne hb] at e
   refine(I.hok b u e).stay (λc v hc q=>k c v ?_ q) (λc q=>by rw[upd_ne (aJ q hn)];exact q) λc xs q=>by rw[upd_ne (aJ q hn)];exact q
   rcases hc with rfl | hc
   ·exact nc e
   ·exact nc hc
 ·obtain⟨_,f1,_,f3,f4,f5⟩:=hf b hb
  exact⟨f3,f1,f4,f5⟩
theorem Inv.turnAll{pins:List (Addr×Obj)}{σ:St}{H:Hp}{s:Shared}{h':Heap}{t':Nat}{ch:List Addr}(I:Inv X pins σ H s)(hf:∀b∈ch,lh X pins H b)
  (k:∀b u,b∉ch->s.heap.get? b=some u->h'.get? b=some u):Inv X pins σ H { s with heap:=h',toks:=t' }:=by
 have nc:∀{b:Addr} {u:HO},H b=some u->b∉ch:=λe z=>by rw[(hf _ z).1] at e;cases e
 refine I.call (g':=s.gens) (d':=s.drawn) (ch:=ch) ⟨λb u q _ _ hc=>k b u hc q,λb u q _ _ hc=>⟨u.slots,k b u hc q⟩,λb u q n _=>n,λb u q hc=>⟨u,k b u hc q⟩,λb xs q=>q,λb u xs q=>q,λb ps q=>⟨#[],by rw[q];simp⟩⟩ (λb u e=>?_) I.bare λb hb=>?_
 ·refine(I.hok b u e).stay (λc v hc q=>k c v ?_ q) (λc q=>q) λc xs q=>q
  rcases hc with rfl | hc
  ·exact nc e
  ·exact nc hc
 ·obtain⟨_,f1,_,f3,f4,f5⟩:=hf b hb
  exact⟨f3,f1,f4,f5⟩
end
noncomputable def Itz(K:ζ)(a b:Addr):It :=
  ⟨λi H=>∃xs ys x y,SqL K H a xs/\SqL K H b ys/\xs[i]?=some x/\ys[i]?=some y,
   λi H v H'=>∃T,v=.ref T/\H T=none/\∀xs ys x y,SqL K H a xs->SqL K H b ys->xs[i]?=some x->ys[i]?=some y->H'=upd H T (.tup [x,y]),
   λi H=>∃xs ys,SqL K H a xs/\SqL K H b ys/\(xs.length<=i\/ys.length<=i)⟩
noncomputable def Ite(K:ζ)(a:Addr):It :=
  ⟨λi H=>∃xs x,SqL K H a xs/\xs[i]?=some x,
   λi H v H'=>∃T,v=.ref T/\H T=none/\∀xs x,SqL K H a xs->xs[i]?=some x->H'=upd H T (.tup [.int i,x]),
   λi H=>∃xs,SqL K H a xs/\xs.length<=i⟩
noncomputable def Its(x:Str):It:=⟨λi _=>i<x.length,λi H v H'=>H'=H/\∃c,x.cps[i]?=some c/\v=.str ⟨#[c]⟩,λi _=>x.length<=i⟩
theorem dm{h:Heap}{a b:Addr}{o u:Obj}(e:h.get? a=some o)(e':h.get? b=some u)(d:o.cls≠u.cls):a≠b:=λz=>by
 subst z
 rw[e] at e'
 cases e'
 exact d rfl
theorem fJ(h:a≠b):Value.type a≠Value.type b:=λz=>h (Value.type.inj z)
theorem xm{P:Program}{w:World}{K:ζ}{elts:List Expr}{x1:Nat}{tpos:Pos}(a b z TI TO i1 i2:Addr)
  (n1:TI≠z) (n2:TO≠z) (n3:i1≠z) (n4:i2≠z) (n5:TI≠TO) (n6:TI≠i1) (n7:TI≠i2) (n8:TO≠i1) (n9:TO≠i2) (n10:i1≠i2) :
  Turn P w K (.Tuple elts x1 tpos) (Itz K a b) [z,TI,TO,i1,i2] z (λi h=>IsZip h z TI TO .none/\IsPair h TI (.ref i1) (.ref i2)/\(∃a b,IsPair h TO a b)/\h.IsListIter i1 a i/\h.IsListIter i2 b i) where
 mem:=by simp
 obj:=λi h st c hc=>by
  obtain⟨hz,hTI,⟨u,v,hTO⟩,⟨o1,e1,c1,d1⟩,⟨o2,e2,c2,d2⟩⟩:=st
  simp only[Γ,W6,or_false] at hc
  rcases hc with rfl | rfl | rfl | rfl | rfl
  ·exact⟨_,hz,λv z=>by simp at z⟩
  ·exact⟨_,hTI,λv z=>by simp at z⟩
  ·exact⟨_,hTO,λv z=>by simp at z⟩
  ·exact⟨_,e1,λv z=>by rw[d1] at z;cases z⟩
  ·exact⟨_,e2,λv z=>by rw[d2] at z;cases z⟩
 keep:=λi h h' st k=>by
  obtain⟨hz,hTI,⟨u,v,hTO⟩,h1,h2⟩:=st
  exact⟨k z (by simp) _ hz,k TI (by simp) _ hTI,⟨u,v,k TO (by simp) _ hTO⟩,h1.at λo e=>k i1 (by simp) o e,h2.at λo e=>k i2 (by simp) o e⟩
 item:=by
  intro X hP hw hK hc i pins s σ H E I hf st hg
  subst hP hw hK
  obtain⟨hz,hTI,⟨u,v,hTO⟩,h1,h2⟩:=st
  obtain⟨xs,ys,x,y,hq,hq2,hx,hy⟩:=hg
  obtain⟨its,rv,p,_⟩:=I.list hq
  obtain⟨its2,rv2,p2,_⟩:=I.list hq2
  obtain⟨ux,hux,rx⟩:=rv.get hx
  obtain⟨uy,huy,ry⟩:=rv2.get hy
  have L1:=p.isList
  have L2:=p2.isList
  obtain⟨o1,e1,c1,d1⟩:=id h1
  obtain⟨o2,e2,c2,d2⟩:=id h2
  obtain⟨oa,ea,ca,da⟩:=id L1
  obtain⟨ob,eb,cb,db⟩:=id L2
  have ap:ZipApart z TI TO i1 i2 a b:=⟨n1,n2,n3,n4,n5,n6,n7,n8,n9,n10,
   dm ea hz (by rw[ca];exact fJ (by decide)),dm ea hTO (by rw[ca];exact fJ (by decide)),dm ea e1 (by rw[ca,c1];exact fJ (by decide)),dm ea e2 (by rw[ca,c2];exact fJ (by decide)),
   dm eb hz (by rw[cb];exact fJ (by decide)),dm eb hTO (by rw[cb];exact fJ (by decide)),dm eb e1 (by rw[cb,c1];exact fJ (by decide)),dm eb e2 (by rw[cb,c2];exact fJ (by decide))⟩
  refine wpAny_pyNext_zip_item ap hz hTI hTO h1 h2 L1 L2 (x:=ux) (y:=uy) (by simpa using hux) (by simpa using huy) λh' z' TO' h1' h2' T' sz k=>?_
  have fr:H s.heap.objs.size=none:=I.hok.fresh (υ _)
  refine⟨_,rfl,wpAny_letOwnedTupleGo_zip z' λh2 hz2 sb=>?_⟩
  have ne:∀{c:Addr} {o:Obj},s.heap.get? c=some o->s.heap.objs.size≠c:=λe=>Nat.ne_of_gt (Heap.lt_size e)
  have k2:∀c o,c∉[z,TI,TO,i1,i2]->s.heap.get? c=some o->h2.get? c=some o:=λc o hc e=>by
   simp only[Γ,W6,or_false,not_or] at hc
   exact sb.extBut _ _ hc.1 (k c o hc.1 hc.2.2.1 hc.2.2.2.1 hc.2.2.2.2 e)
  have T2:h2.get? s.heap.objs.size=some { cls:=.type "tuple",data:=.seq #[ux,uy] }:=sb.extBut _ _ (ne hz) T'
  have I1:Inv X pins σ (upd H s.heap.objs.size (.tup [x,y])) { s with heap:=h2,toks:=s.toks }:=by
   refine I.turnNew hf k2 (υ _) ⟨by show 2<=_;rw[sizeLine_eq];omega,[ux,uy],.cons rx (.cons ry .nil),?_⟩
   exact⟨_,T2,rfl,0,rfl⟩
  refine⟨.ref s.heap.objs.size,_,I1,rfl,⟨_,rfl,fr,λxs' ys' x' y' q1 q2 q3 q4=>?_⟩,⟨hz2,?_,⟨_,_,sb.extBut _ _ n2 TO'⟩,h1'.extBut sb.extBut n3,h2'.extBut sb.extBut n4⟩,λc hc=>?_⟩
  ·rw[I.list_inj q1 hq] at q3
   rw[I.list_inj q2 hq2] at q4
   rw[hx] at q3
   rw[hy] at q4
   cases q3
   cases q4
   rfl
  ·exact sb.extBut _ _ n1 (k _ _ n1 n5 n6 n7 hTI)
  ·have hn:c≠s.heap.objs.size:=by
    simp only[Γ,W6,or_false] at hc
    rcases hc with rfl | rfl | rfl | rfl | rfl
    ·exact(ne hz).symm
    ·exact(ne hTI).symm
    ·exact(ne hTO).symm
    ·exact(ne e1).symm
    ·exact(ne e2).symm
   rw[upd_ne hn]
   exact(hf c hc).1
 done:=by
  intro X hP hw hK hc i pins s σ H E I hf st hg
  subst hP hw hK
  obtain⟨hz,hTI,⟨u,v,hTO⟩,h1,h2⟩:=st
  obtain⟨xs,ys,hq,hq2,hx⟩:=hg
  obtain⟨its,rv,p,_⟩:=I.list hq
  obtain⟨its2,rv2,p2,_⟩:=I.list hq2
  have L1:=p.isList
  have L2:=p2.isList
  obtain⟨o1,e1,c1,d1⟩:=id h1
  obtain⟨o2,e2,c2,d2⟩:=id h2
  obtain⟨oa,ea,ca,da⟩:=id L1
  obtain⟨ob,eb,cb,db⟩:=id L2
  have ap:ZipApart z TI TO i1 i2 a b:=⟨n1,n2,n3,n4,n5,n6,n7,n8,n9,n10,
   dm ea hz (by rw[ca];exact fJ (by decide)),dm ea hTO (by rw[ca];exact fJ (by decide)),dm ea e1 (by rw[ca,c1];exact fJ (by decide)),dm ea e2 (by rw[ca,c2];exact fJ (by decide)),
   dm eb hz (by rw[cb];exact fJ (by decide)),dm eb hTO (by rw[cb];exact fJ (by decide)),dm eb e1 (by rw[cb,c1];exact fJ (by decide)),dm eb e2 (by rw[cb,c2];exact fJ (by decide))⟩
  have hl:=rv.length
  have hl2:=rv2.length
  refine wpAny_pyNext_zip_end (I.ok.hd hc) ap hz hTI hTO h1 h2 L1 L2 (hx.imp (λq=>by simp;omega) λq=>by simp;omega) λh' k=>⟨rfl,?_⟩
  refine I.turnAll (t':=s.toks) hf λc o hc e=>?_
  simp only[Γ,W6,or_false,not_or] at hc
  exact k c o hc.1 hc.2.2.1 hc.2.2.2.1 hc.2.2.2.2 e
 self:=λ_ _ _ _ _ st h=>wpAny_pyIter_zip st.1 h
theorem vX{P:Program}{w:World}{K:ζ}{elts:List Expr}{x1:Nat}{tpos:Pos}(a e it:Addr)(n1:e≠it) :
  Turn P w K (.Tuple elts x1 tpos) (Ite K a) [e,it] e (λi h=>(∃old,IsEnum h e it ((i:Nat):Int) old)/\h.IsListIter it a i) where
 mem:=by simp
 obj:=λi h st c hc=>by
  obtain⟨⟨old,he⟩,⟨o1,e1,c1,d1⟩⟩:=st
  simp only[Γ,W6,or_false] at hc
  rcases hc with rfl | rfl
  ·exact⟨_,he,λv z=>by simp at z⟩
  ·exact⟨_,e1,λv z=>by rw[d1] at z;cases z⟩
 keep:=λi h h' st k=>by
  obtain⟨⟨old,he⟩,h1⟩:=st
  exact⟨⟨old,k e (by simp) _ he⟩,h1.at λo e=>k it (by simp) o e⟩
 item:=by
  intro X hP hw hK hc i pins s σ H E I hf st hg
  subst hP hw hK
  obtain⟨⟨old,he⟩,h1⟩:=st
  obtain⟨xs,x,hq,hx⟩:=hg
  obtain⟨its,rv,p,_⟩:=I.list hq
  obtain⟨ux,hux,rx⟩:=rv.get hx
  obtain⟨o1,e1,c1,d1⟩:=id h1
  have fr:H s.heap.objs.size=none:=I.hok.fresh (υ _)
  have ne:∀{c:Addr} {o:Obj},s.heap.get? c=some o->s.heap.objs.size≠c:=λe=>Nat.ne_of_gt (Heap.lt_size e)
  obtain⟨oa,ea,ca,da⟩:=id p.isList
  have ne1:a≠e:=dm ea he (by rw[ca];exact fJ (by decide))
  have ne2:a≠it:=dm ea e1 (by rw[ca,c1];exact fJ (by decide))
  refine wpAny_pyNext_enum_item he h1 p.isList (x:=ux) (by simpa using hux) n1 λh' e' h1' T' sz k=>?_
  refine⟨_,rfl,wpAny_letOwnedTupleGo_enum e' λh2 he2 sb=>?_⟩
  have k2:∀c o,c∉[e,it]->s.heap.get? c=some o->h2.get? c=some o:=λc o hc q=>by
   simp only[Γ,W6,or_false,not_or] at hc
   exact sb.extBut _ _ hc.1 (k c o hc.1 hc.2 q)
  have T2:h2.get? s.heap.objs.size=some { cls:=.type "tuple",data:=.seq #[.int i s.toks,ux] }:=sb.extBut _ _ (ne he) T'
  have I1:Inv X pins σ (upd H s.heap.objs.size (.tup [.int i,x])) { s with heap:=h2,toks:=s.toks+1 }:=by
   refine I.turnNew hf k2 (υ _) ⟨by show 2<=_;rw[sizeLine_eq];omega,[.int i s.toks,ux],.cons ⟨_,rfl⟩ (.cons rx .nil),?_⟩
   exact⟨_,T2,rfl,0,rfl⟩
  refine⟨.ref s.heap.objs.size,_,I1,rfl,⟨_,rfl,fr,λxs' x' q1 q3=>?_⟩,⟨⟨ux,he2⟩,h1'.extBut sb.extBut n1.symm⟩,λc hc=>?_⟩
  ·rw[I.list_inj q1 hq] at q3
   rw[hx] at q3
   cases q3
   rfl
  ·have hn:c≠s.heap.objs.size:=by
    simp only[Γ,W6,or_false] at hc
    rcases hc with rfl | rfl
    ·exact(ne he).symm
    ·exact(ne e1).symm
   rw[upd_ne hn]
   exact(hf c hc).1
 done:=by
  intro X hP hw hK hc i pins s σ H E I hf st hg
  subst hP hw hK
  obtain⟨⟨old,he⟩,h1⟩:=st
  obtain⟨xs,hq,hx⟩:=hg
  obtain⟨its,rv,p,_⟩:=I.list hq
  have hl:=rv.length
  refine wpAny_pyNext_enum_end (I.ok.hd hc) he h1 p.isList (by simp;omega) λh' k=>⟨rfl,?_⟩
  refine I.turnAll (t':=s.toks) hf λc o hc e=>?_
  simp only[Γ,W6,or_false,not_or] at hc
  exact k c o hc.2 e
 self:=λ_ _ _ _ _ st h=>by
  obtain⟨⟨old,he⟩,_⟩:=st
  exact wpAny_pyIter_enum he h
section
variable{X:Cx}{elts:List Expr}{x1:Nat}{tpos:Pos}
noncomputable def iZip(K:ζ)(ta:TA):TI:=λσ H R=>ta σ H λvs H1=>∃a b,vs=[.ref a,.ref b]/\(∃xs,SqL K H1 a xs)/\(∃ys,SqL K H1 b ys)/\R (Itz K a b) H1
noncomputable def iEnum(K:ζ)(ta:TA):TI:=λσ H R=>ta σ H λvs H1=>∃a,vs=[.ref a]/\(∃xs,SqL K H1 a xs)/\R (Ite K a) H1
noncomputable def iStr(tl:TE):TI:=λσ H R=>tl σ H λx H1=>∃z,x=.str z/\R (Its z) H1
theorem pi_zip{a b:Expr}{ta:TA}{p pos:Pos}(hg:Gl X "zip")(hm:X.mg "zip" = none)(ha:PA X [a,b] ta)(hs:starEach [a,b] X.env=[(false,eval a X.env),(false,eval b X.env)]:=by rfl)(hs2:starEach [b] X.env=[(false,eval b X.env)]:=by rfl) :
  PI X (.Tuple elts x1 tpos) (.Call (.Name "zip" p) [a,b] [] pos) (iZip X.K ta):=by
 intro pins s σ H R I h
 refine Call_ (jk I hg hm boot_zip (PyProof.Rows.callWith_type1 (thn (ha pos pins s σ H _ I h) λus s1 ⟨vs,H1,I1,r1,q1⟩=>?_) (by rw[hs,hs2]) (by rw[hs2];rfl)))
 obtain⟨l1,l2,e,⟨xs,hx⟩,⟨ys,hy⟩,q⟩:=q1
 subst e
 cases r1 with
 | cons r rr =>
  cases rr with
  | cons r' rr =>
   cases rr
   cases r
   cases r'
   obtain⟨its,rv,pl,_⟩:=I1.list hx
   obtain⟨its2,rv2,pl2,_⟩:=I1.list hy
   refine call_zip_2 pl.isList pl2.isList λh' hz hTI hTO h1 h2 sz k=>wpAny_pyIter_zip hz ?_
   refine⟨s1.heap.objs.size+4,[s1.heap.objs.size+4,s1.heap.objs.size+2,s1.heap.objs.size+3,s1.heap.objs.size,s1.heap.objs.size+1],_,_,H1,rfl,I1.kept (t':=s1.toks) k,
    xm l1 l2 (s1.heap.objs.size+4) (s1.heap.objs.size+2) (s1.heap.objs.size+3) s1.heap.objs.size (s1.heap.objs.size+1) (by show(_:Nat)≠_;omega) (by show(_:Nat)≠_;omega) (by show(_:Nat)≠_;omega) (by show(_:Nat)≠_;omega) (by show(_:Nat)≠_;omega) (by show(_:Nat)≠_;omega) (by show(_:Nat)≠_;omega) (by show(_:Nat)≠_;omega) (by show(_:Nat)≠_;omega) (by show(_:Nat)≠_;omega),⟨hz,hTI,⟨_,_,hTO⟩,h1,h2⟩,λc hc=>?_,q⟩
   have hc':s1.heap.objs.size<=c:=by
    simp only[Γ,W6,or_false] at hc
    rcases hc with rfl | rfl | rfl | rfl | rfl<;>first | exact Nat.le_add_right _ _ | exact υ _
   exact I1.fpOk hc' (I1.hok.fresh hc')
theorem u8{a:Expr}{ta:TA}{p pos:Pos}(hg:Gl X "enumerate")(hm:X.mg "enumerate" = none)(ha:PA X [a] ta)(hs:starEach [a] X.env=[(false,eval a X.env)]:=by rfl) :
  PI X (.Tuple elts x1 tpos) (.Call (.Name "enumerate" p) [a] [] pos) (iEnum X.K ta):=by
 intro pins s σ H R I h
 refine Call_ (jk I hg hm boot_enumerate (PyProof.Rows.callWith_type1 (thn (ha pos pins s σ H _ I h) λus s1 ⟨vs,H1,I1,r1,q1⟩=>?_) hs rfl))
 obtain⟨l1,e,⟨xs,hx⟩,q⟩:=q1
 subst e
 cases r1 with
 | cons r rr =>
  cases rr
  cases r
  obtain⟨its,rv,pl,_⟩:=I1.list hx
  refine call_enumerate_list pl.isList λh' he h1 sz k=>wpAny_pyIter_enum he ?_
  refine⟨s1.heap.objs.size+1,[s1.heap.objs.size+1,s1.heap.objs.size],_,_,H1,rfl,I1.kept (t':=s1.toks) k,
   vX l1 (s1.heap.objs.size+1) s1.heap.objs.size (by show(_:Nat)≠_;omega),⟨⟨_,he⟩,h1⟩,λc hc=>?_,q⟩
  have hc':s1.heap.objs.size<=c:=by
   simp only[Γ,W6,or_false] at hc
   rcases hc with rfl | rfl<;>first | exact Nat.le_add_right _ _ | exact υ _
  exact I1.fpOk hc' (I1.hok.fresh hc')
theorem ny{P:Program}{w:World}{K:ζ}{tg:Expr}(it:Addr)(x:Str)(t:Tok):Turn P w K tg (Its x) [it] it (λi h=>h.IsStrIter it "str_ascii_iterator" x t i) where
 mem:=by simp
 obj:=λi h st b hb=>by
  have e:b=it:=by simpa using hb
  subst e
  obtain⟨o,e,c,d⟩:=st
  exact⟨o,e,λv z=>by rw[d] at z;cases z⟩
 keep:=λi h h' st k=>let ⟨o,ho,r⟩:=st;⟨o,k it (by simp) o ho,r⟩
 item:=by
  intro X hP hw hK hc i pins s σ H E I hf st hg
  subst hP hw hK
  obtain⟨f0,f1,f2,f3,f4,f5⟩:=hf it (by simp)
  have hg:i<x.cps.size:=hg
  refine wpAny_pyNext_ascii_item st (c:=x.cps[i]) (by simp [hg]) λh' st' sb=>?_
  have I1:Inv X pins σ H { s with heap:=h',toks:=s.toks+1 }:=I.turned (λb o hb e=>(sb.2 b hb).trans e) f0 f1 f3 f4 f5
  obtain⟨o,e,c1,d1⟩:=id st'
  exact⟨_,rfl,sJ (s:={ s with heap:=h',toks:=s.toks+1 }) e c1 d1 (by decide) ⟨.str ⟨#[x.cps[i]]⟩,H,I1,⟨_,rfl⟩,⟨rfl,x.cps[i],by simp [hg],rfl⟩,st',λb hb=>(hf b hb).1⟩⟩
 done:=by
  intro X hP hw hK hc i pins s σ H E I hf st hg
  subst hP hw hK
  obtain⟨f0,f1,f2,f3,f4,f5⟩:=hf it (by simp)
  have hg:x.cps.size<=i:=hg
  exact wpAny_pyNext_ascii_end (I.ok.hd hc) st (by simp;omega) λh' eb=>⟨rfl,I.turned (t':=s.toks) (λb o hb e=>eb b o hb e) f0 f1 f3 f4 f5⟩
 self:=λ_ _ _ _ _ st h=>wpAny_pyIter_striter_ascii st h
theorem oU{P:Program}{w:World}{K:ζ}{tg:Expr}(it:Addr)(x:Str)(t:Tok):Turn P w K tg (Its x) [it] it (λi h=>h.IsStrIter it "str_iterator" x t i) where
 mem:=by simp
 obj:=λi h st b hb=>by
  have e:b=it:=by simpa using hb
  subst e
  obtain⟨o,e,c,d⟩:=st
  exact⟨o,e,λv z=>by rw[d] at z;cases z⟩
 keep:=λi h h' st k=>let ⟨o,ho,r⟩:=st;⟨o,k it (by simp) o ho,r⟩
 item:=by
  intro X hP hw hK hc i pins s σ H E I hf st hg
  subst hP hw hK
  obtain⟨f0,f1,f2,f3,f4,f5⟩:=hf it (by simp)
  have hg:i<x.cps.size:=hg
  refine wpAny_pyNext_wide_item st (c:=x.cps[i]) (by simp [hg]) λh' st' sb=>?_
  have I1:Inv X pins σ H { s with heap:=h',toks:=s.toks+1 }:=I.turned (λb o hb e=>(sb.2 b hb).trans e) f0 f1 f3 f4 f5
  obtain⟨o,e,c1,d1⟩:=id st'
  exact⟨_,rfl,sJ (s:={ s with heap:=h',toks:=s.toks+1 }) e c1 d1 (by decide) ⟨.str ⟨#[x.cps[i]]⟩,H,I1,⟨_,rfl⟩,⟨rfl,x.cps[i],by simp [hg],rfl⟩,st',λb hb=>(hf b hb).1⟩⟩
 done:=by
  intro X hP hw hK hc i pins s σ H E I hf st hg
  subst hP hw hK
  obtain⟨f0,f1,f2,f3,f4,f5⟩:=hf it (by simp)
  have hg:x.cps.size<=i:=hg
  exact wpAny_pyNext_wide_end (I.ok.hd hc) st (by simp;omega) λh' eb=>⟨rfl,I.turned (t':=s.toks) (λb o hb e=>eb b o hb e) f0 f1 f3 f4 f5⟩
 self:=λ_ _ _ _ _ st h=>wpAny_pyIter_striter_wide st h
theorem pi_str{l:Expr}{tl:TE}{tg:Expr}(hl:PE X l tl):PI X tg l (iStr tl):=by
 intro pins s σ H R I h
 refine thn (hl pins s σ H _ I h) λv s1 ⟨x,H1,I1,r1,q1⟩=>?_
 obtain⟨z,e,q⟩:=q1
 subst e
 obtain⟨t,rfl⟩:=r1
 have fp:∀b∈[s1.heap.objs.size],lh X pins H1 b:=λb hb=>by
  have e:b=s1.heap.objs.size:=by simpa using hb
  subst e
  exact I1.fpOk (υ _) (I1.hok.fresh (υ _))
 cases ha:z.cps.all (· < 128)
 ·exact wpAny_pyIter_wide ha ⟨s1.heap.objs.size,[s1.heap.objs.size],_,_,H1,rfl,I1.kept (t':=s1.toks) λb o e=>Heap.get?_push_of_some _ e,oU _ z t,⟨_,Heap.get?_push_size _ rfl,rfl,rfl⟩,fp,q⟩
 ·exact wpAny_pyIter_ascii ha ⟨s1.heap.objs.size,[s1.heap.objs.size],_,_,H1,rfl,I1.kept (t':=s1.toks) λb o e=>Heap.get?_push_of_some _ e,ny _ z t,⟨_,Heap.get?_push_size _ rfl,rfl,rfl⟩,fp,q⟩
end
end L2
namespace L2
open PyProof.Rows
noncomputable def aH(X:Cx)(scope:Scope)(cl:List (Str×Addr))(fr:List (Nat×Str))(tn:List Str)(C:Addr)(s3:Shared)(H3:Hp)(fp:List Addr):Cx where
 prog:=X.prog
 w:=X.w
 K:=X.K
 mg:=X.mg
 base:=X.base
 A:=X.A
 N:=tn++fr.map (·.2)
 s₀:=s3
 H₀:=H3
 env:=compEnvC scope cl C X.env
 outer:=X.stack
 stack:=X.stack
 ex:=fp
 fn:=λ_=>false
 calm:=X.calm
 pn:=[]
 xe:=λ_ _=>False
noncomputable def jE(n:Nat)(fr:List (Nat×Str))(σ:St):St:=ρ n none++fr.map λp=>(σ[p.1]?).join
def qj(n:Nat)(fr:List (Nat×Str))(wi:TI)(g:TG)(tc:TT)(te:TE):TE:=λσ H Q=>wi σ H λJ H1=>∀l,H1 l=none->∃W:Nat->Nat->St->List V->Hp->Prop,(∃m,W 0 m (jE n fr σ) [] (upd H1 l (.lst []))) /\
 ∀i m τ xs H2,W i m τ xs H2->H2 l=some (.lst xs)/\((J.stop i H2/\Q (.ref l) H2)\/(J.go i H2/\xs.length<sizeLine/\∀x H3,J.yld i H2 x H3->g x τ H3 λτ' H4=>tc τ' H4 λb H5=>if b=true then te τ' H5 λv H6=>H6 l=some (.lst xs)/\∃m',m'<m/\W (i+1) m' τ' (xs++[v]) (upd H6 l (.lst (xs++[v]))) else ∃m',m'<m/\W (i+1) m' τ' xs H5))
section
theorem sY(I:Inv X pins σ H3 s3)(hkind:scope.kind=.function)(hsub:∀y c,cl.lookup y=some c->X.env.cells.lookup y=some c)(hhas:∀y∈(relabel scope X.env).names,(y.2=.cell\/y.2=.free)->∃c,cl.lookup y.1=some c)
  (hC:s3.heap.objs.size<=C) (hf:∀b∈fp,lh X pins H3 b/\∃o,s3.heap.get? b=some o) (hfs:∀b∈fp,b∉frs X.stack) (hbase:∀b∈fp,X.base.get? b=none):(aH X scope cl fr tn C s3 H3 fp).Ok where
 mod:=I.ok.mod
 kind:=hkind
 glob:=I.ok.glob
 blt:=I.ok.blt
 above:=hC
 inj:=λy z c h1 h2=>I.ok.inj y z c (hsub y c h1) (hsub z c h2)
 has:=λy h=>by
  rcases h with h | h
  ·exact hhas _ (PySem.mem_of_lookup h) (.inl rfl)
  ·exact hhas _ (PySem.mem_of_lookup h) (.inr rfl)
 cab:=λy c h=>by cases h
 hd:=I.ok.hd
 frames:=I.ok.frames
 stk:=.inl rfl
 exf:=λb hb=>⟨by
  obtain⟨o,ho⟩:=(hf b hb).2
  exact Z8 (Z2 (Heap.lt_size ho) hC),λy c h=>(hf b hb).1.2.2.2.2.1 y c (hsub y c h)⟩
 bs:=I.bs
 bsz:=W1 I.ok.bsz I.sz
 noex:=λb o e hb=>by
  have e1:X.base.get? b=some o:=e
  rw[hbase b hb] at e1;cases e1
 exfs:=hfs
 funs:=I.stack
 frf:=I.stkFree
theorem p8(I:Inv X pins σ H3 s3)(hf:∀b∈fp,lh X pins H3 b)(hC:s3.heap.objs.size<=C)
  (I5:Inv (aH X scope cl fr tn C s3 H3 fp) pins5 σ5 H5 s5) (hs:Heap.SameBut C s5.heap h'):Inv X pins σ H5 { s5 with heap:=h' }:=by
 have nC:∀{b:Addr} {o:Obj},s3.heap.get? b=some o->b≠C:=λe=>Z8 (Z2 (Heap.lt_size e) hC)
 have u:Un (frs X.stack) fp H3 H5 s3.heap s5.heap:=I5.base
 refine I.call' (ch:=fp) I5.os ⟨λb o e n h1 h2=>?_,λb o e n h1 h2=>?_,u.free,λb o e h2=>?_,u.tups,u.frzs,u.tbls⟩ ?_ I5.bare λb hb=>?_
 ·exact(hs.2 b (nC e)).trans (u.keep b o e n h1 h2)
 ·obtain⟨sl,e1⟩:=u.slot b o e n h1 h2
  exact⟨sl,(hs.2 b (nC e)).trans e1⟩
 ·obtain⟨o',e1⟩:=u.there b o e h2
  exact⟨o',(hs.2 b (nC e)).trans e1⟩
 ·intro a o e
  have hn:H5 C=none:=I5.free
  refine(I5.hok a o e).stay (λb u hb q=>(hs.2 b ?_).trans q) (λ_ q=>q) λ_ _ q=>q
  rcases hb with rfl | hb
  ·exact aJ e hn
  ·exact aJ hb hn
 ·obtain⟨_,f1,_,f3,f4,f5⟩:=hf b hb
  exact⟨f3,f1,f4,f5⟩
def PTs(X:Cx)(ifs:List Expr)(t:TT):Prop :=
 ∀(pins:List (Addr×Obj)) (s:Shared) (σ:St) (H:Hp) (Q:Bool->Hp->Prop),Inv X pins σ H s->t σ H Q ->
  wpAny (model X.prog X.w) X.A (forIn ifs true λc r=>if r=true then do let ok <- isTrue c X.env (eval c X.env);pure (ForInStep.yield ok) else pure (ForInStep.yield r)) (TP X pins σ Q) X.xe s
noncomputable def tYes:TT:=λ_ H Q=>Q true H
theorem pts_nil:PTs X [] tYes:=λpins s σ H Q I h=>wpAny_tests_nil ⟨H,I,h⟩
theorem pts_one(h:PT X c t):PTs X [c] t:=λpins s σ H Q I hq=>wpAny_tests_one (h pins s σ H Q I hq)
theorem nV(hc:X.calm=true)
  (hkind:scope.kind=.function) (hcell:∀y∈scope.names,y.2≠.cell) (hclos:closureFor scope X.env=pure cl) (hsub:∀y c,cl.lookup y=some c->X.env.cells.lookup y=some c)
  (hhas:∀y∈(relabel scope X.env).names,(y.2=.cell\/y.2=.free)->∃c,cl.lookup y.1=some c) (hfr:∀p∈fr,X.N[p.1]?=some p.2/\X.env.kindOf p.2=some .cell/\(compEnvC scope cl 0 X.env).kindOf p.2=some .cell/\∃c,cl.lookup p.2=some c) (hnames:∀y∈scope.names,y.2=.local->scope.names.lookup y.1=some .local)
  (hi:PI X tg iter wi) (hg:∀C s3 H3 fp,PG (aH X scope cl fr tn C s3 H3 fp) tg g) (hcs:∀C s3 H3 fp,PTs (aH X scope cl fr tn C s3 H3 fp) ifs tc) (he:∀C s3 H3 fp,PE (aH X scope cl fr tn C s3 H3 fp) elt te) (hs:∀x,foldedSetIterable iter X.env x=pure x:=by intro _;rfl) :
  PE X (.ListComp elt [⟨tg,iter,ifs,0⟩] scope pos) (qj tn.length fr wi g tc te):=by
 intro pins s σ H Q I h
 rw[eval_ListComp]
 refine wpAny_comprehension_free (use:=none) rfl hs hclos hkind hnames (thn (hi pins s σ H _ I h) λv s1 h1=>thn h1 λitv s2 h2=>?_)
 obtain⟨it,fp,tk,J,H2,e,I2,T,st2,f2,R⟩:=h2
 subst e
 have fl:H2 s2.heap.objs.size=none:=I2.hok.fresh (υ _)
 obtain⟨W,⟨m0,w0⟩,turn⟩:=R s2.heap.objs.size fl
 refine wpAny_newObj_type (wpAny_newFunctionEnv hcell (by intro y hy;simp at hy) (λh4 hns hsb=>?_) hkind)
 have I3:Inv X pins σ (upd H2 s2.heap.objs.size (.lst [])) { s2 with heap:=s2.heap.push { cls:=.type "list",data:=.seq ([]:List Value).toArray } } :=
  I2.laid (t':=s2.toks) (λb o e=>Heap.get?_push_of_some _ e) (υ _) ⟨X8 _,[],0,.nil,Heap.get?_push_size _ rfl⟩
 have ob:∀b∈fp,∃o,s2.heap.get? b=some o:=λb hb=>let ⟨o,ho,_⟩:=T.obj 0 _ st2 b hb;⟨o,ho⟩
 have f3:∀b∈fp,lh X pins (upd H2 s2.heap.objs.size (.lst [])) b:=λb hb=>by
  obtain⟨g0,g1,g2,g3,g4,g5⟩:=f2 b hb
  obtain⟨o,ho⟩:=ob b hb
  exact⟨by rw[upd_ne (Z8 (Heap.lt_size ho))];exact g0,g1,g2,g3,g4,g5⟩
 generalize hs3:({ s2 with heap:=s2.heap.push { cls:=.type "list",data:=.seq ([]:List Value).toArray } }:Shared)=s3 at I3
 have heap3:s2.heap.push { cls:=.type "list",data:=.seq ([]:List Value).toArray }=s3.heap:=by rw[<-hs3]
 have old3:∀b o,s2.heap.get? b=some o->s3.heap.get? b=some o:=λb o e=>by rw[<-heap3];exact Heap.get?_push_of_some _ e
 have ok3:(aH X scope cl fr tn s3.heap.objs.size s3 (upd H2 s2.heap.objs.size (.lst [])) fp).Ok:=by
  refine sY I3 hkind hsub hhas (υ _) (λb hb=>⟨f3 b hb,let ⟨o,ho⟩:=ob b hb;⟨o,old3 b o ho⟩⟩) (λb hb z=>?_) λb hb=>?_
  ·obtain⟨_,g1,g2,_⟩:=f2 b hb
   rcases Γ.mp (I2.stkSub b z) with q | q
   ·exact g1 q
   ·exact g2 q
  ·obtain⟨_,_,_,g3,_⟩:=f2 b hb
   rcases g3 with q | q
   ·cases e:X.base.get? b with
    | none=>rfl
    | some o=>exact absurd q (I.ok.noex b o e)
   ·exact Heap.get?_none_of_le (W1 I.ok.bsz q)
 have hns3:h4.Ns s3.heap.objs.size (λy=>([]:List (Str×Value)).reverse.lookup y):=by rw[<-heap3];exact hns
 have keep4:∀b o,s3.heap.get? b=some o->h4.get? b=some o:=λb o e=>by
  have e1:(s2.heap.push { cls:=.type "list",data:=.seq ([]:List Value).toArray }).get? b=some o:=by rw[heap3];exact e
  exact(hsb.2 b (Z8 (Heap.lt_size e1))).trans (Heap.get?_push_of_some _ e1)
 have I4:Inv (aH X scope cl fr tn s3.heap.objs.size s3 (upd H2 s2.heap.objs.size (.lst [])) fp) [] (jE tn.length fr σ) (upd H2 s2.heap.objs.size (.lst [])) { s3 with heap:=h4 }:=by
  refine⟨ok3,rfl,I3.bare,Un.kept keep4,⟨_,hns3,λi y v e1 e2 e3=>?_⟩,(λy c h=>let ⟨v,oc,ho,hd⟩:=I3.cell y c (hsub y c h);⟨v,oc,keep4 _ _ ho,hd⟩),I3.hok.fresh (υ _),(λy c h=>I3.freeC y c (hsub y c h)),(λp hp=>nomatch hp),I3.hok.kept keep4,by simp [aH,jE]⟩
  have e1:(tn++fr.map (·.2))[i]?=some y:=e1
  have e2:(ρ tn.length none++fr.map λp=>(σ[p.1]?).join)[i]?=some (some v):=e2
  by_cases hlt:i<tn.length
  ·rw[ξ (by simpa using hlt),X5] at e2
   split at e2<;>cases e2
  ·rw[χ (by omega)] at e1
   rw[χ (by simpa using hlt),Z1] at e2
   rw[Λ] at e1 e2
   cases q:fr[i-tn.length]? with
   | none=>rw[q] at e1;cases e1
   | some p =>
    rw[q] at e1 e2
    have e1:p.2=y:=Option.some.inj e1
    have e2:(σ[p.1]?).join=some v:=Option.some.inj e2
    subst e1
    obtain⟨g1,g2,g3,c,g4⟩:=hfr p (W4 q)
    have e4:σ[p.1]?=some (some v):=by
     cases z:σ[p.1]? with
     | none=>rw[z] at e2;cases e2
     | some w'=>rw[z] at e2;exact congrArg some e2
    obtain⟨m,hn,hl⟩:=I3.loc
    obtain⟨u,ru,lk⟩:=hl p.1 p.2 v g1 e4 (.inr (.inl g2))
    refine⟨u,ru,.inr ⟨.inl g3,c,g4,?_⟩⟩
    rcases lk with ⟨k1,_⟩ | ⟨_,c',k2,k3⟩
    ·rw[g2] at k1;cases k1
    ·rw[hsub _ _ g4] at k2
     cases k2
     obtain⟨oc,ho,hd⟩:=k3
     exact⟨oc,keep4 _ _ ho,hd⟩
 have st4:tk 0 h4:=T.keep 0 _ _ st2 λb hb o e=>keep4 b o (old3 b o e)
 have loop:codeAny (model X.prog X.w) X.A (.compLoop (.ListComp elt [⟨tg,iter,ifs,0⟩] scope pos) 0 (.ref it) (.ref s2.heap.objs.size) (compEnvC scope cl s3.heap.objs.size X.env))
   (compPost (model X.prog X.w) X.A X.xe none (EP X pins σ Q) (.ref s2.heap.objs.size) s3.heap.objs.size) { s3 with heap:=h4 }:=by
  refine codeAny_loop rfl (λn s'=>∃i σ' xs H',Inv (aH X scope cl fr tn s3.heap.objs.size s3 (upd H2 s2.heap.objs.size (.lst [])) fp) [] σ' H' s'/\tk i s'.heap/\(∀b∈fp,H' b=none)/\W i n σ' xs H') (λn s' hI=>?_) m0
   ⟨0,_,[],_,I4,st4,λb hb=>(f3 b hb).1,w0⟩
  show wpAny _ _ ((compTurn (.ListComp elt [⟨tg,iter,ifs,0⟩] scope pos) 0 (.ref it) (.ref s2.heap.objs.size) (compEnvC scope cl s3.heap.objs.size X.env)).onRaise (λx=>do noteFrame x _;theTreesLotGoes x)) _ _ s'
  refine wpAny_noted ?_
  rw[compTurn_list]
  obtain⟨i,σ5,xs,H5,I5,st5,fr5,w5⟩:=hI
  have stat:∀{H':Hp},(∀b∈fp,H' b=none)->∀b∈fp,lh (aH X scope cl fr tn s3.heap.objs.size s3 (upd H2 s2.heap.objs.size (.lst [])) fp) [] H' b:=λhn b hb =>
   ⟨hn b hb,(ok3.exf b hb).1,ok3.exfs b hb,.inl hb,(ok3.exf b hb).2,λp hp=>nomatch hp⟩
  obtain⟨hl,alt⟩:=turn i n σ5 xs H5 w5
  rcases alt with ⟨stop,qn⟩ | ⟨go,hz,step⟩
  ·refine wpAny_bind (wpAny_standAt (wpAny_bind (thn (T.done (aH X scope cl fr tn s3.heap.objs.size s3 (upd H2 s2.heap.objs.size (.lst [])) fp) rfl rfl rfl hc i [] s' σ5 H5 _ I5 (stat fr5) st5 stop) λr s6 ⟨hr,I6⟩=>?_)))
   subst hr
   refine wpAny_pure ?_
   obtain⟨m,hn6,_⟩:=I6.loc
   exact⟨m,hn6,λh' hs'=>⟨.ref s2.heap.objs.size,H5,p8 I3 f3 (υ _) I6 hs',rfl,qn⟩⟩
  ·refine wpAny_bind (wpAny_standAt (wpAny_bind (thn (T.item (aH X scope cl fr tn s3.heap.objs.size s3 (upd H2 s2.heap.objs.size (.lst [])) fp) rfl rfl rfl hc i [] s' σ5 H5 _ I5 (stat fr5) st5 go) λr s6 ⟨u,hr,h6⟩=>?_)))
   subst hr
   refine wpAny_bind (thn h6 λ_ s7 ⟨y,H7,I7,r7,y7,st7,fr7⟩=>?_)
   have I7':=I7.pinned (stat fr7) (T.obj _ _ st7)
   have hP:=hg s3.heap.objs.size s3 (upd H2 s2.heap.objs.size (.lst [])) fp _ s7 σ5 H7 y u _ I7' r7 (step y H7 y7)
   refine wpAny_bind (wpAny_mono hP (λ_ s8 ⟨σ8,H8,I8,q8⟩=>?_) (λ_ _ z=>False.elim z))
   refine wpAny_bind (wpAny_mono (hcs s3.heap.objs.size s3 (upd H2 s2.heap.objs.size (.lst [])) fp _ s8 σ8 H8 _ I8 q8) (λb s9 ⟨H9,I9,q9⟩=>?_) (λ_ _ z=>False.elim z))
   have again:∀{σ7:St} {H7:Hp} {s7':Shared} {xs':List V},Inv (aH X scope cl fr tn s3.heap.objs.size s3 (upd H2 s2.heap.objs.size (.lst [])) fp) ([]++lX fp s7.heap) σ7 H7 s7'->(∃m',m'<n/\W (i+1) m' σ7 xs' H7) ->
     ∃m,m<n/\∃i σ' xs H',Inv (aH X scope cl fr tn s3.heap.objs.size s3 (upd H2 s2.heap.objs.size (.lst [])) fp) [] σ' H' s7'/\tk i s7'.heap/\(∀b∈fp,H' b=none)/\W i m σ' xs H':=λ{σ7 H7 s7' xs'} I7 n7=>by
    obtain⟨m',hm,w7⟩:=n7
    refine⟨m',hm,i+1,σ7,xs',H7,I7.unpinned,T.keep _ _ _ st7 λb hb o e=>(I7.pin (b,o) (Y0 _ (Y0 _ (fP hb e)))).1,λb hb=>?_,w7⟩
    obtain⟨o,e,d⟩:=T.obj _ _ st7 b hb
    exact(I7.pin (b,o) (Y0 _ (Y0 _ (fP hb e)))).2.1
   cases b with
   | false =>
    rw[if_neg ω] at q9
    exact wpAny_pure ⟨rfl,again I9 q9⟩
   | true =>
    rw[if_pos rfl] at q9
    refine wpAny_bind (wpAny_bind (wpAny_mono (he _ _ _ _ _ s9 σ8 H9 _ I9 q9) (λuv s10 ⟨v,H10,I10,r10,hl10,w10⟩=>?_) λ_ _ z=>z.elim))
    refine wpAny_bind (wpAny_mono (kr (X:=aH X scope cl fr tn s3.heap.objs.size s3 (upd H2 s2.heap.objs.size (.lst [])) fp) _ s10 _ H10 (.ref s2.heap.objs.size) [v] (.ref s2.heap.objs.size) [uv] (λ_ H'=>H'=upd H10 s2.heap.objs.size (.lst (xs++[v]))) I10 rfl (.cons r10 .nil) ⟨_,xs,v,rfl,rfl,hl10,hz,rfl⟩) (λ_ s11 ⟨v11,H11,I11,r11,q11⟩=>?_) (λ_ _ z=>False.elim z))
    subst q11
    exact wpAny_pure (wpAny_pure ⟨rfl,again I11 w10⟩)
 subst hs3
 exact codeAny_compStart_list loop (T.self _ 0 _ _ _ st4 loop)
end
end L2
namespace DL
open PyProof.Rows L2
structure Yl(K:ζ)(J:It)(O:List Addr)(H1:Hp)(ds:List D):Prop where
 step:∀(O2:List Addr) (H2:Hp),To O O2 H1 H2->∀(i:Nat) (d:D),ds[i]?=some d->J.go i H2/\∀x H3,J.yld i H2 x H3->aG H2 H3/\Rep K O2 H3 x d
 stop:∀(O2:List Addr) (H2:Hp),To O O2 H1 H2->J.stop ds.length H2
def PDI(X:Cx)(G:XD->Hp->Prop)(tg iter:Expr)(fi:DS->M (List D)):Prop :=
 ∃wi,PI X tg iter wi/\∀{Hr:Hp} (δ:DS) (O:List Addr) (σ:St) (H:Hp) (R:It->Hp->Prop),Ev X.K Hr O H σ δ->ok (GS G Hr) (fi δ) (λds=>∀J H1,aG H H1->Yl X.K J O H1 ds->R J H1)->wi σ H R
section
variable{K:ζ}{O:List Addr}{H1:Hp}
theorem yl_list{a:Addr}{xs:List V}{ds:List D}(hk:∀(O2:List Addr) (H2:Hp),To O O2 H1 H2->SqL K H2 a xs)(rs:Reps K O H1 xs ds):Yl K (Itl K a) O H1 ds:=by
 refine⟨λO2 H2 t i d hd=>?_,λO2 H2 t=>⟨xs,hk O2 H2 t,by rw[rs.length];exact υ _⟩⟩
 obtain⟨v,hv,r⟩:=rs.get hd
 refine⟨⟨xs,v,hk O2 H2 t,hv⟩,λx H3 y=>?_⟩
 obtain⟨rfl,y⟩:=y
 have:=y xs (hk O2 H3 t)
 rw[hv] at this
 cases this
 exact⟨aG.refl _,r.to t⟩
theorem yl_tup{a:Addr}{xs:List V}{ds:List D}(hq:SqT K H1 a xs)(rs:Reps K O H1 xs ds):Yl K (Itt K a) O H1 ds:=by
 refine⟨λO2 H2 t i d hd=>?_,λO2 H2 t=>⟨xs,t.sqT hq,by rw[rs.length];exact υ _⟩⟩
 obtain⟨v,hv,r⟩:=rs.get hd
 refine⟨⟨xs,v,t.sqT hq,hv⟩,λx H3 y=>?_⟩
 obtain⟨rfl,y⟩:=y
 have:=y xs (t.sqT hq)
 rw[hv] at this
 cases this
 exact⟨aG.refl _,r.to t⟩
theorem nk{lo:Int}{n:Nat}:Yl K (Itr lo n) O H1 (b6 lo n):=by
 have hl:(b6 lo n).length=n:=by unfold b6;rw[θ,Z9]
 refine⟨λO2 H2 t i d hd=>?_,λO2 H2 t=>by rw[hl];exact υ _⟩
 have hi:i<n:=by
  have:=(ς.mp hd).1
  omega
 refine⟨hi,λx H3 y=>?_⟩
 obtain⟨rfl,rfl⟩:=y
 unfold b6 at hd
 rw[Λ,W0 hi] at hd
 cases hd
 exact⟨aG.refl _,.int _⟩
theorem Rep.lstTo{v:V}{ds:List D}(r:Rep K O H1 v (.list ds)):∃a xs,v=.ref a/\SqL K H1 a xs/\(∀(O2:List Addr) (H2:Hp),To O O2 H1 H2->SqL K H2 a xs)/\Reps K O H1 xs ds:=by
 cases r with
 | lst h n rs=>exact⟨_,_,rfl,.inl h,λO2 H2 t=>.inl (t.l _ _ n h).2,rs⟩
 | lstK h rs=>exact⟨_,_,rfl,.inr h,λ_ _ _=>.inr h,rs⟩
noncomputable def mN(xs ys:List D):List D:=List.zipWith (λx y=>.tuple [x,y]) xs ys
theorem xg{xs ys:List D}{i:Nat}{d:D}(h:(mN xs ys)[i]?=some d):∃x y,xs[i]?=some x/\ys[i]?=some y/\d=.tuple [x,y]:=by
 unfold mN at h
 rw[List.getElem?_zipWith] at h
 split at h
 ·rename_i x y hx hy
  cases h
  exact⟨x,y,hx,hy,rfl⟩
 ·cases h
theorem yl_zip{a b:Addr}{xs ys:List V}{ds es:List D}(hk:∀(O2:List Addr) (H2:Hp),To O O2 H1 H2->SqL K H2 a xs)(hk2:∀(O2:List Addr) (H2:Hp),To O O2 H1 H2->SqL K H2 b ys)(rs:Reps K O H1 xs ds)(rs2:Reps K O H1 ys es):Yl K (Itz K a b) O H1 (mN ds es):=by
 refine⟨λO2 H2 t i d hd=>?_,λO2 H2 t=>⟨xs,ys,hk O2 H2 t,hk2 O2 H2 t,?_⟩⟩
 ·obtain⟨x,y,hx,hy,rfl⟩:=xg hd
  obtain⟨v,hv,r⟩:=rs.get hx
  obtain⟨u,hu,r2⟩:=rs2.get hy
  refine⟨⟨xs,ys,v,u,hk O2 H2 t,hk2 O2 H2 t,hv,hu⟩,λz H3 q=>?_⟩
  obtain⟨T,rfl,hT,q⟩:=q
  have e:=q xs ys v u (hk O2 H2 t) (hk2 O2 H2 t) hv hu
  subst e
  exact⟨ba hT,gZ hT (.cons (r.to t) (.cons (r2.to t) .nil))⟩
 ·unfold mN
  rw[List.length_zipWith,rs.length,rs2.length]
  omega
noncomputable def b5(n:Nat):List D->List D
 | []=>[]
 | x::xs=>.tuple [.int (n:Int),x]::b5 (n+1) xs
theorem mr(n:Nat)(xs:List D):(b5 n xs).length=xs.length:=by
 induction xs generalizing n with
 | nil=>rfl
 | cons x xs ih=>show(b5 (n+1) xs).length+1=_;rw[ih];rfl
theorem kE{xs:List D}{n i:Nat}{d:D}(h:(b5 n xs)[i]?=some d):∃x,xs[i]?=some x/\d=.tuple [.int ((n+i:Nat):Int),x]:=by
 induction xs generalizing n i with
 | nil=>cases h
 | cons x xs ih =>
  cases i with
  | zero=>cases h;exact⟨x,rfl,rfl⟩
  | succ i =>
   obtain⟨y,hy,e⟩:=ih (n:=n+1) (i:=i) h
   have:n+1+i=n+(i+1):=by omega
   rw[this] at e
   exact⟨y,hy,e⟩
theorem yl_enum{a:Addr}{xs:List V}{ds:List D}(hk:∀(O2:List Addr) (H2:Hp),To O O2 H1 H2->SqL K H2 a xs)(rs:Reps K O H1 xs ds):Yl K (Ite K a) O H1 (b5 0 ds):=by
 refine⟨λO2 H2 t i d hd=>?_,λO2 H2 t=>⟨xs,hk O2 H2 t,?_⟩⟩
 ·obtain⟨x,hx,rfl⟩:=kE hd
  obtain⟨v,hv,r⟩:=rs.get hx
  refine⟨⟨xs,v,hk O2 H2 t,hv⟩,λz H3 q=>?_⟩
  obtain⟨T,rfl,hT,q⟩:=q
  have e:=q xs v (hk O2 H2 t) hv
  subst e
  rw[Nat.zero_add]
  exact⟨ba hT,gZ hT (.cons (.int _) (.cons (r.to t) .nil))⟩
 ·rw[mr,rs.length]
  exact υ _
noncomputable def lQ(z:Str):List D:=z.cps.toList.map λc=>.str ⟨#[c]⟩
theorem yl_str{z:Str}:Yl K (Its z) O H1 (lQ z):=by
 have hl:(lQ z).length=z.length:=by unfold lQ;rw[θ,T8];rfl
 refine⟨λO2 H2 t i d hd=>?_,λO2 H2 t=>by rw[hl];exact υ _⟩
 have hi:i<z.length:=by
  have:=(ς.mp hd).1
  omega
 refine⟨hi,λx H3 y=>?_⟩
 obtain⟨rfl,c,hc,rfl⟩:=y
 unfold lQ at hd
 rw[Λ,Array.getElem?_toList,hc] at hd
 cases hd
 exact⟨aG.refl _,.str _⟩
end
section
variable{X:Cx}{G:XD->Hp->Prop}{tg iter a b:Expr}{f:DS->M D}{fa:DS->M (List D)}{pos p:Pos}{elts:List Expr}{x1:Nat}{tpos:Pos}
noncomputable def dSeq(f:DS->M D):DS->M (List D):=λδ=>(f δ).thn λd=>M.lift (seqD d)
theorem pdi_seq(h:PD X G iter f):PDI X G tg iter (dSeq f):=by
 obtain⟨t,q,h⟩:=h
 refine⟨_,pi_seq q,λδ O σ H R E k=>?_⟩
 refine h δ O σ H _ E (ah (aq k) λd z v H1 s1 r=>?_)
 obtain⟨ds,hd,z⟩:=cy z
 cases d with
 | list es =>
  cases hd
  obtain⟨a,xs,rfl,hq,hk,rs⟩:=r.lstTo
  exact⟨a,rfl,.inl ⟨⟨xs,hq⟩,z _ H1 s1 (yl_list hk rs)⟩⟩
 | tuple es =>
  cases hd
  obtain⟨a,xs,rfl,hq,rs⟩:=r.tup_inv
  exact⟨a,rfl,.inr ⟨⟨xs,hq⟩,z _ H1 s1 (yl_tup hq rs)⟩⟩
 | _=>cases hd
noncomputable def kf(rng:List D->Option (List D))(fa:DS->M (List D)):DS->M (List D):=λδ=>(fa δ).thn λds=>M.lift (rng ds)
theorem pdi_rng1(hgl:Gl X "range")(hm:X.mg "range" = none)(ha:PDA X G [a] fa)(hs1:starEach [a] X.env=[(false,eval a X.env)]:=by rfl):PDI X G tg (.Call (.Name "range" p) [a] [] pos) (kf gY fa):=by
 obtain⟨_,ta,pa,ha⟩:=ha
 refine⟨_,pH hgl hm pa hs1,λδ O σ H R E k=>?_⟩
 refine ha δ O σ H _ E (ah (aq k) λds z vs H1 s1 rs=>?_)
 obtain⟨xs,hd,z⟩:=cy z
 unfold gY at hd
 split at hd
 ·rename_i j
  by_cases hz:b62 j=true
  ·rw[if_pos hz] at hd
   cases hd
   obtain⟨v,rfl,r⟩:=fK rs
   obtain⟨z1,z2⟩:=rF hz
   exact⟨j,by rw[r.int_inv],z1,z2,z _ H1 s1 nk⟩
  ·rw[if_neg hz] at hd;cases hd
 ·cases hd
theorem pdi_rng2(hgl:Gl X "range")(hm:X.mg "range" = none)(ha:PDA X G [a,b] fa)(hs1:starEach [a,b] X.env=[(false,eval a X.env),(false,eval b X.env)]:=by rfl)(hs2:starEach [b] X.env=[(false,eval b X.env)]:=by rfl) :
  PDI X G tg (.Call (.Name "range" p) [a,b] [] pos) (kf wa fa):=by
 obtain⟨_,ta,pa,ha⟩:=ha
 refine⟨_,wg hgl hm pa hs1 hs2,λδ O σ H R E k=>?_⟩
 refine ha δ O σ H _ E (ah (aq k) λds z vs H1 s1 rs=>?_)
 obtain⟨xs,hd,z⟩:=cy z
 unfold wa at hd
 split at hd
 ·rename_i i j
  by_cases hz:(b62 i&&b62 j)=true
  ·rw[if_pos hz] at hd
   cases hd
   obtain⟨v,v',rfl,r,r'⟩:=uW rs
   obtain⟨hz1,hz2⟩:=Bool.and_eq_true_iff.mp hz
   obtain⟨z1,z2⟩:=rF hz1
   obtain⟨z3,z4⟩:=rF hz2
   exact⟨i,j,by rw[r.int_inv,r'.int_inv],⟨z1,z2,z3,z4⟩,z _ H1 s1 nk⟩
  ·rw[if_neg hz] at hd;cases hd
 ·cases hd
noncomputable def sW(fa:DS->M (List D)):DS->M (List D):=λδ=>(fa δ).thn λds=>match ds with
 | [.list xs,.list ys]=>M.ret (mN xs ys)
 | _=>none
theorem pdi_zip(hgl:Gl X "zip")(hm:X.mg "zip" = none)(ha:PDA X G [a,b] fa)(hs1:starEach [a,b] X.env=[(false,eval a X.env),(false,eval b X.env)]:=by rfl)(hs2:starEach [b] X.env=[(false,eval b X.env)]:=by rfl) :
  PDI X G (.Tuple elts x1 tpos) (.Call (.Name "zip" p) [a,b] [] pos) (sW fa):=by
 obtain⟨_,ta,pa,ha⟩:=ha
 refine⟨_,pi_zip hgl hm pa hs1 hs2,λδ O σ H R E k=>?_⟩
 refine ha δ O σ H _ E (ah (aq k) λds z vs H1 s1 rs=>?_)
 match ds,z with
 | [.list xs,.list ys],z =>
  obtain⟨v,v',rfl,r,r'⟩:=uW rs
  obtain⟨a1,us,rfl,hq,hk,r1⟩:=r.lstTo
  obtain⟨a2,us2,rfl,hq2,hk2,r2⟩:=r'.lstTo
  exact⟨a1,a2,rfl,⟨us,hq⟩,⟨us2,hq2⟩,z _ H1 s1 (yl_zip hk hk2 r1 r2)⟩
noncomputable def kU(fa:DS->M (List D)):DS->M (List D):=λδ=>(fa δ).thn λds=>match ds with
 | [.list xs]=>M.ret (b5 0 xs)
 | _=>none
theorem pdi_enum(hgl:Gl X "enumerate")(hm:X.mg "enumerate" = none)(ha:PDA X G [a] fa)(hs1:starEach [a] X.env=[(false,eval a X.env)]:=by rfl) :
  PDI X G (.Tuple elts x1 tpos) (.Call (.Name "enumerate" p) [a] [] pos) (kU fa):=by
 obtain⟨_,ta,pa,ha⟩:=ha
 refine⟨_,u8 hgl hm pa hs1,λδ O σ H R E k=>?_⟩
 refine ha δ O σ H _ E (ah (aq k) λds z vs H1 s1 rs=>?_)
 match ds,z with
 | [.list xs],z =>
  obtain⟨v,rfl,r⟩:=fK rs
  obtain⟨a1,us,rfl,hq,hk,r1⟩:=r.lstTo
  exact⟨a1,rfl,⟨us,hq⟩,z _ H1 s1 (yl_enum hk r1)⟩
noncomputable def uw(f:DS->M D):DS->M (List D):=λδ=>(f δ).thn λd=>match d with
 | .str z=>M.ret (lQ z)
 | _=>none
theorem pdi_str(h:PD X G iter f):PDI X G tg iter (uw f):=by
 obtain⟨t,q,h⟩:=h
 refine⟨_,pi_str q,λδ O σ H R E k=>?_⟩
 refine h δ O σ H _ E (ah (aq k) λd z v H1 s1 r=>?_)
 match d,z,r with
 | .str w,z,r=>exact⟨w,r.str_inv,z _ H1 s1 yl_str⟩
noncomputable def eU(fi:DS->M (List D))(t:D->DS->Option DS)(g:DS->M Out):DS->M Out:=λδ=>(fi δ).thn λds=>im (cn t g) ds δ
theorem pd_forI(hp:PassesOwn (model X.prog X.w) X.A X.env X.xe)(hc:X.calm=true)(hi:PDI X G tg iter fi)(hg:PDG X tg t)(hb:kg X G body gs)
  (hs:∀x,foldedSetIterable iter X.env x=pure x:=by intro _;rfl):PDS X G (.For tg iter body [] pos) (eU fi t gs):=by
 obtain⟨wi,pi,hi⟩:=hi
 obtain⟨tgt,pt,hg⟩:=hg
 obtain⟨tb,pb,hb⟩:=hb
 refine⟨_,nS hp hc pi pt pb hs,@λHr R0 P0 H0 δ O σ H Dn E k=>?_⟩
 refine hi δ O σ H _ E.ev (ah (aq k) λds z J H1 s1 Y=>?_)
 have E1:=E.same s1
 have z1:ok (GS G Hr) (im (cn t gs) ds δ) (Fin X.K Hr R0 (Ch O R0) H1 Dn):=ah z λo q=>Fin.outer E1 q
 refine⟨λi m σ2 H2=>m=ds.length-i/\i<=ds.length/\∃δ2 O2,EI X.K Hr R0 (Ch O R0) H1 O2 H2 σ2 δ2/\ok (GS G Hr) (im (cn t gs) (ds.drop i) δ2) (Fin X.K Hr R0 (Ch O R0) H1 Dn),⟨_,rfl,X8 _,δ,O,E1.inner,z1⟩,?_⟩
 rintro i m σ2 H2 ⟨rfl,hi,δ2,O2,E2,k2⟩
 have T:=E1.to E2
 by_cases hlt:i<ds.length
 ·right
  have hd:ds[i]?=some ds[i]:=ψ hlt
  obtain⟨go,yl⟩:=Y.step O2 H2 T i _ hd
  refine⟨go,λσ' H'=>∃δ2 O2,EI X.K Hr R0 (Ch O R0) H1 O2 H' σ' δ2/\ok (GS G Hr) (im (cn t gs) (ds.drop (i+1)) δ2) (Fin X.K Hr R0 (Ch O R0) H1 Dn),λσ' H' h=>⟨_,by omega,rfl,hlt,h⟩,λx H3 y=>?_⟩
  obtain⟨s3,rx⟩:=yl x H3 y
  rw[iu hd] at k2
  have k3:=aq (show ok (GS G Hr) ((cn t gs ds[i] δ2).thn _) _ from k2)
  obtain⟨δ3,h3,k4⟩:=cy (aq (show ok (GS G Hr) ((M.lift (t ds[i] δ2)).thn gs) _ from k3))
  refine hg R0 (Ch O R0) H1 δ2 δ3 ds[i] x O2 σ2 H3 _ (E2.same s3) rx h3 λσ4 H4 E4 _=>?_
  refine hb R0 (Ch O R0) H1 δ3 O2 σ4 H4 _ E4 (ah k4 λo z=>?_)
  cases o with
  | nx δ5=>exact λO5 σ5 H5 E5=>⟨δ5,O5,E5,z⟩
  | ct δ5=>exact λO5 σ5 H5 E5=>⟨δ5,O5,E5,z⟩
  | bk δ5=>exact λO5 σ5 H5 E5=>z O5 σ5 H5 E5
  | rt d=>exact z
 ·left
  have e:i=ds.length:=by omega
  subst e
  rw[V6] at k2
  exact⟨Y.stop O2 H2 T,k2 O2 σ2 H2 E2⟩
noncomputable def bP(t:D->DS->Option DS)(c:DS->M Bool)(f:DS->M D):List D->DS->M (List D)
 | [],_=>M.ret []
 | d::ds,δ=>(M.lift (t d δ)).thn λδ'=>(c δ').thn λb=>if b=true then (f δ').thn λy=>(bP t c f ds δ').thn λys=>M.ret (y::ys) else bP t c f ds δ'
noncomputable def cH:DS->M Bool:=λ_=>M.ret true
noncomputable def nX(f:DS->M α):DS->M α:=λδ=>noX (f δ)
noncomputable def bx(n:Nat)(js:List Nat)(t:D->DS->Option DS)(fi:DS->M (List D))(c:DS->M Bool)(f:DS->M D):DS->M D:=λδ=>(fi δ).thn λds=>if aL ds.length then (bP t (nX c) (nX f) ds (ρ n .un++js.map (jL δ))).thn λys=>M.ret (.list ys) else none
def o6(X:Cx)(ifs:List Expr)(f:DS->M Bool):Prop :=
 ∃t,PTs X ifs t/\∀{Hr:Hp} (δ:DS) (O:List Addr) (σ:St) (H:Hp) (Q:Bool->Hp->Prop),Ev X.K Hr O H σ δ->ok (λ_=>False) (f δ) (λb=>∀H',aG H H'->Q b H')->t σ H Q
theorem bV:o6 X [] cH:=⟨_,pts_nil,λδ O σ H Q E k=>k H (aG.refl H)⟩
theorem qE(h:ok (λ_=>False) r k):ok (GS (λ_ _=>False) Hr) r k:=nY h
theorem pdts_one(h:PDT X (λ_ _=>False) c fb):o6 X [c] fb:=by
 obtain⟨t,q,h⟩:=h
 exact⟨_,pts_one q,λδ O σ H Q E k=>h δ O σ H Q E (qE k)⟩
end
end DL
namespace DL
open PyProof.Rows L2
noncomputable def gD(K:ζ)(t:D->DS->Option DS):TG:=λv σ H Q=>∃Hr R0 P0 H0 δ δ' d O,EI K Hr R0 P0 H0 O H σ δ/\Rep K O H v d/\t d δ=some δ'/\∀σ' H',EI K Hr R0 P0 H0 O H' σ' δ'->aG H H'->Q σ' H'
theorem PDG.can(h:PDG X e t):PG X e (gD X.K t):=by
 obtain⟨g,p,h⟩:=h
 intro pins s σ H v u Q I r hw
 obtain⟨Hr,R0,P0,H0,δ,δ',d,O,E,rd,ht,k⟩:=hw
 exact p pins s σ H v u Q I r (h R0 P0 H0 δ δ' d v O σ H Q E rd ht k)
noncomputable def cD(K:ζ)(f:DS->M Bool):TT:=λσ H Q=>∃Hr δ O,Ev K Hr O H σ δ/\ok (λ_=>False) (f δ) (λb=>∀H',aG H H'->Q b H')
theorem o6.can(h:o6 X ifs f):PTs X ifs (cD X.K f):=by
 obtain⟨t,p,h⟩:=h
 intro pins s σ H Q I hw
 obtain⟨Hr,δ,O,E,k⟩:=hw
 exact p pins s σ H Q I (h δ O σ H Q E k)
section
variable{K:ζ}{O:List Addr}{H1 H H':Hp}{l:Addr}{τ:St}{δ:DS}
abbrev EC(K:ζ)(O:List Addr)(H1:Hp)(l:Addr)(H:Hp)(τ:St)(δ:DS):Prop:=EI K (λ_=>none) (l::O) (λb=>b=l) H1 (l::O) H τ δ
theorem EC.put{xs ys:List V}(E:EC K O H1 l H τ δ)(hl:H l=some (.lst xs)):EC K O H1 l (upd H l (.lst ys)) τ δ:=by
 have ts:To (l::O) (l::O) H (upd H l (.lst ys)):=To.set hl ο
 refine⟨⟨(λ_ _ z=>nomatch z),λa ha=>?_,E.ev.len,λi s hs=>?_,E.ev.dis⟩,E.omr,λb o n h=>?_,E.om,E.nr1,E.sub⟩
 ·by_cases e:a=l
  ·subst e;exact .lst aK
  ·exact(E.ev.oo a ha).upd_ne e
 ·have q:=E.ev.at_ i s hs
  cases s with
  | un=>trivial
  | ex a=>exact q
  | vl d =>
   obtain⟨v,h1,r⟩:=q
   exact⟨v,h1,r.to ts⟩
  | ow ds =>
   obtain⟨a,us,h1,h2,h3,r⟩:=q
   exact absurd h2 (E.nr i ds a hs h1)
  | od es =>
   obtain⟨a,us,h1,h2,h3,r⟩:=q
   exact absurd h2 (E.nr1 i _ a hs trivial h1)
 ·rw[upd_ne n]
  exact E.keep b o n h
theorem mV{Hr:Hp}{σ:St}{δ:DS}{fr:List (Nat×Str)}(E:Ev K Hr O H σ δ)(n:Nat)(hl:H l=none):EC K O H l (upd H l (.lst [])) (jE n fr σ) (ρ n .un++(fr.map (·.1)).map (jL δ)):=by
 have get:∀(i:Nat) (s:Sl),(ρ n Sl.un++(fr.map (·.1)).map (jL δ))[i]?=some s->s=.un\/∃d v,s=.vl d/\(jE n fr σ)[i]?=some (some v)/\Rep K O H v d:=λi s h=>by
  by_cases hi:i<n
  ·rw[ξ (by simpa using hi),X5] at h
   split at h<;>cases h<;>exact .inl rfl
  ·rw[χ (by simpa using hi),Z1,Λ,Λ] at h
   cases q:fr[i-n]? with
   | none=>rw[q] at h;cases h
   | some p =>
    rw[q] at h
    have h:jL δ p.1=s:=Option.some.inj h
    unfold jL at h
    split at h
    ·rename_i d hd
     subst h
     obtain⟨v,hv,r⟩:=E.val hd
     refine .inr ⟨d,v,rfl,?_,r⟩
     unfold jE
     rw[χ (by simpa using hi),Z1,Λ,q]
     show some (σ[p.1]?).join=_
     rw[hv]
     rfl
    ·exact .inl h.symm
 have to:To O (l::O) H (upd H l (.lst [])):=To.own hl
 refine⟨⟨(λ_ _ z=>nomatch z),λa ha=>?_,by simp [jE],λi s hs=>?_,λi j a ds es hij h1=>?_⟩,λa ha=>.inl ha,λb o nb h=>by rw[upd_ne nb];exact h,λa ha=>.inl ha,λi ds a h1 ho=>?_,λa ha=>ha⟩
 ·rcases Γ.mp ha with rfl | ha
  ·exact .lst aK
  ·exact(E.oo a ha).new hl
 ·rcases get i s hs with rfl | ⟨d,v,rfl,hv,r⟩
  ·trivial
  ·exact⟨v,hv,r.to to⟩
 ·rcases get i _ h1 with z | ⟨_,_,z,_⟩<;>cases z
 ·rcases get i _ h1 with z | ⟨_,_,z,_⟩<;>(cases z;exact ho.elim)
end
section
theorem pK(h:ok g (nX f δ) k):ok (λ_=>False) (f δ) k:=nW h
theorem cj(hc:X.calm=true)
  (hkind:scope.kind=.function) (hcell:∀y∈scope.names,y.2≠.cell) (hclos:closureFor scope X.env=pure cl) (hsub:∀y c,cl.lookup y=some c->X.env.cells.lookup y=some c)
  (hhas:∀y∈(relabel scope X.env).names,(y.2=.cell\/y.2=.free)->∃c,cl.lookup y.1=some c) (hfr:∀p∈fr,X.N[p.1]?=some p.2/\X.env.kindOf p.2=some .cell/\(compEnvC scope cl 0 X.env).kindOf p.2=some .cell/\∃c,cl.lookup p.2=some c) (hnames:∀y∈scope.names,y.2=.local->scope.names.lookup y.1=some .local)
  (hi:PDI X G tg iter fi) (hg:∀C s3 H3 fp,PDG (aH X scope cl fr tn C s3 H3 fp) tg t) (hcs:∀C s3 H3 fp,o6 (aH X scope cl fr tn C s3 H3 fp) ifs c) (he:∀C s3 H3 fp,PD (aH X scope cl fr tn C s3 H3 fp) (λ_ _=>False) elt f) (hs:∀x,foldedSetIterable iter X.env x=pure x:=by intro _;rfl) :
  PD X G (.ListComp elt [⟨tg,iter,ifs,0⟩] scope pos) (bx tn.length (fr.map (·.1)) t fi c f):=by
 obtain⟨wi,pi,hi⟩:=hi
 refine⟨_,nV (g:=gD X.K t) (tc:=cD X.K c) (te:=tD X.K (λ_ _=>False) f) hc hkind hcell hclos hsub hhas hfr hnames pi (λC s3 H3 fp=>(hg C s3 H3 fp).can) (λC s3 H3 fp=>(hcs C s3 H3 fp).can) (λC s3 H3 fp=>(he C s3 H3 fp).can) hs,@λHr δ O σ H Q E k=>?_⟩
 refine hi δ O σ H _ E (ah (aq k) λds z J H1 s1 Y=>?_)
 by_cases hsz:aL ds.length=true
 case neg =>
  rw[if_neg hsz] at z
  exact z.elim
 rw[if_pos hsz] at z
 intro l hl
 have E1:=E.same s1
 have kk:=ah (aq z) λys (q:∀v H',aG H H'->Rep X.K O H' v (.list ys)->Q v H') H2 (kp:Kp l H1 H2) r2=>q (.ref l) H2 (s1.trans (kp.same hl)) r2
 refine⟨λi m τ xs H2=>m=ds.length-i/\i<=ds.length/\xs.length<=i/\H2 l=some (.lst xs)/\∃δc ys,EC X.K O H1 l H2 τ δc/\Reps X.K (l::O) H2 xs ys /\
  ok (GS G Hr) (bP t (nX c) (nX f) (ds.drop i) δc) (λrest=>∀H3,Kp l H1 H3->Rep X.K O H3 (.ref l) (.list (ys++rest))->Q (.ref l) H3),
  ⟨_,rfl,X8 _,υ _,aK,_,[],mV E1 tn.length hl,.nil,kk⟩,?_⟩
 rintro i m τ xs H2 ⟨rfl,hi,hx,h2,δc,ys,Ec,ry,kc⟩
 have kp:Kp l H1 H2:=λb o hb e=>Ec.keep b o hb e
 refine⟨h2,?_⟩
 have T:To O (l::O) H1 H2:=kp.to hl
 by_cases hlt:i<ds.length
 ·right
  have hd:ds[i]?=some ds[i]:=ψ hlt
  obtain⟨go,yl⟩:=Y.step (l::O) H2 T i _ hd
  refine⟨go,Nat.lt_of_le_of_lt hx (Z2 hlt (bz hsz)),λx H3 y=>?_⟩
  obtain⟨s3,rx⟩:=yl x H3 y
  rw[iu hd] at kc
  obtain⟨δ',ht,kc⟩:=cy (aq (show ok (GS G Hr) ((M.lift (t ds[i] δc)).thn _) _ from kc))
  refine⟨_,_,_,_,δc,δ',ds[i],l::O,Ec.same s3,rx,ht,λτ' H4 E4 s4=>?_⟩
  refine⟨_,δ',l::O,E4.ev,ah (pK (aq kc)) λb zb H5 s5=>?_⟩
  have E5:=E4.same s5
  have s25:=(s3.trans s4).trans s5
  dsimp only
  cases b with
  | false =>
   rw[if_neg ω] at zb ⊢
   exact⟨_,by omega,rfl,hlt,by omega,s25 _ _ h2,δ',ys,E5,ry.same s25,zb⟩
  | true =>
   rw[if_pos rfl] at zb ⊢
   refine⟨_,δ',l::O,E5.ev,qE (ah (pK (aq zb)) λy kz v H6 s6 rv=>?_)⟩
   have h6:H6 l=some (.lst xs):=s6 _ _ (s25 _ _ h2)
   have ts:To (l::O) (l::O) H6 (upd H6 l (.lst (xs++[v]))):=To.set h6 ο
   refine⟨h6,ds.length-(i+1),by omega,rfl,hlt,by rw[η];show xs.length+1<=i+1;omega,aK,δ',ys++[y],EC.put (E5.same s6) h6,(((ry.same s25).same s6).to ts).append (.cons (rv.to ts) .nil),?_⟩
   exact ah (aq kz) λrest q H7 kp7 r7=>q H7 kp7 (by rw[W2] at r7;exact r7)
 ·left
  have e:i=ds.length:=by omega
  subst e
  rw[V6] at kc
  refine⟨Y.stop (l::O) H2 T,kc H2 kp ?_⟩
  rw[Z4]
  exact .lst (.inl h2) (nin E1.oo hl) (ry.to (.less λb hb=>ι _ hb))
end
section
theorem bO(h1:fi δ=M.ret ds)(hz:aL ds.length=true)(h3:bP t (nX c) (nX f) ds (ρ n .un++js.map (jL δ))=M.ret ys):bx n js t fi c f δ=M.ret (.list ys):=by
 unfold bx;rw[h1,aD,if_pos hz,h3];rfl
theorem ck(h1:t d δ=some δ')(h2:f δ'=M.ret y)(h3:bP t (nX cH) (nX f) ds δ'=M.ret ys):bP t (nX cH) (nX f) (d::ds) δ=M.ret (y::ys):=by
 show(M.lift (t d δ)).thn _=_
 rw[h1,l4,aD]
 show(M.ret true).thn _=_
 rw[aD,if_pos rfl]
 show(noX (f δ')).thn _=_
 rw[h2]
 show(bP _ _ _ _ _).thn _=_
 rw[h3]
 rfl
theorem jv(h1:fa δ=M.ret xs)(h2:rng xs=some ds):kf rng fa δ=M.ret ds:=by unfold kf;rw[h1,aD,h2];rfl
theorem vF(h1:fa δ=M.ret [.list xs,.list ys]):sW fa δ=M.ret (mN xs ys):=by unfold sW;rw[h1];rfl
theorem j7(h1:fa δ=M.ret [.list xs]):kU fa δ=M.ret (b5 0 xs):=by unfold kU;rw[h1];rfl
theorem cY(h1:fi δ=M.ret ds)(h3:im (cn t gs) ds δ=r):eU fi t gs δ=r:=by unfold eU;rw[h1,aD];exact h3
theorem sQ(P:DS->Prop)(h1:fi δ=M.ret ds)(h0:P δ)(hs:∀d∈ds,∀δ,P δ->∃δ',cn t gs d δ=M.ret (.nx δ')/\P δ')(hr:∀δ',P δ'->gt δ'=r):aM (eU fi t gs) gt δ=r:=by
 obtain⟨δ',h3,p⟩:=sM P ds δ h0 hs
 exact aA (cY h1 h3) (hr δ' p)
end
end DL
namespace DL
open PyProof.Rows L2
section
theorem PI.or(h1:PI X tg iter w1)(h2:PI X tg iter w2):PI X tg iter (λσ H R=>w1 σ H R\/w2 σ H R):=by
 intro pins s σ H R I h
 rcases h with h | h
 ·exact h1 pins s σ H R I h
 ·exact h2 pins s σ H R I h
noncomputable def anyD:D->Option (List D)
 | .list ds=>some ds
 | .tuple ds=>some ds
 | .str z=>some (lQ z)
 | _=>none
noncomputable def dc(f:DS->M D):DS->M (List D):=λδ=>(f δ).thn λd=>M.lift (anyD d)
theorem fZ(h:PD X G iter f):PDI X G tg iter (dc f):=by
 obtain⟨w1,p1,h1⟩:=pdi_seq (tg:=tg) h
 obtain⟨w2,p2,h2⟩:=pdi_str (tg:=tg) h
 refine⟨_,PI.or p1 p2,λδ O σ H R E k=>?_⟩
 have d1:∀d,f δ=some (.ok d)->(∀z,d≠.str z)->dSeq f δ=dc f δ:=λd e n=>by
  unfold dSeq dc
  rw[e]
  show M.lift (seqD d)=M.lift (anyD d)
  cases d with
  | str z=>exact absurd rfl (n z)
  | _=>rfl
 match e:f δ with
 | none=>unfold dc at k;rw[e] at k;exact k.elim
 | some (.error x) =>
  refine .inl (h1 δ O σ H R E ?_)
  have e1:dc f δ=dSeq f δ:=by unfold dc dSeq;rw[e];rfl
  rw[<-e1]
  exact k
 | some (.ok d) =>
  match d,e with
  | .str z,e =>
   refine .inr (h2 δ O σ H R E ?_)
   have e1:dc f δ=uw f δ:=by unfold dc uw;rw[e];rfl
   rw[<-e1]
   exact k
  | .none,e=>exact .inl (h1 δ O σ H R E (by rw[d1 _ e (λz q=>nomatch q)];exact k))
  | .bool b,e=>exact .inl (h1 δ O σ H R E (by rw[d1 _ e (λz q=>nomatch q)];exact k))
  | .int b,e=>exact .inl (h1 δ O σ H R E (by rw[d1 _ e (λz q=>nomatch q)];exact k))
  | .list b,e=>exact .inl (h1 δ O σ H R E (by rw[d1 _ e (λz q=>nomatch q)];exact k))
  | .tuple b,e=>exact .inl (h1 δ O σ H R E (by rw[d1 _ e (λz q=>nomatch q)];exact k))
  | .dict b,e=>exact .inl (h1 δ O σ H R E (by rw[d1 _ e (λz q=>nomatch q)];exact k))
theorem cM{δ:DS}{x:D}{ds:List D}(h1:f δ=M.ret x)(h2:anyD x=some ds):dc f δ=M.ret ds:=by unfold dc;rw[h1,aD,h2];rfl
end
end DL
namespace DL
open PyProof.Rows L2
section
variable{X:Cx}{G:XD->Hp->Prop}{a b c e:Expr}{es:List Expr}{f:DS->M D}{fa:DS->M (List D)}{pos pos':Pos}{sts:List Stmt}{gs:DS->M Out}
variable{K:ζ}{Hr:Hp}{R0:List Addr}{P0:Addr->Prop}{H0 H H':Hp}{O:List Addr}{σ:St}{δ:DS}
theorem EI.newL{i:Nat}{l:Addr}{xs:List V}{ds:List D}(E:EI K Hr R0 P0 H0 O H σ δ)(hl:H l=none)(rx:Reps K O H xs ds):EI K Hr R0 P0 H0 (l::O) (upd H l (.lst xs)) (σ.set i (some (.ref l))) (δ.set i (.ow ds)):=by
 have nO:l∉O:=nin E.ev.oo hl
 have tO:To O (l::O) H (upd H l (.lst xs)):=To.own hl
 refine⟨⟨λb o h=>by have q:=E.ev.root b o h;rw[upd_ne (aJ q hl)];exact q,λa ha=>?_,by rw[Ω,Ω];exact E.ev.len,λj s h=>?_,λj k a ds es hjk h1 h2 h3 h4=>?_⟩,λa ha=>?_,λb o n h=>?_,λa ha=>?_,λj ds a h1 ho h2=>?_,λa ha=>ι _ (E.sub a ha)⟩
 ·rcases Γ.mp ha with rfl | ha
  ·exact .lst aK
  ·exact(E.ev.oo a ha).new hl
 ·rw[bB] at h ⊢
  by_cases hij:i=j
  ·rw[if_pos hij] at h ⊢
   by_cases hz:i<δ.length
   ·rw[if_pos hz] at h
    rw[if_pos (by rw[E.ev.len];exact hz)]
    cases h
    exact⟨l,xs,rfl,ο,aK,rx.to tO⟩
   ·rw[if_neg hz] at h;cases h
  ·rw[if_neg hij] at h ⊢
   exact(E.ev.at_ j s h).to tO (hd_new hl) λa xs h1 h2 _ _=>⟨ι _ h1,by rw[upd_ne (aJ h2 hl)];exact h2⟩
 ·rw[bB] at h1 h2 h3 h4
  by_cases hij:i=j
  ·rw[if_pos hij] at h1 h3
   have ha:a=l:=by
    split at h3
    ·cases h3;rfl
    ·cases h3
   have hik:¬i=k:=λz=>hjk (hij.symm.trans z)
   rw[if_neg hik] at h2 h4
   obtain⟨l',xs,q1,q2,q3,_⟩:=E.ev.at_ k _ h2
   rw[h4] at q1
   cases q1
   rw[ha] at q2
   exact nO q2
  ·rw[if_neg hij] at h1 h3
   by_cases hik:i=k
   ·rw[if_pos hik] at h4
    have ha:a=l:=by
     split at h4
     ·cases h4;rfl
     ·cases h4
    obtain⟨l',xs,q1,q2,q3,_⟩:=E.ev.at_ j _ h1
    rw[h3] at q1
    cases q1
    rw[ha] at q2
    exact nO q2
   ·rw[if_neg hik] at h2 h4
    exact E.ev.dis j k a ds es hjk h1 h2 h3 h4
 ·rcases Γ.mp ha with rfl | ha
  ·refine .inr ?_
   cases q:Hr a with
   | none=>rfl
   | some o =>
    rw[E.ev.root a o q] at hl
    cases hl
  ·exact E.omr a ha
 ·have q:=E.keep b o n h
  rw[upd_ne (aJ q hl)]
  exact q
 ·rcases Γ.mp ha with rfl | ha
  ·by_cases hp:P0 a
   ·exact .inr (.inl hp)
   ·refine .inr (.inr ?_)
    cases q:H0 a with
    | none=>rfl
    | some o =>
     rw[E.keep a o hp q] at hl
     cases hl
  ·exact E.om a ha
 ·rw[bB] at h1 h2
  by_cases hij:i=j
  ·rw[if_pos hij] at h2
   have ha:a=l:=by
    split at h2
    ·cases h2;rfl
    ·cases h2
   rw[ha]
   exact λz=>nO (E.sub l z)
  ·rw[if_neg hij] at h1 h2
   exact E.nr1 j ds a h1 ho h2
def PDN(X:Cx)(G:XD->Hp->Prop)(e:Expr)(f:DS->M (List D)):Prop :=
 ∃t,PE X e t/\∀{Hr:Hp} (δ:DS) (O:List Addr) (σ:St) (H:Hp) (Q:VK),Ev X.K Hr O H σ δ->ok (GS G Hr) (f δ) (λds=>∀l xs H1,aG H H1->H1 l=none->Reps X.K O H1 xs ds->Q (.ref l) (upd H1 l (.lst xs)))->t σ H Q
noncomputable def cr(fa:DS->M (List D)):DS->M (List D):=λδ=>(fa δ).thn λds=>if aL ds.length then M.ret ds else none
theorem mY(h:PDA X G es fa):PDN X G (.List es pos) (cr fa):=by
 obtain⟨_,t,p,h⟩:=h
 refine⟨_,tV p,λδ O σ H Q E k=>?_⟩
 refine h δ O σ H _ E (ah (aq k) λds z vs H1 s1 rs=>?_)
 by_cases hz:aL ds.length=true
 ·rw[if_pos hz] at z
  exact⟨by rw[rs.length];exact bz hz,λp hp=>z p vs H1 s1 hp rs⟩
 ·rw[if_neg hz] at z
  exact z.elim
noncomputable def pO(fa:DS->M (List D)):DS->M (List D):=λδ=>(fa δ).thn λds=>match ds with
 | [.list xs]=>M.ret xs
 | [.tuple xs]=>M.ret xs
 | _=>none
theorem pdn_list(hx:x = "list")(hg:Gl X x)(hm:X.mg x=none)(ha:PDA X G [e] fa)(he:starEach [e] X.env=(false,eval e X.env)::starEach [] X.env:=by rfl):PDN X G (.Call (.Name x p) [e] [] pos) (pO fa):=by
 subst hx
 obtain⟨_,t,pa,ha⟩:=ha
 refine⟨_,pI lK hg hm PyProof.Rows.boot_list pa (by decide) (by decide) he rfl,λδ O σ H Q E k=>?_⟩
 refine ha δ O σ H _ E (ah (aq k) λds z vs H1 s1 rs=>?_)
 match ds,z with
 | [.list xs],z =>
  obtain⟨v,rfl,r⟩:=fK rs
  obtain⟨q,us,rfl,h1,rx⟩:=r.lst_inv
  exact⟨q,us,rfl,.inl h1,λl hl=>z l us H1 s1 hl rx⟩
 | [.tuple xs],z =>
  obtain⟨v,rfl,r⟩:=fK rs
  obtain⟨q,us,rfl,h1,rx⟩:=r.tup_inv
  exact⟨q,us,rfl,.inr h1,λl hl=>z l us H1 s1 hl rx⟩
noncomputable def gC(i:Nat)(f:DS->M (List D)):DS->M Out:=λδ=>(f δ).thn λds=>M.ret (.nx (δ.set i (.ow ds)))
theorem qC{i:Nat}{x:Str}{f:DS->M (List D)}(hN:X.N.Nodup)(hi:X.N[i]?=some x)(hx:Loc X.env.scope x)(he:PDN X G e f)(hs:swapsWith e (some (.Name x pos')) pos.line X.env=pure false:=by rfl)(hf:X.fn x=true\/X.env.scope.names.lookup x=some .local:=by first | exact .inl rfl | exact .inr rfl | assumption) :
  PDS X G (.Assign [.Name x pos'] e pos) (gC i f):=by
 obtain⟨t,p,he⟩:=he
 refine⟨_,qx hN hi hx p hs hf,λR0 P0 H0 δ O σ H Dn E k=>?_⟩
 exact he δ O σ H _ E.ev (ah (aq k) λds z l xs H1 s1 hl rx=>z (l::O) _ _ ((E.same s1).newL hl rx))
mutual
noncomputable def bL:D->Bool
 | .tuple ds=>aN ds
 | .list _=>false
 | .dict _=>false
 | _=>true
noncomputable def aN:List D->Bool
 | []=>true
 | d::ds=>bL d&&aN ds
end
mutual
theorem Rep.flat{O':List Addr}:∀{v:V} {d:D},bL d=true->Rep K O H v d->Rep K O' H v d
 | _,_,_,.non=>.non
 | _,_,_,.bl b=>.bl b
 | _,_,_,.int i=>.int i
 | _,_,_,.str x=>.str x
 | _,_,h,.tup q r=>.tup q (Reps.flat (by simpa only[bL] using h) r)
 | _,_,h,.lst _ _ _=>by simp [bL] at h
 | _,_,h,.lstK _ _=>by simp [bL] at h
 | _,_,h,.dct _ _ _ _=>by simp [bL] at h
 | _,_,h,.ins _ _ _ _ _=>by simp [bL,jm] at h
theorem Reps.flat{O':List Addr}:∀{vs:List V} {ds:List D},aN ds=true->Reps K O H vs ds->Reps K O' H vs ds
 | _,_,_,.nil=>.nil
 | _,_,h,.cons r rs=>by
  simp only[aN,Z5] at h
  exact .cons (Rep.flat h.1 r) (Reps.flat h.2 rs)
end
theorem Ev.frz{i:Nat}(E:Ev K Hr O H σ δ):∃O',Ev K Hr O' H σ (DL.frz i δ):=by
 cases q:δ[i]? with
 | none=>exact⟨O,by unfold DL.frz;rw[q];exact E⟩
 | some s =>
  cases s with
  | un=>exact⟨O,by unfold DL.frz;rw[q];exact E⟩
  | vl d=>exact⟨O,by unfold DL.frz;rw[q];exact E⟩
  | ex a=>exact⟨O,by unfold DL.frz;rw[q];exact E⟩
  | od es=>exact⟨O,by unfold DL.frz;rw[q];exact E⟩
  | ow ds =>
   have e:DL.frz i δ=δ.set i (.vl (.list ds)):=by unfold DL.frz;rw[q]
   rw[e]
   obtain⟨l,xs,h1,h2,h3,r⟩:=E.at_ i _ q
   have hi:i<δ.length:=(ς.mp q).1
   have tl:To O (O.filter (· ≠ l)) H H:=.less λb hb=>(Y7.mp hb).1
   refine⟨O.filter (· ≠ l),E.root,λa ha=>E.oo a (Y7.mp ha).1,by rw[Ω];exact E.len,λj s h=>?_,λj k a es es' hjk k1 k2 k3 k4=>?_⟩
   ·rw[bB] at h
    by_cases hij:i=j
    ·rw[if_pos hij,if_pos hi] at h
     cases h
     rw[<-hij]
     exact⟨.ref l,h1,.lst (.inl h3) (λz=>by have:=(Y7.mp z).2;simp at this) (r.to tl)⟩
    ·rw[if_neg hij] at h
     refine(E.at_ j s h).to tl (λa kvs g1 g2=>⟨Y7.mpr ⟨g1,by simpa using ne_of g2 h3 (by intro z;cases z)⟩,g2⟩) λa ys g1 g2 g3 g4=>⟨?_,g2⟩
     obtain⟨es,rfl⟩:=g4
     refine Y7.mpr ⟨g1,?_⟩
     have hne:a≠l:=λz=>by
      subst z
      exact E.dis i j a ds es hij q h h1 g3
     simpa using hne
   ·rw[bB] at k1 k2
    by_cases hij:i=j
    ·rw[if_pos hij] at k1
     split at k1<;>cases k1
    ·by_cases hik:i=k
     ·rw[if_pos hik] at k2
      split at k2<;>cases k2
     ·rw[if_neg hij] at k1
      rw[if_neg hik] at k2
      exact E.dis j k a es es' hjk k1 k2 k3 k4
noncomputable def mH(i:Nat)(f:DS->M D):DS->M D:=λδ=>(f (frz i δ)).thn λd=>if bL d then M.ret d else none
theorem pd_lend(i:Nat)(h:PD X G e f):PD X G e (mH i f):=by
 obtain⟨t,p,h⟩:=h
 refine⟨t,p,λδ O σ H Q E k=>?_⟩
 obtain⟨O',E'⟩:=E.frz (i:=i)
 refine h _ O' σ H Q E' (ah (aq k) λd z v H1 s1 r=>?_)
 by_cases hf:bL d=true
 ·rw[if_pos hf] at z
  exact z v H1 s1 (r.flat hf)
 ·rw[if_neg hf] at z
  exact z.elim
end
section
theorem vH(h:f (frz i δ)=M.ret d)(hf:bL d=true):mH i f δ=M.ret d:=by unfold mH;rw[h,aD,if_pos hf]
theorem f8(h:fn δ=M.ret ds):gC i fn δ=M.ret (.nx (δ.set i (.ow ds))):=by unfold gC;rw[h];rfl
theorem bI(h:fa δ=M.ret ds)(hz:aL ds.length=true):cr fa δ=M.ret ds:=by unfold cr;rw[h,aD,if_pos hz]
theorem p6(h:fa δ=M.ret [.list ds]):pO fa δ=M.ret ds:=by unfold pO;rw[h];rfl
end
end DL
namespace L2
open PyProof.Rows
section
end
end L2
namespace L2
open PyProof.Rows
section
theorem wu:OpR X (compareOp .LtE) (λx y H Q=>∃i j,x=.str i/\y=.str j/\Q (.bl (!decide (j.cps.toList<i.cps.toList))) H):=by
 intro pins s σ H x y v u Q I rx ry h
 obtain⟨i,j,rfl,rfl,q⟩:=h
 obtain⟨t,rfl⟩:=rx
 obtain⟨t',rfl⟩:=ry
 exact PySem.P.le_str (ul I q rfl)
theorem sl_str:SlR X (λx lo hi H Q=>∃z,x=.str z/\z.length<=sizeLine/\Q (.str (Txt.slice z lo hi)) H):=by
 intro pins s σ H x v vl vu lo hi sl Q I rx hs pl pu h
 obtain⟨z,rfl,hz,q⟩:=h
 obtain⟨t,rfl⟩:=rx
 refine⟨"str",_,PySem.F.slot_str_getitem.lookup,typeIs_str _ _ _,?_⟩
 obtain⟨l,rfl,rfl⟩:∃l:Option (Int×Tok),vl=partValue l/\lo=l.map (·.1):=by
  cases pl with
  | none=>exact⟨none,rfl,rfl⟩
  | int i t=>exact⟨some (i,t),rfl,rfl⟩
 obtain⟨u,rfl,rfl⟩:∃u:Option (Int×Tok),vu=partValue u/\hi=u.map (·.1):=by
  cases pu with
  | none=>exact⟨none,rfl,rfl⟩
  | int i t=>exact⟨some (i,t),rfl,rfl⟩
 refine wpAny_getItem_str_slice (l:=l) (u:=u) (st:=none) ?_ rfl (post_val_or_str ⟨W1 (Txt.slice_le z _ _) hz,λt' k=>⟨.str _,H,I.tok k,⟨t',rfl⟩,q⟩⟩)
 obtain⟨o,h1,h2,h3⟩:=hs
 exact⟨o,h1,h2,h3⟩
end
end L2
namespace DL
open PyProof.Rows L2
section
variable{X:Cx}{G:XD->Hp->Prop}{a b c e o:Expr}{es:List Expr}{f g k:DS->M D}{fa:DS->M (List D)}{pos apos cpos:Pos}
noncomputable def wz:D->D->Option D
 | .int i,.int j=>some (.bool (decide (i<=j)))
 | .str i,.str j=>some (.bool (!decide (j.cps.toList<i.cps.toList)))
 | _,_=>none
theorem dop_leD:DOp X (compareOp .LtE) wz:=by
 refine⟨_,op_le.or wu,λO H x y d v u Q oo rx ry e k=>?_⟩
 unfold wz at e
 split at e
 ·cases e
  exact .inl ⟨_,_,rx.int_inv,ry.int_inv,k _ H (aG.refl H) (.bl _)⟩
 ·cases e
  exact .inr ⟨_,_,rx.str_inv,ry.str_inv,k _ H (aG.refl H) (.bl _)⟩
 ·cases e
variable{lo hi:Option Expr}{fl fh:DS->M (Option Int)}{p2:Pos}
noncomputable def my(lo hi:Option Int):D->Option D
 | .str z=>if aL z.length then some (.str (Txt.slice z lo hi)) else none
 | d=>oCut lo hi d
noncomputable def ec(f:DS->M D)(fl fh:DS->M (Option Int)):DS->M D:=λδ=>(f δ).thn λx=>(fl δ).thn λl=>(fh δ).thn λu=>M.lift (my l u x)
theorem pd_cutS(he:PD X G e f)(hl:PDO X G lo fl)(hh:PDO X G hi fh):PD X G (.Subscript e (.Slice lo hi none p2) pos) (ec f fl fh):=by
 obtain⟨t,p,he⟩:=he
 obtain⟨tl,pl,hl⟩:=hl
 obtain⟨th,ph,hh⟩:=hh
 refine⟨_,xW (sl_str.or (sl_list.or sl_tup)) p pl ph,λδ O σ H Q E k=>?_⟩
 refine he δ O σ H _ E (ah (aq k) λd z v H1 s1 r=>?_)
 refine hl δ O σ H1 _ (E.same s1) (ah (aq z) λl z H2 s2=>?_)
 refine hh δ O σ H2 _ (E.same (s1.trans s2)) (ah (aq z) λu z H3 s3=>?_)
 obtain⟨y,hy,z⟩:=cy z
 have r3:=(r.same s2).same s3
 have s03:=(s1.trans s2).trans s3
 have E3:=E.same s03
 cases d with
 | str w =>
  have hy:(if aL w.length=true then some (PyData.str (Txt.slice w l u)) else none)=some y:=hy
  by_cases hw:aL w.length=true
  ·rw[if_pos hw] at hy
   cases hy
   exact .inl ⟨w,r3.str_inv,bz hw,z _ _ s03 (.str _)⟩
  ·rw[if_neg hw] at hy;cases hy
 | list ds =>
  cases hy
  obtain⟨a,xs,rfl,h1,rs⟩:=r3.lst_inv
  exact .inr (.inl ⟨a,xs,rfl,h1,λp hp=>z _ _ (s03.trans (ba hp)) (g9 E3.oo hp (rs.cut l u))⟩)
 | tuple ds =>
  have hy:(if HT.sIx ds.length 0 l=0/\HT.sIx ds.length ds.length u=ds.length then none else some (U2 (lf ds l u)))=some y:=hy
  by_cases hw:HT.sIx ds.length 0 l=0/\HT.sIx ds.length ds.length u=ds.length
  ·rw[if_pos hw] at hy;cases hy
  ·rw[if_neg hw] at hy
   cases hy
   obtain⟨a,xs,rfl,h1,rs⟩:=r3.tup_inv
   exact .inr (.inr ⟨a,xs,rfl,h1,by rw[rs.length];exact hw,λp hp=>z _ _ (s03.trans (ba hp)) (gZ hp (rs.cut l u))⟩)
 | _=>cases hy
theorem pd_globI(hg:Gl X x)(hm:X.mg x=some (.int i t))(hd:(x==("__debug__" : Str))=false:=by decide):PD X G (.Name x pos) (dC (.int i)) :=
 ⟨_,pe_glob (v:=.int i) hg hm ⟨t,rfl⟩ hd,λ_ _ _ H Q _ k=>k _ H (aG.refl H) (.int i)⟩
end
end DL
namespace L2
open PyProof.Rows
section
theorem xQ(hc:X.calm=true)
  (hkind:scope.kind=.function) (hcell:∀y∈scope.names,y.2≠.cell) (hclos:closureFor scope X.env=pure cl) (hsub:∀y c,cl.lookup y=some c->X.env.cells.lookup y=some c)
  (hhas:∀y∈(relabel scope X.env).names,(y.2=.cell\/y.2=.free)->∃c,cl.lookup y.1=some c) (hfr:∀p∈fr,X.N[p.1]?=some p.2/\X.env.kindOf p.2=some .cell/\(compEnvC scope cl 0 X.env).kindOf p.2=some .cell/\∃c,cl.lookup p.2=some c) (hnames:∀y∈scope.names,y.2=.local->scope.names.lookup y.1=some .local)
  (hi:PI X tg iter wi) (hg:∀C s3 H3 fp,PG (aH X scope cl fr tn C s3 H3 fp) tg g) (hcs:∀C s3 H3 fp,PTs (aH X scope cl fr tn C s3 H3 fp) ifs tc) (he:∀C s3 H3 fp,PE (aH X scope cl fr tn C s3 H3 fp) elt te) (hs:∀x,foldedSetIterable iter X.env x=pure x:=by intro _;rfl)  (hsw:swapsWith (.ListComp elt [⟨tg,iter,ifs,0⟩] scope pos) (some (.Name y py)) spos.line X.env=pure true:=by rfl)
  (hN:X.N.Nodup) (hiy:X.N[iy]?=some y) (hly:Loc X.env.scope y) (hfy:X.fn y=true\/X.env.scope.names.lookup y=some .local:=by first | exact .inl rfl | exact .inr rfl | assumption) :
  PS X (.Assign [.Name y py] (.ListComp elt [⟨tg,iter,ifs,0⟩] scope pos) spos) (λDn σ H=>qj tn.length fr wi g tc te σ H λv H1=>Dn.nx (σ.set iy (some v)) H1):=by
 intro pins s σ H Dn I h
 rw[exec_Assign_Name_used _ _ _ _ hsw]
 refine wpAny_bind (wpAny_standAt (wpAny_bind ?_))
 show wpAny _ X.A (do let _ <- comprehension (.ListComp elt [⟨tg,iter,ifs,0⟩] scope pos) scope X.env _ (newList []) false (eval iter X.env) (some (assign (.Name y py) X.env))) _ _ s
 refine wpAny_bind (wpAny_mono (wpAny_comprehension_free (use:=some (assign (.Name y py) X.env)) (Q:=λ_ s'=>SP X pins Dn .next s') rfl hs hclos hkind hnames (thn (hi pins s σ H _ I h) λv s1 h1=>thn h1 λitv s2 h2=>?_)) (λ_ s' hq=>wpAny_pure (wpAny_pure hq)) λ_ _ e=>e)
 obtain⟨it,fp,tk,J,H2,e,I2,T,st2,f2,R⟩:=h2
 subst e
 have fl:H2 s2.heap.objs.size=none:=I2.hok.fresh (υ _)
 obtain⟨W,⟨m0,w0⟩,turn⟩:=R s2.heap.objs.size fl
 refine wpAny_newObj_type (wpAny_newFunctionEnv hcell (by intro y hy;simp at hy) (λh4 hns hsb=>?_) hkind)
 have I3:Inv X pins σ (upd H2 s2.heap.objs.size (.lst [])) { s2 with heap:=s2.heap.push { cls:=.type "list",data:=.seq ([]:List Value).toArray } } :=
  I2.laid (t':=s2.toks) (λb o e=>Heap.get?_push_of_some _ e) (υ _) ⟨X8 _,[],0,.nil,Heap.get?_push_size _ rfl⟩
 have ob:∀b∈fp,∃o,s2.heap.get? b=some o:=λb hb=>let ⟨o,ho,_⟩:=T.obj 0 _ st2 b hb;⟨o,ho⟩
 have f3:∀b∈fp,lh X pins (upd H2 s2.heap.objs.size (.lst [])) b:=λb hb=>by
  obtain⟨g0,g1,g2,g3,g4,g5⟩:=f2 b hb
  obtain⟨o,ho⟩:=ob b hb
  exact⟨by rw[upd_ne (Z8 (Heap.lt_size ho))];exact g0,g1,g2,g3,g4,g5⟩
 generalize hs3:({ s2 with heap:=s2.heap.push { cls:=.type "list",data:=.seq ([]:List Value).toArray } }:Shared)=s3 at I3
 have heap3:s2.heap.push { cls:=.type "list",data:=.seq ([]:List Value).toArray }=s3.heap:=by rw[<-hs3]
 have old3:∀b o,s2.heap.get? b=some o->s3.heap.get? b=some o:=λb o e=>by rw[<-heap3];exact Heap.get?_push_of_some _ e
 have ok3:(aH X scope cl fr tn s3.heap.objs.size s3 (upd H2 s2.heap.objs.size (.lst [])) fp).Ok:=by
  refine sY I3 hkind hsub hhas (υ _) (λb hb=>⟨f3 b hb,let ⟨o,ho⟩:=ob b hb;⟨o,old3 b o ho⟩⟩) (λb hb z=>?_) λb hb=>?_
  ·obtain⟨_,g1,g2,_⟩:=f2 b hb
   rcases Γ.mp (I2.stkSub b z) with q | q
   ·exact g1 q
   ·exact g2 q
  ·obtain⟨_,_,_,g3,_⟩:=f2 b hb
   rcases g3 with q | q
   ·cases e:X.base.get? b with
    | none=>rfl
    | some o=>exact absurd q (I.ok.noex b o e)
   ·exact Heap.get?_none_of_le (W1 I.ok.bsz q)
 have hns3:h4.Ns s3.heap.objs.size (λy=>([]:List (Str×Value)).reverse.lookup y):=by rw[<-heap3];exact hns
 have keep4:∀b o,s3.heap.get? b=some o->h4.get? b=some o:=λb o e=>by
  have e1:(s2.heap.push { cls:=.type "list",data:=.seq ([]:List Value).toArray }).get? b=some o:=by rw[heap3];exact e
  exact(hsb.2 b (Z8 (Heap.lt_size e1))).trans (Heap.get?_push_of_some _ e1)
 have I4:Inv (aH X scope cl fr tn s3.heap.objs.size s3 (upd H2 s2.heap.objs.size (.lst [])) fp) [] (jE tn.length fr σ) (upd H2 s2.heap.objs.size (.lst [])) { s3 with heap:=h4 }:=by
  refine⟨ok3,rfl,I3.bare,Un.kept keep4,⟨_,hns3,λi y v e1 e2 e3=>?_⟩,(λy c h=>let ⟨v,oc,ho,hd⟩:=I3.cell y c (hsub y c h);⟨v,oc,keep4 _ _ ho,hd⟩),I3.hok.fresh (υ _),(λy c h=>I3.freeC y c (hsub y c h)),(λp hp=>nomatch hp),I3.hok.kept keep4,by simp [aH,jE]⟩
  have e1:(tn++fr.map (·.2))[i]?=some y:=e1
  have e2:(ρ tn.length none++fr.map λp=>(σ[p.1]?).join)[i]?=some (some v):=e2
  by_cases hlt:i<tn.length
  ·rw[ξ (by simpa using hlt),X5] at e2
   split at e2<;>cases e2
  ·rw[χ (by omega)] at e1
   rw[χ (by simpa using hlt),Z1] at e2
   rw[Λ] at e1 e2
   cases q:fr[i-tn.length]? with
   | none=>rw[q] at e1;cases e1
   | some p =>
    rw[q] at e1 e2
    have e1:p.2=y:=Option.some.inj e1
    have e2:(σ[p.1]?).join=some v:=Option.some.inj e2
    subst e1
    obtain⟨g1,g2,g3,c,g4⟩:=hfr p (W4 q)
    have e4:σ[p.1]?=some (some v):=by
     cases z:σ[p.1]? with
     | none=>rw[z] at e2;cases e2
     | some w'=>rw[z] at e2;exact congrArg some e2
    obtain⟨m,hn,hl⟩:=I3.loc
    obtain⟨u,ru,lk⟩:=hl p.1 p.2 v g1 e4 (.inr (.inl g2))
    refine⟨u,ru,.inr ⟨.inl g3,c,g4,?_⟩⟩
    rcases lk with ⟨k1,_⟩ | ⟨_,c',k2,k3⟩
    ·rw[g2] at k1;cases k1
    ·rw[hsub _ _ g4] at k2
     cases k2
     obtain⟨oc,ho,hd⟩:=k3
     exact⟨oc,keep4 _ _ ho,hd⟩
 have st4:tk 0 h4:=T.keep 0 _ _ st2 λb hb o e=>keep4 b o (old3 b o e)
 have loop:codeAny (model X.prog X.w) X.A (.compLoop (.ListComp elt [⟨tg,iter,ifs,0⟩] scope pos) 0 (.ref it) (.ref s2.heap.objs.size) (compEnvC scope cl s3.heap.objs.size X.env))
   (compPost (model X.prog X.w) X.A X.xe (some (assign (.Name y py) X.env)) (λ_ s'=>SP X pins Dn .next s') (.ref s2.heap.objs.size) s3.heap.objs.size) { s3 with heap:=h4 }:=by
  refine codeAny_loop rfl (λn s'=>∃i σ' xs H',Inv (aH X scope cl fr tn s3.heap.objs.size s3 (upd H2 s2.heap.objs.size (.lst [])) fp) [] σ' H' s'/\tk i s'.heap/\(∀b∈fp,H' b=none)/\W i n σ' xs H') (λn s' hI=>?_) m0
   ⟨0,_,[],_,I4,st4,λb hb=>(f3 b hb).1,w0⟩
  show wpAny _ _ ((compTurn (.ListComp elt [⟨tg,iter,ifs,0⟩] scope pos) 0 (.ref it) (.ref s2.heap.objs.size) (compEnvC scope cl s3.heap.objs.size X.env)).onRaise (λx=>do noteFrame x _;theTreesLotGoes x)) _ _ s'
  refine wpAny_noted ?_
  rw[compTurn_list]
  obtain⟨i,σ5,xs,H5,I5,st5,fr5,w5⟩:=hI
  have stat:∀{H':Hp},(∀b∈fp,H' b=none)->∀b∈fp,lh (aH X scope cl fr tn s3.heap.objs.size s3 (upd H2 s2.heap.objs.size (.lst [])) fp) [] H' b:=λhn b hb =>
   ⟨hn b hb,(ok3.exf b hb).1,ok3.exfs b hb,.inl hb,(ok3.exf b hb).2,λp hp=>nomatch hp⟩
  obtain⟨hl,alt⟩:=turn i n σ5 xs H5 w5
  rcases alt with ⟨stop,qn⟩ | ⟨go,hz,step⟩
  ·refine wpAny_bind (wpAny_standAt (wpAny_bind (thn (T.done (aH X scope cl fr tn s3.heap.objs.size s3 (upd H2 s2.heap.objs.size (.lst [])) fp) rfl rfl rfl hc i [] s' σ5 H5 _ I5 (stat fr5) st5 stop) λr s6 ⟨hr,I6⟩=>?_)))
   subst hr
   refine wpAny_pure ?_
   obtain⟨m,hn6,_⟩:=I6.loc
   have I6':Inv X pins σ H5 s6:=p8 I3 f3 (υ _) I6 (h':=s6.heap) ⟨rfl,λ_ _=>rfl⟩
   have ab:∀{b:Addr} {o:Obj},s3.heap.get? b=some o->b≠s3.heap.objs.size:=λe=>Z8 (Heap.lt_size e)
   have nL:X.env.locals≠s3.heap.objs.size:=by
    obtain⟨_,⟨o,_,_,ho,_⟩,_⟩:=I3.loc
    exact ab ho
   have nC:∀z c,X.env.cells.lookup z=some c->c≠s3.heap.objs.size:=λz c e=>by
    obtain⟨w',oc,ho,_⟩:=I3.cell z c e
    exact ab ho
   show wpAny _ X.A (assign (.Name y py) X.env (.ref s2.heap.objs.size)) _ _ s6
   refine wpAny_assign_Name (pz (v:=.ref s2.heap.objs.size) I6' hN hiy hly rfl (λs7 I7 hs7=>?_) hfy)
   obtain⟨a,sb,ha⟩:=hs7
   have hna:s3.heap.objs.size≠a:=by
    rcases ha with rfl | ha
    ·exact nL.symm
    ·exact(nC _ _ ha).symm
   refine⟨m,hn6.sameBut sb hna,λh' hs'=>⟨σ.set iy (some (.ref s2.heap.objs.size)),H5,?_,qn⟩⟩
   have hfr:H5 s3.heap.objs.size=none:=I6.free
   exact I7.turned (t':=s7.toks) (λb o hb e=>(hs'.2 b hb).trans e) hfr nL.symm (.inr (W1 I3.ok.above (W7 I3.lt))) nC λp hp=>ab (I3.pin p hp).1
  ·refine wpAny_bind (wpAny_standAt (wpAny_bind (thn (T.item (aH X scope cl fr tn s3.heap.objs.size s3 (upd H2 s2.heap.objs.size (.lst [])) fp) rfl rfl rfl hc i [] s' σ5 H5 _ I5 (stat fr5) st5 go) λr s6 ⟨u,hr,h6⟩=>?_)))
   subst hr
   refine wpAny_bind (thn h6 λ_ s7 ⟨y,H7,I7,r7,y7,st7,fr7⟩=>?_)
   have I7':=I7.pinned (stat fr7) (T.obj _ _ st7)
   have hP:=hg s3.heap.objs.size s3 (upd H2 s2.heap.objs.size (.lst [])) fp _ s7 σ5 H7 y u _ I7' r7 (step y H7 y7)
   refine wpAny_bind (wpAny_mono hP (λ_ s8 ⟨σ8,H8,I8,q8⟩=>?_) (λ_ _ z=>False.elim z))
   refine wpAny_bind (wpAny_mono (hcs s3.heap.objs.size s3 (upd H2 s2.heap.objs.size (.lst [])) fp _ s8 σ8 H8 _ I8 q8) (λb s9 ⟨H9,I9,q9⟩=>?_) (λ_ _ z=>False.elim z))
   have again:∀{σ7:St} {H7:Hp} {s7':Shared} {xs':List V},Inv (aH X scope cl fr tn s3.heap.objs.size s3 (upd H2 s2.heap.objs.size (.lst [])) fp) ([]++lX fp s7.heap) σ7 H7 s7'->(∃m',m'<n/\W (i+1) m' σ7 xs' H7) ->
     ∃m,m<n/\∃i σ' xs H',Inv (aH X scope cl fr tn s3.heap.objs.size s3 (upd H2 s2.heap.objs.size (.lst [])) fp) [] σ' H' s7'/\tk i s7'.heap/\(∀b∈fp,H' b=none)/\W i m σ' xs H':=λ{σ7 H7 s7' xs'} I7 n7=>by
    obtain⟨m',hm,w7⟩:=n7
    refine⟨m',hm,i+1,σ7,xs',H7,I7.unpinned,T.keep _ _ _ st7 λb hb o e=>(I7.pin (b,o) (Y0 _ (Y0 _ (fP hb e)))).1,λb hb=>?_,w7⟩
    obtain⟨o,e,d⟩:=T.obj _ _ st7 b hb
    exact(I7.pin (b,o) (Y0 _ (Y0 _ (fP hb e)))).2.1
   cases b with
   | false =>
    rw[if_neg ω] at q9
    exact wpAny_pure ⟨rfl,again I9 q9⟩
   | true =>
    rw[if_pos rfl] at q9
    refine wpAny_bind (wpAny_bind (wpAny_mono (he _ _ _ _ _ s9 σ8 H9 _ I9 q9) (λuv s10 ⟨v,H10,I10,r10,hl10,w10⟩=>?_) λ_ _ z=>z.elim))
    refine wpAny_bind (wpAny_mono (kr (X:=aH X scope cl fr tn s3.heap.objs.size s3 (upd H2 s2.heap.objs.size (.lst [])) fp) _ s10 _ H10 (.ref s2.heap.objs.size) [v] (.ref s2.heap.objs.size) [uv] (λ_ H'=>H'=upd H10 s2.heap.objs.size (.lst (xs++[v]))) I10 rfl (.cons r10 .nil) ⟨_,xs,v,rfl,rfl,hl10,hz,rfl⟩) (λ_ s11 ⟨v11,H11,I11,r11,q11⟩=>?_) (λ_ _ z=>False.elim z))
    subst q11
    exact wpAny_pure (wpAny_pure ⟨rfl,again I11 w10⟩)
 subst hs3
 exact codeAny_compStart_list loop (T.self _ 0 _ _ _ st4 loop)
end
end L2
namespace DL
open PyProof.Rows L2
section
end
end DL
namespace L2
open PyProof.Rows
section
theorem nw:∀{is:List Int} {vs:List Value},aS (is.map V.int) vs->∃ts:List (Int×Tok),ts.map (·.1)=is/\vs=ts.map λp=>.int p.1 p.2
 | [],_,h=>by cases h;exact⟨[],rfl,rfl⟩
 | i::is,_,h=>by
  cases h with
  | cons r rs =>
   obtain⟨t,rfl⟩:=r
   obtain⟨ts,e,rfl⟩:=nw rs
   exact⟨(i,t)::ts,by rw[Θ,e],rfl⟩
end
section
end
end L2
namespace DL
open PyProof.Rows L2
section
end
end DL
namespace L2
open PyProof.Rows
section
end
end L2
namespace DL
open PyProof.Rows L2
section
end
end DL
namespace L2
open PyProof.Rows
section
end
end L2
namespace DL
open PyProof.Rows L2
section
theorem qo{cells:List (Str×Addr)}:∀y c,([]:List (Str×Addr)).lookup y=some c->cells.lookup y=some c:=λ_ _ h=>by cases h
theorem qm{n:Str}{a:Addr}{cells:List (Str×Addr)}(h:cells.lookup n=some a):∀y c,[(n,a)].lookup y=some c->cells.lookup y=some c:=λy c q=>by
 unfold V0 at q
 split at q
 ·rename_i e
  have e:y=n:=eq_of_beq e
  cases q
  rw[e]
  exact h
 ·cases q
end
end DL
namespace DL
open PyProof.Rows L2
def mM(K:ζ)(H:Hp)(k:V->Hp->Prop)(d:D):Prop:=∃ds,d=.list ds/\aN ds=true/\∀l xs H',aG H H'->H l=none->H' l=some (.lst xs)->Reps K [] H' xs ds->k (.ref l) H'
def PDF(X:Cx)(G:XD->Hp->Prop)(e:Expr)(f:DS->M D):Prop :=
 ∃t,PE X e t/\∀{Hr:Hp} (δ:DS) (O:List Addr) (σ:St) (H:Hp) (Q:VK),Ev X.K Hr O H σ δ->ok (GS G Hr) (f δ) (mM X.K H Q)->t σ H Q
def FinF(K:ζ)(Hr:Hp)(R0:List Addr)(H0:Hp)(Dn:Ends):Out->Prop
 | .rt d=>mM K H0 Dn.rt d
 | _=>False
def oT(X:Cx)(G:XD->Hp->Prop)(st:List Stmt)(g:DS->M Out):Prop :=
 ∃t,PSs X st t/\∀{Hr:Hp} (R0:List Addr) (H0:Hp) (δ:DS) (O:List Addr) (σ:St) (H:Hp) (Dn:Ends),EI X.K Hr R0 (λ_=>False) H0 O H σ δ->ok (GS G Hr) (g δ) (FinF X.K Hr R0 H0 Dn)->t Dn σ H
section
theorem pJ(hc:X.calm=true)
  (hkind:scope.kind=.function) (hcell:∀y∈scope.names,y.2≠.cell) (hclos:closureFor scope X.env=pure cl) (hsub:∀y c,cl.lookup y=some c->X.env.cells.lookup y=some c)
  (hhas:∀y∈(relabel scope X.env).names,(y.2=.cell\/y.2=.free)->∃c,cl.lookup y.1=some c) (hfr:∀p∈fr,X.N[p.1]?=some p.2/\X.env.kindOf p.2=some .cell/\(compEnvC scope cl 0 X.env).kindOf p.2=some .cell/\∃c,cl.lookup p.2=some c) (hnames:∀y∈scope.names,y.2=.local->scope.names.lookup y.1=some .local)
  (hi:PDI X G tg iter fi) (hg:∀C s3 H3 fp,PDG (aH X scope cl fr tn C s3 H3 fp) tg t) (hcs:∀C s3 H3 fp,o6 (aH X scope cl fr tn C s3 H3 fp) ifs c) (he:∀C s3 H3 fp,PD (aH X scope cl fr tn C s3 H3 fp) (λ_ _=>False) elt f) (hs:∀x,foldedSetIterable iter X.env x=pure x:=by intro _;rfl) :
  PDF X G (.ListComp elt [⟨tg,iter,ifs,0⟩] scope pos) (bx tn.length (fr.map (·.1)) t fi c f):=by
 obtain⟨wi,pi,hi⟩:=hi
 refine⟨_,nV (g:=gD X.K t) (tc:=cD X.K c) (te:=tD X.K (λ_ _=>False) f) hc hkind hcell hclos hsub hhas hfr hnames pi (λC s3 H3 fp=>(hg C s3 H3 fp).can) (λC s3 H3 fp=>(hcs C s3 H3 fp).can) (λC s3 H3 fp=>(he C s3 H3 fp).can) hs,@λHr δ O σ H Q E k=>?_⟩
 refine hi δ O σ H _ E (ah (aq k) λds z J H1 s1 Y=>?_)
 by_cases hsz:aL ds.length=true
 case neg =>
  rw[if_neg hsz] at z
  exact z.elim
 rw[if_pos hsz] at z
 intro l hl
 have E1:=E.same s1
 have hl0:H l=none:=by
  cases q:H l with
  | none=>rfl
  | some o=>rw[s1 l o q] at hl;cases hl
 have kk:=ah (aq z) λys (q:mM X.K H Q (.list ys))=>(show aN ys=true/\∀xs H2,Kp l H1 H2->H2 l=some (.lst xs)->Reps X.K [] H2 xs ys->Q (.ref l) H2 from by
  obtain⟨ds',e,hf,q⟩:=q
  cases e
  exact⟨hf,λxs H2 kp h2 rx=>q l xs H2 (s1.trans (kp.same hl)) hl0 h2 rx⟩)
 refine⟨λi m τ xs H2=>m=ds.length-i/\i<=ds.length/\xs.length<=i/\H2 l=some (.lst xs)/\∃δc ys,EC X.K O H1 l H2 τ δc/\Reps X.K (l::O) H2 xs ys /\
  ok (GS G Hr) (bP t (nX c) (nX f) (ds.drop i) δc) (λrest=>aN (ys++rest)=true/\∀xs H3,Kp l H1 H3->H3 l=some (.lst xs)->Reps X.K [] H3 xs (ys++rest)->Q (.ref l) H3),
  ⟨_,rfl,X8 _,υ _,aK,_,[],mV E1 tn.length hl,.nil,kk⟩,?_⟩
 rintro i m τ xs H2 ⟨rfl,hi,hx,h2,δc,ys,Ec,ry,kc⟩
 have kp:Kp l H1 H2:=λb o hb e=>Ec.keep b o hb e
 refine⟨h2,?_⟩
 have T:To O (l::O) H1 H2:=kp.to hl
 by_cases hlt:i<ds.length
 ·right
  have hd:ds[i]?=some ds[i]:=ψ hlt
  obtain⟨go,yl⟩:=Y.step (l::O) H2 T i _ hd
  refine⟨go,Nat.lt_of_le_of_lt hx (Z2 hlt (bz hsz)),λx H3 y=>?_⟩
  obtain⟨s3,rx⟩:=yl x H3 y
  rw[iu hd] at kc
  obtain⟨δ',ht,kc⟩:=cy (aq (show ok (GS G Hr) ((M.lift (t ds[i] δc)).thn _) _ from kc))
  refine⟨_,_,_,_,δc,δ',ds[i],l::O,Ec.same s3,rx,ht,λτ' H4 E4 s4=>?_⟩
  refine⟨_,δ',l::O,E4.ev,ah (pK (aq kc)) λb zb H5 s5=>?_⟩
  have E5:=E4.same s5
  have s25:=(s3.trans s4).trans s5
  dsimp only
  cases b with
  | false =>
   rw[if_neg ω] at zb ⊢
   exact⟨_,by omega,rfl,hlt,by omega,s25 _ _ h2,δ',ys,E5,ry.same s25,zb⟩
  | true =>
   rw[if_pos rfl] at zb ⊢
   refine⟨_,δ',l::O,E5.ev,qE (ah (pK (aq zb)) λy kz v H6 s6 rv=>?_)⟩
   have h6:H6 l=some (.lst xs):=s6 _ _ (s25 _ _ h2)
   have ts:To (l::O) (l::O) H6 (upd H6 l (.lst (xs++[v]))):=To.set h6 ο
   refine⟨h6,ds.length-(i+1),by omega,rfl,hlt,by rw[η];show xs.length+1<=i+1;omega,aK,δ',ys++[y],EC.put (E5.same s6) h6,(((ry.same s25).same s6).to ts).append (.cons (rv.to ts) .nil),?_⟩
   exact ah (aq kz) λrest q=>⟨by rw[W2];exact q.1,λxs7 H7 kp7 h7 r7=>q.2 xs7 H7 kp7 h7 (by rw[W2] at r7;exact r7)⟩
 ·left
  have e:i=ds.length:=by omega
  subst e
  rw[V6] at kc
  obtain⟨hf,kc⟩:=(show aN (ys++[])=true/\∀xs H3,Kp l H1 H3->H3 l=some (.lst xs)->Reps X.K [] H3 xs (ys++[])->Q (.ref l) H3 from kc)
  refine⟨Y.stop (l::O) H2 T,kc xs H2 kp h2 ?_⟩
  rw[Z4] at hf ⊢
  exact ry.flat hf
end
noncomputable def spDF(K:ζ)(n:Nat)(F:List D->M D):Sp:=λvs H Q _=>∃O ds,vs.length=n/\(∀l∈O,Mu H l)/\Reps K O H vs ds/\ok (λ_=>False) (F ds) (mM K H Q)
section
end
section
variable{P:Program}{w:World}{K:ζ}{mg:Str->Option Value}{base:Heap}
theorem fn_ofDF{x qual:Str}{st:Stmt}{f:Addr}{fd:FuncData}{N ps:List Str}{k:Nat}{g:DS->M Out}(F0:Fun K x qual st f fd)(S:FnScope N ps (ao st))
  (hbody:∀(cdv:Value) (A:Around) (outer:List Env) (s:Shared) (H:Hp) (E:XK),Room k (A.deeper (envOfC qual (ao st) s.heap.objs.size f cdv)) ->
   oT (oQ CX0 P w K mg base N qual (ao st) f cdv A outer s H E).nox (λ_ _=>False) (ek st) g):FnOk P w K mg base CX0 (k+1) f fd ps (spDF K ps.length (run N.length g)):=by
 refine F0.ok S (λvs H Q E h=>?_) (λcdv A outer s H vs Q E hr h=>?_)
 ·obtain⟨O,ds,hl,_⟩:=h
  exact hl
 ·obtain⟨O,ds,hl,oo,r,q⟩:=h
  obtain⟨t,p,hB⟩:=hbody cdv A outer s H E hr
  refine⟨t,p,hB O H (iM N.length ds) O (L2.gj N vs) H _ ⟨sP N oo r,λl hl=>.inl hl,λb o _ h=>h,λl hl=>.inl hl,λi es l h1 ho h2=>?_,λl hl=>hl⟩ (ah (nY (aq q)) λo z=>?_)⟩
  ·exact(rR h1 ho).elim
  ·cases o with
   | rt d=>exact z
   | nx δ =>
    obtain⟨ds',e,_⟩:=(show mM K H Q .none from z)
    cases e
   | bk δ=>exact z.elim
   | ct δ=>exact z.elim
end
end DL
namespace L2
open PyProof.Rows
section
theorem mw(f:Nat->Int)(l:List Int)(h:∀j,j<l.length->f j=l.getD j 0):∀n,n<=l.length->preSum f n=(l.take n).sum
 | 0,_=>by simp [preSum]
 | n+1,hn=>by
  have e:preSum f (n+1)=preSum f n+f n:=rfl
  rw[e,mw f l h n (by omega),h n (by omega),List.take_succ,List.sum_append]
  have:l[n]?=some l[n]:=ψ (by omega)
  rw[this]
  simp [List.getD,this]
end
end L2
namespace DL
open PyProof.Rows L2
section
variable{X:Cx}
noncomputable def nU:D->Option V
 | .none=>some .non
 | .bool b=>some (.bl b)
 | .int i=>some (.int i)
 | .str x=>some (.str x)
 | _=>none
noncomputable def iD:List D->Option (List V)
 | []=>some []
 | d::ds=>match nU d,iD ds with
  | some v,some vs=>some (v::vs)
  | _,_=>none
theorem kZ{K:ζ}{O:List Addr}{H:Hp}{d:D}{v u:V}(h:nU d=some v)(r:Rep K O H u d):u=v/\kQ v=true:=by
 cases r<;>cases h<;>exact⟨rfl,rfl⟩
theorem jQ{K:ζ}{O:List Addr}{H:Hp}:∀{ds:List D} {vs us:List V},iD ds=some vs->Reps K O H us ds->us=vs/\vs.all kQ=true
 | [],vs,_,h,.nil=>by cases h;exact⟨rfl,rfl⟩
 | d::ds,vs,_,h,.cons r rs=>by
  simp only[iD] at h
  split at h
  ·rename_i v ws e1 e2
   cases h
   obtain⟨rfl,f1⟩:=kZ e1 r
   obtain⟨rfl,f2⟩:=jQ e2 rs
   exact⟨rfl,by rw[U9,f1,f2];rfl⟩
  ·cases h
noncomputable def ss(neg:Bool):D->D->Option D
 | x,.list ds=>match nU x,iD ds with
  | some v,some vs=>some (.bool (if neg then !inV v vs else inV v vs))
  | _,_=>none
 | x,.tuple ds=>match nU x,iD ds with
  | some v,some vs=>some (.bool (if neg then !inV v vs else inV v vs))
  | _,_=>none
 | _,_=>none
theorem oInL_run{neg:Bool}{O:List Addr}{H:Hp}{x y d:D}{v u:V}{Q:VK}(rx:Rep X.K O H v x)(ry:Rep X.K O H u y)(e:ss neg x y=some d)(k:∀v' H',aG H H'->Rep X.K O H' v' d->Q v' H'):rIn X.K neg v u H Q:=by
 unfold ss at e
 split at e
 ·split at e
  ·rename_i e1 e2
   cases e
   obtain⟨rfl,f1⟩:=kZ e1 rx
   obtain⟨p,xs,rfl,h1,rs⟩:=ry.lst_inv
   obtain⟨rfl,f2⟩:=jQ e2 rs
   exact⟨p,_,rfl,.inl h1,f1,f2,k _ H (aG.refl H) (.bl _)⟩
  ·cases e
 ·split at e
  ·rename_i e1 e2
   cases e
   obtain⟨rfl,f1⟩:=kZ e1 rx
   obtain⟨p,xs,rfl,h1,rs⟩:=ry.tup_inv
   obtain⟨rfl,f2⟩:=jQ e2 rs
   exact⟨p,_,rfl,.inr h1,f1,f2,k _ H (aG.refl H) (.bl _)⟩
  ·cases e
 ·cases e
theorem vO:DOp X (compareOp .In) (ss false):=⟨_,wv,λO H x y d v u Q oo rx ry e k=>oInL_run rx ry e k⟩
end
section
variable{X:Cx}{G:XD->Hp->Prop}{e:Expr}{es:List Expr}{f:DS->M D}{fa:DS->M (List D)}{gs gt:DS->M Out}{st:Stmt}{sts:List Stmt}{pos:Pos}
noncomputable def pW(i:Nat):DS->M Out:=λδ=>match δ[i]? with
 | some (.ow ds)=>if aN ds=true then M.ret (.rt (.list ds)) else none
 | _=>none
theorem EI.sames{K:ζ}{Hr H0 H:Hp}{R0 O:List Addr}{σ:St}{δ:DS}(E:EI K Hr R0 (λ_=>False) H0 O H σ δ):aG H0 H:=λb o h=>E.keep b o (λw=>w) h
theorem wj(he:PE X e (oV i)):oT X G [.Return (some e) pos] (pW i):=by
 refine⟨_,qw (lV he),λR0 H0 δ O σ H Dn E k=>?_⟩
 unfold pW at k
 split at k
 ·rename_i ds hd
  by_cases hf:aN ds=true
  ·rw[if_pos hf] at k
   obtain⟨l,xs,q1,q2,q3,q4⟩:=E.ev.at_ i _ hd
   obtain⟨ds',e1,hf',k⟩:=(show mM X.K H0 Dn.rt (.list ds) from k)
   cases e1
   have hl:H0 l=none:=by
    rcases E.om l q2 with h | h | h
    ·exact absurd h (E.nr i ds l hd q1)
    ·exact h.elim
    ·exact h
   exact⟨.ref l,q1,k l xs H E.sames hl q3 (q4.flat hf)⟩
  ·rw[if_neg hf] at k
   exact k.elim
 ·exact k.elim
noncomputable def pV(g h:DS->M Out):DS->M Out:=λδ=>(g δ).thn λo=>match o with
 | .nx δ'=>h δ'
 | _=>none
theorem wk(h1:PDS X G st gs)(h2:oT X G sts gt):oT X G (st::sts) (pV gs gt):=by
 obtain⟨t,p,h1⟩:=h1
 obtain⟨u,q,h2⟩:=h2
 refine⟨_,nR p q,λR0 H0 δ O σ H Dn E k=>?_⟩
 refine h1 R0 _ H0 δ O σ H _ E (ah (aq k) λo z=>?_)
 cases o with
 | nx δ'=>exact λO' σ' H' E'=>h2 R0 H0 δ' O' σ' H' Dn E' z
 | rt d=>exact z.elim
 | bk δ'=>exact z.elim
 | ct δ'=>exact z.elim
theorem ev_retF(h:δ[i]?=some (.ow ds))(hf:aN ds=true):pW i δ=M.ret (.rt (.list ds)):=by unfold pW;rw[h];show(if _ then _ else _)=_;rw[if_pos hf]
mutual
theorem Rep.flatTo{K:ζ}{O O':List Addr}{H H':Hp}(t:∀b xs,Rd H b (.tup xs)->Rd H' b (.tup xs)):∀{v:V} {d:D},bL d=true->Rep K O H v d->Rep K O' H' v d
 | _,_,_,.non=>.non
 | _,_,_,.bl b=>.bl b
 | _,_,_,.int i=>.int i
 | _,_,_,.str x=>.str x
 | _,_,h,.tup q r=>.tup (by rcases q with q | q;exact .inl (t _ _ q);exact .inr q) (Reps.flatTo t (by simpa only[bL] using h) r)
 | _,_,h,.lst _ _ _=>by simp [bL] at h
 | _,_,h,.lstK _ _=>by simp [bL] at h
 | _,_,h,.dct _ _ _ _=>by simp [bL] at h
 | _,_,h,.ins _ _ _ _ _=>by simp [bL,jm] at h
theorem Reps.flatTo{K:ζ}{O O':List Addr}{H H':Hp}(t:∀b xs,Rd H b (.tup xs)->Rd H' b (.tup xs)):∀{vs:List V} {ds:List D},aN ds=true->Reps K O H vs ds->Reps K O' H' vs ds
 | _,_,_,.nil=>.nil
 | _,_,h,.cons r rs=>by
  simp only[aN,Z5] at h
  exact .cons (Rep.flatTo t h.1 r) (Reps.flatTo t h.2 rs)
end
end
end DL
namespace DL
open PyProof.Rows L2
section
end
end DL
namespace L2
open PyProof.Rows
section
theorem sK:PGet X (rIxL X.K):=by
 intro pins s σ H x y v u Q I rx ry h
 obtain⟨p,xs,i,z,rfl,rfl,hq,he,q⟩:=h
 cases rx
 obtain⟨t,rfl⟩:=ry
 obtain⟨its,r,pl,hz⟩:=I.list hq
 obtain⟨j,h1,h2,h3,h4,h5⟩:=ng he
 obtain⟨w,ew,rw'⟩:=r.get h2
 have hl:=r.length
 have hn:=jX
 have fin:EP X pins σ Q w s:=⟨z,H,I,rw',q⟩
 by_cases h0:0<=i
 ·have hj:i.toNat=j:=by
   rw[seqIndex_of h0 h5] at h1
   exact Option.some.inj h1
  exact wpAny_getItem_list pl.isList h0 (by omega) (by rw[hj];simpa using ew) fin
 ·have hj:(i+(its.toArray.size:Int)).toNat=j:=by
   rw[seqIndex_neg (by omega) h4] at h1
   rw[Ξ,<-hl]
   exact Option.some.inj h1
  exact wpAny_getItem_list_neg pl.isList (by omega) (by rw[Ξ]<;>omega) (by omega) (by rw[hj];simpa using ew) fin
end
end L2
namespace DL
open PyProof.Rows L2
theorem EI.put{K:ζ}{Hr:Hp}{R0:List Addr}{P0:Addr->Prop}{H0 H:Hp}{O:List Addr}{σ:St}{δ:DS}{i:Nat}{l:Addr}{xs ys:List V}{ds ds':List D}(E:EI K Hr R0 P0 H0 O H σ δ)(hd:δ[i]?=some (.ow ds))(hσ:σ[i]?=some (some (.ref l)))(hl:H l=some (.lst xs))(ry:Reps K O H ys ds') :
  EI K Hr R0 P0 H0 O (upd H l (.lst ys)) σ (δ.set i (.ow ds')):=by
 obtain⟨l',xs',q1,lO,q3,_⟩:=E.ev.at_ i _ hd
 rw[hσ] at q1
 cases q1
 have tO:To O O H (upd H l (.lst ys)):=To.set hl lO
 refine⟨⟨λb o h=>?_,λa ha=>?_,by rw[Ω];exact E.ev.len,λj s h=>?_,λj k a es es' hjk h1 h2 h3=>?_⟩,E.omr,λb o n h=>?_,E.om,λj es a h1 ho h2=>?_,E.sub⟩
 ·have q:=E.ev.root b o h
  have hne:b≠l:=λz=>by
   subst z
   rcases E.omr b lO with w | w
   ·exact E.nr i ds b hd hσ w
   ·rw[h] at w;cases w
  rw[upd_ne hne]
  exact q
 ·by_cases hb:a=l
  ·rw[hb];exact .lst aK
  ·exact(E.ev.oo a ha).upd_ne hb
 ·rw[bB] at h
  by_cases hij:i=j
  ·rw[if_pos hij] at h
   split at h
   ·cases h
    rw[<-hij,hσ]
    exact⟨l,_,rfl,lO,aK,ry.to tO⟩
   ·cases h
  ·rw[if_neg hij] at h
   refine(E.ev.at_ j s h).to tO (hd_set hl) λa ys h1 h2 h3 h4=>⟨h1,?_⟩
   obtain⟨es,rfl⟩:=h4
   have hne:a≠l:=λz=>by
    subst z
    exact E.ev.dis i j a ds es hij hd h hσ h3
   rw[upd_ne hne]
   exact h2
 ·have old:∀(j:Nat) (es:List D),(δ.set i (.ow ds'))[j]?=some (.ow es)->∃es',δ[j]?=some (.ow es'):=λj es h=>by
   rw[bB] at h
   by_cases hij:i=j
   ·rw[<-hij];exact⟨ds,hd⟩
   ·rw[if_neg hij] at h;exact⟨es,h⟩
  obtain⟨e1,h1⟩:=old j es h1
  obtain⟨e2,h2⟩:=old k es' h2
  exact E.ev.dis j k a e1 e2 hjk h1 h2 h3
 ·have q:=E.keep b o n h
  have hne:b≠l:=λz=>by
   subst z
   rcases E.om b lO with w | w | w
   ·exact E.nr i ds b hd hσ w
   ·exact n w
   ·rw[h] at w;cases w
  rw[upd_ne hne]
  exact q
 ·rw[bB] at h1
  by_cases hij:i=j
  ·exact E.nr i ds a hd (by rw[hij];exact h2)
  ·rw[if_neg hij] at h1
   exact E.nr1 j es a h1 ho h2
section
theorem Reps.set{K:ζ}{O:List Addr}{H:Hp}:∀{xs:List V} {ds:List D} {v:V} {d:D} (j:Nat),Reps K O H xs ds->Rep K O H v d->Reps K O H (xs.set j v) (ds.set j d)
 | _,_,_,_,_,.nil,_=>.nil
 | _,_,_,_,0,.cons _ t,r=>.cons r t
 | _,_,_,_,j+1,.cons q t,r=>.cons q (Reps.set j t r)
noncomputable def oI(i:Nat)(fi f:DS->M D):DS->M Out:=λδ=>match δ[i]? with
 | some (.ow ds)=>(f δ).thn λd=>(fi δ).thn λk=>match k with
  | .int k=>match ixN ds.length k with
   | some j=>M.ret (.nx (δ.set i (.ow (ds.set j d))))
   | none=>none
  | _=>none
 | _=>none
theorem pd_setO(hv:PE X a (oV i))(hi:PD X G ix fi)(he:PD X G e f)
  (ha:∀v,assign (.Subscript a ix tpos) X.env v=(do
   let ov <- holding [v] (eval a X.env)
   let iv <- holding [v,ov] (eval ix X.env)
   standAt tpos
   holding [v,ov,iv] (setItem ov iv v)
   release [v,ov,iv] []):=by intro _;rfl)
  (hs:swapsWithSole [.Subscript a ix tpos] e pos.line X.env=pure false:=by rfl) (hw:swappedStores [.Subscript a ix tpos] e X.env=pure none:=by rfl)
  (h1:(assignEach [.Subscript a ix tpos] X.env).map (·.2)=[assign (.Subscript a ix tpos) X.env]:=by rfl):PDS X G (.Assign [.Subscript a ix tpos] e pos) (oI i fi f):=by
 obtain⟨t,p,he⟩:=he
 obtain⟨u,q,hi⟩:=hi
 refine⟨_,qy p (tU hv q jM ha) hs hw h1,λR0 P0 H0 δ O σ H Dn E k=>?_⟩
 unfold oI at k
 split at k
 ·rename_i ds hd
  obtain⟨l,xs,q1,q2,q3,q4⟩:=E.ev.at_ i _ hd
  refine he δ O σ H _ E.ev (ah (aq k) λd z v H1 s1 r=>⟨.ref l,q1,?_⟩)
  refine hi δ O σ H1 _ (E.same s1).ev (ah (aq z) λkd zz kv H2 s2 rk=>?_)
  match kd,zz,rk with
  | .int n,zz,rk =>
   dsimp only at zz
   rw[rk.int_inv]
   have s12:=s1.trans s2
   cases hj:ixN ds.length n with
   | none=>rw[hj] at zz;exact zz.elim
   | some j =>
    rw[hj] at zz
    refine⟨l,xs,n,j,rfl,rfl,s12 _ _ q3,by rw[q4.length];exact hj,?_⟩
    exact zz O σ _ ((E.same s12).put hd q1 (s12 _ _ q3) ((q4.same s12).set j (r.same s2)))
 ·exact k.elim
noncomputable def mG(i:Nat)(h:Int->Int->Int)(fi f:DS->M D):DS->M Out:=λδ=>match δ[i]? with
 | some (.ow ds)=>(fi δ).thn λk=>match k with
  | .int k=>match ixN ds.length k with
   | some j=>match ds[j]? with
    | some (.int m)=>(f δ).thn λd=>match d with
     | .int n=>M.ret (.nx (δ.set i (.ow (ds.set j (.int (h m n))))))
     | _=>none
    | _=>none
   | none=>none
  | _=>none
 | _=>none
theorem vi(hop:PIp X op (ipI h))(hv:PE X a (oV i))(hi:PD X G ix fi)(he:PD X G e f)
  (ha:∀ov iv new,augStore ix ov iv new=(do holding [new,ov,iv] (setItem ov iv new);release [new,ov,iv] [];pure .next):=by intros;rfl):PDS X G (.AugAssign (.Subscript a ix tpos) op e pos) (mG i h fi f):=by
 obtain⟨t,p,he⟩:=he
 obtain⟨u,q,hi⟩:=hi
 refine⟨_,u7 hv q sK p hop jM ha,λR0 P0 H0 δ O σ H Dn E k=>?_⟩
 unfold mG at k
 split at k
 ·rename_i ds hd
  obtain⟨l,xs,q1,q2,q3,q4⟩:=E.ev.at_ i _ hd
  refine⟨.ref l,q1,?_⟩
  refine hi δ O σ H _ E.ev (ah (aq k) λkd zz kv H1 s1 rk=>?_)
  match kd,zz,rk with
  | .int n,zz,rk =>
   dsimp only at zz
   rw[rk.int_inv]
   cases hj:ixN ds.length n with
   | none=>rw[hj] at zz;exact zz.elim
   | some j =>
    rw[hj] at zz
    dsimp only at zz
    cases hm:ds[j]? with
    | none=>rw[hm] at zz;exact zz.elim
    | some m =>
     rw[hm] at zz
     match m,hm,zz with
     | .int m,hm,zz =>
      dsimp only at zz
      obtain⟨v,hv1,rv⟩:=(q4.same s1).get hm
      rw[rv.int_inv] at hv1
      have hj':ixN xs.length n=some j:=by rw[q4.length];exact hj
      refine⟨l,xs,n,.int m,rfl,rfl,.inl (.inl (s1 _ _ q3)),by unfold L2.atI;rw[hj'];exact hv1,?_⟩
      refine he δ O σ H1 _ (E.same s1).ev (ah (aq zz) λd zd v2 H2 s2 r2=>?_)
      match d,zd,r2 with
      | .int d,zd,r2 =>
       dsimp only at zd
       rw[r2.int_inv]
       have s12:=s1.trans s2
       refine⟨m,d,rfl,rfl,l,xs,n,j,rfl,rfl,s12 _ _ q3,hj',?_⟩
       exact zd O σ _ ((E.same s12).put hd q1 (s12 _ _ q3) ((q4.same s12).set j (.int _)))
 ·exact k.elim
noncomputable def gp(fn:DS->M (List D)):DS->M D:=λδ=>(fn δ).thn λds=>M.ret (.list ds)
theorem pd_ofN(h:PDN X G e fn):PD X G e (gp fn):=by
 obtain⟨t,p,h⟩:=h
 refine⟨t,p,λδ O σ H Q E k=>?_⟩
 refine h δ O σ H Q E (ah (aq k) λds z l xs H1 s1 hl rx=>?_)
 exact z (.ref l) _ (s1.trans (ba hl)) (g9 (E.same s1).oo hl rx)
theorem eE{δ:DS}{ds:List D}(h:fn δ=M.ret ds):gp fn δ=M.ret (.list ds):=by unfold gp;rw[h];rfl
noncomputable def jW(f g:DS->M D):DS->M (List D):=λδ=>(f δ).thn λx=>(g δ).thn λy=>match x,y with
 | .list xs,.list ys=>if aL (xs.length+ys.length) then M.ret (xs++ys) else none
 | _,_=>none
theorem mZ(ha:PD X G a f)(hb:PD X G b g):PDN X G (.BinOp a .Add b pos) (jW f g):=by
 obtain⟨ta,pa,ha⟩:=ha
 obtain⟨tb,pb,hb⟩:=hb
 refine⟨_,va qD pa pb,λδ O σ H Q E k=>?_⟩
 refine ha δ O σ H _ E (ah (aq k) λx z v H1 s1 rx=>?_)
 refine hb δ O σ H1 _ (E.same s1) (ah (aq z) λy z u H2 s2 ry=>?_)
 match x,y,z,rx,ry with
 | .list xs,.list ys,z,rx,ry =>
  obtain⟨p,vs,rfl,h1,r1⟩:=(rx.same s2).lst_inv
  obtain⟨q,ws,rfl,h2,r2⟩:=ry.lst_inv
  by_cases hz:aL (xs.length+ys.length)=true
  ·have z:ok _ (if aL (xs.length+ys.length)=true then M.ret (xs++ys) else none) _:=z
   rw[if_pos hz] at z
   exact⟨p,q,vs,ws,rfl,rfl,h1,h2,by rw[r1.length,r2.length];exact bz hz,λl hl=>z l _ H2 (s1.trans s2) hl (r1.append r2)⟩
  ·have z:ok _ (if aL (xs.length+ys.length)=true then M.ret (xs++ys) else none) _:=z
   rw[if_neg hz] at z
   exact z.elim
theorem gJ{δ:DS}{xs ys:List D}(h1:f δ=M.ret (.list xs))(h2:g δ=M.ret (.list ys))(hz:aL (xs.length+ys.length)=true):jW f g δ=M.ret (xs++ys):=by
 unfold jW;rw[h1,aD,h2];show(if _ then _ else _)=_;rw[if_pos hz]
theorem Reps.rep{K:ζ}{O:List Addr}{H:Hp}{xs:List V}{ds:List D}(h:Reps K O H xs ds):∀k:Nat,Reps K O H (ρ k xs).flatten (ρ k ds).flatten
 | 0=>.nil
 | k+1=>by
  rw[X9,X9,U5,U5]
  exact h.append (Reps.rep h k)
noncomputable def jV(fn:DS->M (List D))(g:DS->M D):DS->M (List D):=λδ=>(fn δ).thn λds=>(g δ).thn λy=>match y with
 | .int k=>if aL (ds.length*k.toNat)&&decide (-(2 ^ 63)<=k/\k<2 ^ 63) then M.ret (ρ k.toNat ds).flatten else none
 | _=>none
theorem pdn_rep(ha:PDN X G a fn)(hb:PD X G b g):PDN X G (.BinOp a .Mult b pos) (jV fn g):=by
 obtain⟨ta,pa,ha⟩:=ha
 obtain⟨tb,pb,hb⟩:=hb
 refine⟨_,va op_rep pa pb,λδ O σ H Q E k=>?_⟩
 refine ha δ O σ H _ E (ah (aq k) λds z l xs H1 s1 hl rx=>?_)
 have s2:aG H1 (upd H1 l (.lst xs)):=ba hl
 refine hb δ O σ _ _ (E.same (s1.trans s2)) (ah (aq z) λy z u H2 s3 ry=>?_)
 match y,z,ry with
 | .int n,z,ry =>
  rw[ry.int_inv]
  by_cases hz:(aL (ds.length*n.toNat)&&decide (-(2 ^ 63)<=n/\n<2 ^ 63))=true
  ·have z:ok _ (if (aL (ds.length*n.toNat)&&decide (-(2 ^ 63)<=n/\n<2 ^ 63))=true then M.ret (ρ n.toNat ds).flatten else none) _:=z
   rw[if_pos hz] at z
   simp only[Z5,decide_eq_true_eq] at hz
   exact⟨l,n,xs,rfl,rfl,s3 _ _ aK,hz.2.1,hz.2.2,by rw[rx.length];exact bz hz.1,λp hp=>z p _ H2 ((s1.trans s2).trans s3) hp (((rx.same s2).same s3).rep _)⟩
  ·have z:ok _ (if (aL (ds.length*n.toNat)&&decide (-(2 ^ 63)<=n/\n<2 ^ 63))=true then M.ret (ρ n.toNat ds).flatten else none) _:=z
   rw[if_neg hz] at z
   exact z.elim
theorem flat_rep(d:D)(k:Nat):(ρ k [d]).flatten=ρ k d:=by
 induction k with
 | zero=>rfl
 | succ k ih=>rw[X9,U5,ih,X9];rfl
theorem jx(h1:fn δ=M.ret [d])(h2:g δ=M.ret (.int k))(h0:0<=k)(hk:k<=1000000):jV fn g δ=M.ret (ρ k.toNat d):=by
 unfold jV;rw[h1,aD,h2]
 show(if _ then _ else _)=_
 rw[if_pos,flat_rep]
 simp only[Z5,decide_eq_true_eq]
 exact⟨ax (by show 1*k.toNat<=_;omega),by omega,by omega⟩
end
end DL
namespace L2
open PyProof.Rows
theorem wZ(hc:X.calm=true):fN X (.builtin "sum") (λxs H Q=>∃(p:Addr) (is:List Int),xs=[.ref p]/\SqL X.K H p (is.map V.int)/\Q (.int is.sum) H):=by
 intro pins s σ H xs us Q I r h
 obtain⟨l,is,rfl,hq,q⟩:=h
 obtain⟨u,rfl,rx⟩:=kO r
 cases rx
 obtain⟨its,rv,pl,hz⟩:=I.list hq
 obtain⟨ts,e,rfl⟩:=nw rv
 have hl:s.heap.IsList l (intItems ts.toArray):=by
  have:=pl.isList
  have e2:intItems ts.toArray=(ts.map λp=>Value.int p.1 p.2).toArray:=by unfold intItems;simp
  rw[e2]
  exact this
 have hlen:ts.length=is.length:=by rw[<-e,θ]
 have hat:∀j,j<is.length->numAt ts.toArray j=is.getD j 0:=λj hj=>by
  unfold numAt
  rw[<-e]
  have:j<ts.length:=by omega
  simp [this]
 have hll:l<s.heap.objs.size:=by
  obtain⟨o,ho,_⟩:=hl
  exact Heap.lt_size ho
 refine call_sum_walkG (wpAny_pyIter_list hl ?_)
 refine⟨_,[_,l],[_],_,_,_,numAt ts.toArray,rfl,Walks.list (A:=X.A.in1) (I.ok.hd hc) _ l (Z8 hll) (intItems ts.toArray),⟨⟨_,Heap.get?_push_size _ rfl,rfl,rfl⟩,hl.push _⟩,λd hd=>?_,λi v hv=>intItems_at hv,λh' tk t' hk=>?_⟩
 ·show d<(s.heap.push _).objs.size
  rw[Heap.size_push]
  rcases Γ.mp hd with rfl | hd
  ·exact Nat.lt_succ_self _
  ·rcases Γ.mp hd with rfl | hd
   ·exact Nat.lt_succ_of_lt hll
   ·cases hd
 ·have hold:∀d o,s.heap.get? d=some o->h'.get? d=some o:=λd o e=>by
   refine hk d o (λhm=>?_) (Heap.get?_push_of_some _ e)
   rcases Γ.mp hm with e1 | hm
   ·have:=Heap.lt_size e;rw[e1] at this;exact V4 _ this
   ·cases hm
  have hs:(intItems ts.toArray).size=is.length:=by unfold intItems;simp [hlen]
  rw[hs,mw _ is hat _ (υ _),List.take_length]
  exact⟨.int is.sum,H,I.kept hold,⟨t',rfl⟩,q⟩
end L2
namespace DL
open PyProof.Rows L2
section
noncomputable def n0:List D->Option D
 | [.list ds]=>(jl ds).map λis=>.int is.sum
 | _=>none
theorem jB(hc:X.calm=true):eJ X (.builtin "sum") n0:=by
 refine⟨_,wZ hc,λO H ds d vs Q oo rs e k=>?_⟩
 unfold n0 at e
 split at e
 ·rename_i es
  cases he:jl es with
  | none=>rw[he] at e;cases e
  | some is =>
   rw[he] at e
   cases e
   obtain⟨v,rfl,r⟩:=fK rs
   obtain⟨p,xs,rfl,h1,rx⟩:=r.lst_inv
   rw[oA he] at rx
   rw[pG rx] at h1
   exact⟨p,is,rfl,h1,k _ H (aG.refl H) (.int _)⟩
 ·cases e
noncomputable def k5:List D->Option D
 | [.list ds]=>some (.tuple ds)
 | _=>none
theorem sV:eJ X (.type "tuple") k5:=by
 refine⟨_,oZ,λO H ds d vs Q oo rs e k=>?_⟩
 unfold k5 at e
 split at e
 ·cases e
  obtain⟨v,rfl,r⟩:=fK rs
  obtain⟨p,xs,rfl,h1,rx⟩:=r.lst_inv
  exact⟨p,xs,rfl,.inl ⟨h1,λl hl=>k _ _ (ba hl) (gZ hl rx)⟩⟩
 ·cases e
end
end DL
namespace L2
open PyProof.Rows
theorem xJ:typeLookup (.type "list_reverseiterator") "__len__" = pure none:=by
 rw[typeLookup_type,builtinLookup_eq_fast]
 kernel_rfl
theorem rv_hint:typeLookup (.type "list_reverseiterator") "__length_hint__" = pure (some (.builtin "list_reverseiterator.__length_hint__")):=by
 rw[typeLookup_type,builtinLookup_eq_fast]
 kernel_rfl
section
variable{pr:Program}{wo:World}{Ar:Around}{Er:Value->Shared->Prop}{st:Shared}
abbrev oP(c:Nat):Obj:={ cls:=.type "list",data:=.seq #[] c }
abbrev RvP(xs:Array Value):Nat->Value->Prop:=λi v=>xs[xs.size-1-i]?=some v
theorem xt{R:Result->Shared->Prop}{T l:Addr}{xs:Array Value}{res:Value}{c0:Nat}{S:Addr}(hh:Ar.handled=none)(hit:st.heap.IsRevIter T l ((xs.size:Int)-1))(hl:st.heap.IsList l xs)
  (hne:l≠T) (hz:xs.size<=sizeLine) (hS:st.heap.get? S=some (oP c0)) (hST:S≠T) (hSl:S≠l)
  (k:∀h2 tk ys c,(∀b o,b≠S->b≠T->st.heap.get? b=some o->h2.get? b=some o)->h2.get? S=some { cls:=.type "list",dict:=none,data:=.seq ys c,slots:=#[] }->ItemsOf (RvP xs) ys xs.size ->
   R (.ok (.ret res)) { st with heap:=h2,toks:=tk }) :
  wpAny (model pr wo) Ar.in1 (Builtin.List.listExtendWith (.ref S) (.ref T) res) (λfin s'=>match fin with | .done f=>R (.ok f) s' | .again c'=>c'.quiet=true/\codeAny (model pr wo) Ar c' R s') (λe s'=>R (.error e) s') st:=by
 have W:=(Walks.listRev (prog:=pr) (w:=wo) (A:=Ar.in1) hh T l hne xs).toS
 have hT:st.TypeIs (.ref T) "list_reverseiterator" := hit.typeIs
 have hSf:S∉[T,l]:=λhm=>by
  rcases Γ.mp hm with q | hm
  ·exact hST q
  ·exact hSl (W9.mp hm)
 have hs0:((0:Nat)<=xs.size/\st.heap.IsRevIter T l ((xs.size:Int)-1-((0:Nat):Int))/\st.heap.IsList l xs):=⟨X8 _,by simpa using hit,hl⟩
 unfold Builtin.List.listExtendWith
 refine wpAny_bind (wpAny_typeOf hT ?_)
 have q1:Builtin.List.listSameRef (.ref S) (.ref T)=false:=by
  simp [Builtin.List.listSameRef,hST]
 rw[if_neg (by rw[q1];decide)]
 refine wpAny_bind (wpAny_pyIter_revIter hit ?_)
 refine wpAny_bind (wpAny_holding ?_)
 unfold Builtin.List.listLengthHint
 refine wpAny_bind (wpAny_specialOf hT xJ ?_)
 show wpAny _ _ (specialOf (Value.ref T) (Str.ofString "__length_hint__") >>= _) _ _ _
 refine wpAny_bind (wpAny_specialOf hT rv_hint ?_)
 generalize hid:("list_reverseiterator.__length_hint__" : String)=nm
 (fail_if_success (clear hid nm))
 wp_delta
 rw[show splitId nm=some ("list_reverseiterator", "__length_hint__") from by subst hid;decide +kernel]
 subst hid
 refine wpAny_bind (wpAny_isInstance (b:=true) hT (by rw[isSubtype_type];kernel_rfl) ?_)
 refine wpAny_pure ?_
 rw[if_neg (by decide)]
 refine wpAny_pure ⟨plainId_quiet F.plain_extend_loop _,?_⟩
 refine codeAny_extend_loopS W hz S hSf res xs.size 0 _ #[] c0 rfl (X8 _) hs0 hS (ItemsOf.nil _) λs2 ys c mv h2 hy=>?_
 rw[Moved.eq_with mv]
 refine k s2.heap s2.toks ys c (λb o b1 b2 e=>mv.heap b o (λhm=>?_) e) h2 hy
 rcases Γ.mp hm with q | hm
 ·exact b1 q
 ·exact b2 (W9.mp hm)
theorem o0{Q:Value->Shared->Prop}{T l:Addr}{xs:Array Value}(hh:Ar.handled=none)(hit:st.heap.IsRevIter T l ((xs.size:Int)-1))(hl:st.heap.IsList l xs)(hne:l≠T)(hz:xs.size<=sizeLine)
  (k:∀h2 tk ys c,(∀b o,b≠T->st.heap.get? b=some o->h2.get? b=some o)->h2.get? st.heap.objs.size=some { cls:=.type "list",dict:=none,data:=.seq ys c,slots:=#[] }->ItemsOf (RvP xs) ys xs.size ->
   Q (.ref st.heap.objs.size) { st with heap:=h2,toks:=tk }) :
  wpAny (model pr wo) Ar (call (.type "list") [.ref T]) Q Er st:=by
 have hTl:T<st.heap.objs.size:=let ⟨_,ho,_⟩:=hit;Heap.lt_size ho
 have hll:l<st.heap.objs.size:=let ⟨_,ho,_⟩:=hl;Heap.lt_size ho
 refine callType_codes (Q₁:=λob s1=>ob=.ref st.heap.objs.size/\s1={ st with heap:=st.heap.push (oP 0) }) F.called_list (F.typeCall_list_1 _) F.entry_list_init (code_list_new _ ⟨rfl,rfl⟩) ?_
 rintro ob s1 ⟨rfl,rfl⟩
 have hS:(st.heap.push (oP 0)).get? st.heap.objs.size=some (oP 0):=Heap.get?_push_size _ rfl
 refine⟨⟨_,hS,rfl⟩,F.args_list_init_2 _ _,?_⟩
 show wpAny _ _ (Builtin.List.listItems (.ref st.heap.objs.size) >>= λold=>Builtin.List.listUpdate (.ref st.heap.objs.size) (λ_=>#[]) >>= λ_=>letGo old.toList.reverse >>= λ_=>Builtin.List.listExtendWith (.ref st.heap.objs.size) (.ref T) .none) _ _ _
 refine wpAny_bind ?_
 unfold Builtin.List.listItems
 refine wpAny_bind (wpAny_seqItems hS rfl (wpAny_pure ?_))
 refine wpAny_bind (m:=updateSeq st.heap.objs.size (λ_=>#[])) (wpAny_updateSeq hS rfl ?_)
 have hS2:=Heap.get?_update_self (Obj.mapSeq (λ_=>(#[]:Array Value))) hS rfl
 have keep:∀b o,b≠st.heap.objs.size->st.heap.get? b=some o->((st.heap.push (oP 0)).update st.heap.objs.size (Obj.mapSeq (λ_=>(#[]:Array Value)))).get? b=some o:=λb o hb e =>
  (Heap.get?_update_other _ _ (Ne.symm hb)).trans (Heap.get?_push_of_some _ e)
 refine wpAny_bind (wpAny_letGo ?_)
 refine xt (Ar:=Ar.in1) (xs:=xs) (l:=l) hh (let ⟨o,ho,q⟩:=hit;⟨o,keep _ _ (Z8 hTl) ho,q⟩) (let ⟨o,ho,q⟩:=hl;⟨o,keep _ _ (Z8 hll) ho,q⟩) hne hz hS2 (Nat.ne_of_gt hTl) (Nat.ne_of_gt hll) ?_
 intro h2 tk ys c kp e2 hy
 exact⟨rfl,k h2 tk ys c (λb o b2 e=>kp b o (Z8 (Heap.lt_size e)) b2 (keep b o (Z8 (Heap.lt_size e)) e)) e2 hy⟩
end
section
variable{X:Cx}{x y:Str}{p p' pos pos':Pos}{e:Expr}{t:TA}{id T U:String}{r:List V->Hp->VK->Prop}
def rJ(X:Cx)(g f:Value)(r:List V->Hp->VK->Prop):Prop :=
 ∀(pins:List (Addr×Obj)) (s:Shared) (σ:St) (H:Hp) (xs:List V) (us:List Value) (Q:VK),Inv X pins σ H s->aS xs us->r xs H Q ->
  wpAny (model X.prog X.w) X.A (call f us) (λv s1=>wpAny (model X.prog X.w) X.A (call g [v]) (EP X pins σ Q) X.xe s1) X.xe s
theorem sh(hc:rJ X (.type U) (.type T) r)(hg:Gl X x)(hm:X.mg x=none)(hv:bootBuiltins x=some (.type U))(hg2:Gl X y)(hm2:X.mg y=none)(hv2:bootBuiltins y=some (.type T))(ha:PA X [e] t)
  (hn:x ≠ "__name__") (hdb:(x==("__debug__" : Str))=false) (hn2:y ≠ "__name__") (hdb2:(y==("__debug__" : Str))=false) (he:starEach [e] X.env=(false,eval e X.env)::starEach [] X.env) :
  PE X (.Call (.Name x p) [.Call (.Name y p') [e] [] pos'] [] pos) (tCB r t):=by
 intro pins s σ H Q I h
 refine wpAny_Call_Name_kw (jk I hg hm hv ?_ hn hdb)
 refine PyProof.Rows.callWith_type1 ?_ rfl rfl
 show wpAny _ _ (spliced ((false,eval (.Call (.Name y p') [e] [] pos') X.env)::backTo pos (starEach [] X.env))) _ _ s
 refine Calls.spliced_cons (wpAny_Call_Name_kw (jk I hg2 hm2 hv2 ?_ hn2 hdb2))
 exact PyProof.Rows.callWith_type1 (thn (ha pos' pins s σ H _ I h) λus s1 ⟨vs,H1,I1,r1,q1⟩=>thn (hc pins s1 σ H1 vs us Q I1 r1 q1) λv s2 h2=>Calls.spliced_nil h2) he rfl
theorem rc(hc:X.calm=true):rJ X (.type "list") (.type "reversed") (λxs H Q=>∃(p:Addr) (ys:List V),xs=[.ref p]/\SqL X.K H p ys/\∀l,H l=none->Q (.ref l) (upd H l (.lst ys.reverse))):=by
 intro pins s σ H xs us Q I r h
 obtain⟨l,ys,rfl,hq,q⟩:=h
 obtain⟨u,rfl,rx⟩:=kO r
 cases rx
 obtain⟨its,rv,pl,hz⟩:=I.list hq
 have hlen:=rv.length
 have hll:l<s.heap.objs.size:=let ⟨_,ho,_⟩:=pl.isList;Heap.lt_size ho
 refine call_reversed_list pl.isList ?_
 refine o0 (l:=l) (xs:=its.toArray) (I.ok.hd hc) ⟨_,Heap.get?_push_size _ rfl,rfl,rfl⟩ (pl.isList.push _) (Z8 hll) (by simp only[Ξ];omega) λh2 tk acc c kp e2 hy=>?_
 have kp2:∀b o,s.heap.get? b=some o->h2.get? b=some o:=λb o e=>kp b o (Z8 (Heap.lt_size e)) (Heap.get?_push_of_some _ e)
 have ea:acc=its.reverse.toArray:=by
  apply Array.ext
  ·rw[hy.1];simp
  ·intro i h1 h3
   have:=hy.2 i acc[i] (Array.getElem?_eq_getElem h1)
   simp only[RvP,Ξ,List.getElem?_toArray] at this
   have hi:i<its.length:=by simpa using h3
   rw[ψ (by omega)] at this
   simp only[List.getElem_toArray,List.getElem_reverse]
   exact(Option.some.inj this).symm
 refine⟨.ref (s.heap.push (revObj l ((its.toArray.size:Int)-1))).objs.size,_,I.laid (t':=tk) kp2 (by rw[Heap.size_push];exact Nat.le_succ _) (show fM X.prog X.w _ h2 _ (.lst ys.reverse) from⟨by rw[List.length_reverse];exact hz,its.reverse,c,rv.reverse,by rw[ea] at e2;exact e2⟩),rfl,q _ (I.hok.fresh (by rw[Heap.size_push];exact Nat.le_succ _))⟩
end
end L2
namespace DL
open PyProof.Rows L2
section
def DCall2(X:Cx)(g f:Value)(h:List D->Option D):Prop :=
 ∃r,rJ X g f r/\∀(O:List Addr) (H:Hp) (ds:List D) (d:D) (vs:List V) (Q:VK),(∀l∈O,Mu H l)->Reps X.K O H vs ds->h ds=some d->(∀v' H',aG H H'->Rep X.K O H' v' d->Q v' H')->r vs H Q
theorem pd_twoTy(hc:DCall2 X (.type U) (.type T) h)(hg:Gl X x)(hm:X.mg x=none)(hv:bootBuiltins x=some (.type U))(hg2:Gl X y)(hm2:X.mg y=none)(hv2:bootBuiltins y=some (.type T))(ha:PDA X G [e] fa)
  (hn:x ≠ "__name__" := by decide) (hdb:(x==("__debug__" : Str))=false:=by decide) (hn2:y ≠ "__name__" := by decide) (hdb2:(y==("__debug__" : Str))=false:=by decide) (he:starEach [e] X.env=(false,eval e X.env)::starEach [] X.env:=by rfl) :
  PD X G (.Call (.Name x p) [.Call (.Name y p') [e] [] pos'] [] pos) (dCB h fa):=by
 obtain⟨r,hr,hc⟩:=hc
 obtain⟨_,t,pa,ha⟩:=ha
 refine⟨_,sh hr hg hm hv hg2 hm2 hv2 pa hn hdb hn2 hdb2 he,λδ O σ H Q E k=>?_⟩
 refine ha δ O σ H _ E (ah (aq k) λds z vs H1 s1 rs=>?_)
 obtain⟨d,hd,z⟩:=cy z
 exact hc O H1 ds d vs Q (E.same s1).oo rs hd λv' H2 s2 r2=>z v' H2 (s1.trans s2) r2
noncomputable def og:List D->Option D
 | [.list ds]=>some (.list ds.reverse)
 | _=>none
theorem r6{K:ζ}{O:List Addr}{H:Hp}:∀{vs:List V} {ds:List D},Reps K O H vs ds->Reps K O H vs.reverse ds.reverse
 | _,_,.nil=>.nil
 | _,_,.cons r t=>by
  rw[T4,T4]
  exact(r6 t).append (.cons r .nil)
theorem qX(hc:X.calm=true):DCall2 X (.type "list") (.type "reversed") og:=by
 refine⟨_,rc hc,λO H ds d vs Q oo rs e k=>?_⟩
 unfold og at e
 split at e
 ·cases e
  obtain⟨v,rfl,r⟩:=fK rs
  obtain⟨p,xs,rfl,h1,rx⟩:=r.lst_inv
  exact⟨p,xs,rfl,h1,λl hl=>k _ _ (ba hl) (g9 oo hl (r6 rx))⟩
 ·cases e
end
end DL
namespace L2
open PyProof.Rows
section
variable[DecidableEq κ]
end
section
end
section
end
section
end
section
end
section
end
section
end
section
end
section
end
section
end
end L2
namespace DL
open PyProof.Rows L2
section
end
section
end
section
end
section
end
end DL
namespace DL
open PyProof.Rows L2
section
end
section
end
section
end
end DL
namespace L2
open PyProof.Rows
section
theorem xa:fN X (.builtin "abs") (λxs H Q=>∃i:Int,xs=[.int i]/\Q (.int (if i<0 then -i else i)) H):=by
 intro pins s σ H xs us Q I r h
 obtain⟨i,rfl,q⟩:=h
 obtain⟨u,rfl,t,rfl⟩:=kO r
 exact call_abs_int λu tk=>⟨.int _,H,I.tok tk,⟨u,rfl⟩,q⟩
end
section
end
end L2
namespace DL
open PyProof.Rows L2
section
noncomputable def t7:List D->Option D
 | [.int i]=>some (.int (if i<0 then -i else i))
 | _=>none
theorem wV:eJ X (.builtin "abs") t7:=by
 refine⟨_,xa,λO H ds d vs Q oo rs e k=>?_⟩
 unfold t7 at e
 split at e
 ·cases e
  obtain⟨v,rfl,r⟩:=fK rs
  exact⟨_,by rw[r.int_inv],k _ H (aG.refl H) (.int _)⟩
 ·cases e
end
end DL
namespace DL
open PyProof.Rows L2
section
end
section
end
end DL
namespace DL
open PyProof.Rows L2
variable{X:Cx}{G:XD->Hp->Prop}{e o:Expr}{es:List Expr}{f g:DS->M D}{fa:DS->M (List D)}{pos apos:Pos}
noncomputable def kW(nm:Str):D->Option (List (D))
 | .dict [(.none,.tuple (.str x::r))]=>if x=nm then some r else none
 | _=>none
noncomputable def vD(f:Str):List D->Option D
 | []=>none
 | .tuple [.str g,d]::r=>if g=f then some d else vD f r
 | _::_=>none
noncomputable def aY(nm f:Str)(x:D):Option D:=match kW nm x with
 | some r=>vD f r
 | none=>none
structure ClsN(X:Cx)(nm:Str)(C:Addr):Prop where
 at_:Z0 X.K mainGlobals nm=some (some (.ref C))
 cls:Cls X.K C
theorem kL{K:ζ}{O:List Addr}{H:Hp}{v:V}{nm:Str}{x:D}{r:List D}(rx:Rep K O H v x)(h:kW nm x=some r):∃(a C dx:Addr) (fs:List (Str×V)) (es:List (Str×D)),v=.ref a/\r=es.map (λe=>U2 [.str e.1,e.2])/\Z0 K mainGlobals nm=some (some (.ref C))/\H a=some (.ins C dx fs)/\a∉O/\fs.map (·.1)=es.map (·.1)/\Reps K O H (fs.map (·.2)) (es.map (·.2)):=by
 cases rx with
 | dct h1 n hk rr =>
  rename_i a kvs es
  cases es with
  | nil=>cases h
  | cons e es =>
   obtain⟨k,y⟩:=e
   cases es with
   | nil=>cases k<;>cases h
   | cons e2 es =>
    cases k<;>cases h
 | ins hN h1 n hk rr =>
  rename_i a C dx nm2 fs es
  have h':(if nm2=nm then some (es.map λe=>U2 [.str e.1,e.2]) else none)=some r:=h
  by_cases c:nm2=nm
  ·rw[if_pos c] at h'
   exact⟨_,_,_,_,_,rfl,(Option.some.inj h').symm,c▸hN,h1,n,hk,rr⟩
  ·rw[if_neg c] at h';cases h'
 | _=>cases h
theorem vC{K:ζ}{O:List Addr}{H:Hp}{f:Str}{d:D}:∀{fs:List (Str×V)} {es:List (Str×D)},fs.map (·.1)=es.map (·.1)->Reps K O H (fs.map (·.2)) (es.map (·.2))->vD f (es.map λe=>U2 [.str e.1,e.2])=some d->∃v,fs.lookup f=some v/\Rep K O H v d
 | [],[],_,_,h=>by cases h
 | [],_::_,hk,_,_=>by cases hk
 | _::_,[],hk,_,_=>by cases hk
 | (g,v)::fs,(g2,y)::es,hk,r,h=>by
  simp only[Θ,List.cons.injEq] at hk
  obtain⟨rfl,hk⟩:=hk
  rw[Θ,Θ] at r
  cases r with
  | cons r1 rs =>
   have h:(if g=f then some y else vD f (es.map λe=>U2 [.str e.1,e.2]))=some d:=h
   by_cases c:g=f
   ·rw[if_pos c] at h
    cases h
    subst c
    exact⟨v,by simp [V0],r1⟩
   ·rw[if_neg c] at h
    obtain⟨w,h1,h2⟩:=vC hk rs h
    refine⟨w,?_,h2⟩
    have hb:(f==g)=false:=beq_eq_false_iff_ne.mpr (Ne.symm c)
    simp only[V0,hb]
    exact h1
theorem pd_fld{nm fl:Str}{C:Addr}(c:ClsN X nm C)(n:jG X.K C fl)(ho:PD X G o f)(hb:attributeBase o fl X.env (eval o X.env)=eval o X.env:=by rfl):PD X G (.Attribute o fl pos) (d1 (aY nm fl) f):=by
 obtain⟨t,p,h⟩:=ho
 refine⟨_,xY p hb,λδ O σ H Q E k=>?_⟩
 refine h δ O σ H _ E (ah (aq k) λx z v H1 s1 rx=>?_)
 obtain⟨d,hd,z⟩:=cy z
 unfold aY at hd
 cases ha:kW nm x with
 | none=>rw[ha] at hd;cases hd
 | some r =>
  rw[ha] at hd
  obtain⟨a,C',dx,fs,es,rfl,rfl,hN,h1,hn,hk,rr⟩:=kL rx ha
  have:C'=C:=by
   have:=hN.symm.trans c.at_
   simp at this
   exact this
  subst this
  obtain⟨w,l1,l2⟩:=vC hk rr hd
  exact⟨a,C',dx,fs,w,rfl,h1,c.cls,n,l1,z w H1 s1 l2⟩
structure DefM(P:Program)(w:World)(K:ζ)(mg:Str->Option Value)(base:Heap)(k:Nat)(nm m:Str)(n:Nat)(F:List D->M D):Prop where
 ex:∃(C f:Addr) (fd:FuncData) (ps:List Str),Z0 K mainGlobals nm=some (some (.ref C))/\Cls K C/\Meth K C m f/\FnOk P w K mg base CX0 k f fd ps (spD K n F)/\gr K fd ps []
noncomputable def iZ(m:Str)(r:List D):Bool:=r.all λd=>match d with
 | .tuple [.str g,_]=>decide (g≠m)
 | _=>false
noncomputable def dMe(nm m:Str)(F:List D->M D)(fo:DS->M D)(fa:DS->M (List D)):DS->M D:=λδ=>(fo δ).thn λx=>match kW nm x with
 | some r=>if iZ m r=true then (fa δ).thn λds=>F (x::ds) else none
 | none=>none
theorem jj:∀{fs:List (Str×V)} {es:List (Str×D)},fs.map (·.1)=es.map (·.1)->iZ m (es.map λe=>U2 [.str e.1,e.2])=true->fs.lookup m=none
 | [],_,_,_=>rfl
 | _::_,[],hk,_=>by cases hk
 | (g,v)::fs,(g2,y)::es,hk,h=>by
  simp only[Θ,List.cons.injEq] at hk
  obtain⟨rfl,hk⟩:=hk
  unfold iZ at h
  rw[Θ,U9,Z5] at h
  have c:g≠m:=of_decide_eq_true h.1
  have hb:(m==g)=false:=beq_eq_false_iff_ne.mpr (Ne.symm c)
  simp only[V0,hb]
  exact jj hk h.2
theorem pd_methI{pl:Sem Bool}{k n:Nat}{nm m:Str}{F:List D->M D}(h:DefM X.prog X.w X.K X.mg X.base k nm m n F)(hr:Room k X.A)(hn:(e::es).length+1=n)(ho:PD X G o f)(ha:PDA X G (e::es) fa)
  (hst:starEach (e::es) X.env=(false,eval e X.env)::starEach es X.env:=by rfl) (hpl:(backTo pos (starEach es X.env)).any (·.1)=false:=by rfl)
  (ht:eval (.Call (.Attribute o m apos) (e::es) [] pos) X.env=(do
   let ov <- eval o X.env
   standAt apos.atName
   let (f,first) <- holding [ov] (getMethod ov m pl)
   callWith pos f first (backTo pos (starEach (e::es) X.env)) (backToKw pos (keywordEach [] X.env))):=by rfl) :
  PD X G (.Call (.Attribute o m apos) (e::es) [] pos) (dMe nm m (λds=>noX (F ds)) f fa):=by
 obtain⟨C,f0,fd,ps,hN,c,hm,F1,hb⟩:=h.ex
 obtain⟨t,p,ho⟩:=ho
 obtain⟨hl,ta,pa,ha⟩:=ha
 refine⟨_,qz (pl:=pl) p c hm F1 hr hb .nil mx pa hst hpl ht,λδ O σ H Q E k=>?_⟩
 refine ho δ O σ H _ E (ah (aq k) λx z v H1 s1 rx=>?_)
 cases hat:kW nm x with
 | none=>rw[hat] at z;exact z.elim
 | some r =>
  rw[hat] at z
  have z1:ok _ (if iZ m r=true then (fa δ).thn λds=>noX (F (x::ds)) else none) _:=z
  clear z
  by_cases hf:iZ m r=true
  ·rw[if_pos hf] at z1
   obtain⟨a,C',dx,fs,es',rfl,rfl,hN',h1,hn1,hk,rr⟩:=kL rx hat
   have hC:C'=C:=by
    have:=hN'.symm.trans hN
    simp at this
    exact this
   subst hC
   refine⟨a,dx,fs,rfl,h1,jj hk hf,?_⟩
   have k1:=aq z1
   refine ha δ O σ H1 _ (E.same s1) ?_
   cases e1:fa δ with
   | none=>rw[e1] at k1;exact k1.elim
   | some q =>
    rw[e1] at k1
    cases q with
    | error y=>exact k1
    | ok ds =>
     refine λvs H2 s2 rs=>?_
     refine⟨O,x::ds,?_,((E.same s1).same s2).oo,?_,ah (nW k1) λd z v H3 s3 r=>z v H3 (s1.trans (s2.trans s3)) r⟩
     ·show(vs++[]).length+1=n
      rw[Z4,rs.length,hl δ ds e1]
      exact hn
     ·rw[Z4]
      exact .cons (rx.same s2) rs
  ·rw[if_neg hf] at z1;exact z1.elim
theorem ev_me{nm m:Str}{F:List D->M D}{δ:DS}{x d:D}{r ds:List D}(h1:f δ=M.ret x)(h2:kW nm x=some r)(h3:iZ m r=true)(h4:fa δ=M.ret ds)(h5:F (x::ds)=M.ret d):dMe nm m (λds=>noX (F ds)) f fa δ=M.ret d:=by
 unfold dMe
 rw[h1,aD,h2]
 show(if iZ m r=true then (fa δ).thn λds=>noX (F (x::ds)) else none)=_
 rw[if_pos h3,h4,aD,h5]
 rfl
end DL
namespace OI
open PyProof.Rows
end OI
namespace DL
open PyProof.Rows L2
section
end
section
end
end DL
namespace L2
open PyProof.Rows
section
open AutoSeq1 (wpAny_loadPart')
end
section
end
end L2
namespace L2
open PyProof.Rows
section
end
section
end
section
end
end L2
namespace L2
open PyProof.Rows
section
end
end L2
namespace DL
open PyProof.Rows L2
section
noncomputable def truD:D->Option Bool
 | .bool b=>some b
 | .str z=>if aL z.length then some ((z.length:Int) != 0) else none
 | .list xs=>some (!xs.isEmpty)
 | _=>none
noncomputable def dTr(f:DS->M D):DS->M Bool:=λδ=>(f δ).thn λd=>M.lift (truD d)
theorem pdt_tr(he:PD X G e f)(h1:∀whole,isTrue e X.env whole=(do let v <- whole;standAt e.pos;holding [v] (truthy v)):=by intro _;rfl):PDT X G e (dTr f):=by
 obtain⟨t,p,he⟩:=he
 refine⟨_,xP p h1,λδ O σ H Q E k=>?_⟩
 refine he δ O σ H _ E (ah (aq k) λd z v H' s r=>?_)
 obtain⟨b,hb,z⟩:=cy z
 refine⟨b,?_,z H' s⟩
 unfold truD at hb
 split at hb
 ·cases hb
  rw[r.bool_inv]
  rfl
 ·rename_i y
  split at hb
  ·rename_i hs
   cases hb
   rw[r.str_inv]
   exact⟨bz hs,rfl⟩
  ·cases hb
 ·rename_i xs
  cases hb
  obtain⟨l,us,rfl,h2,rx⟩:=r.lst_inv
  refine .inl ⟨us,h2,?_⟩
  have:=rx.length
  cases us<;>cases xs<;>first | rfl | (simp at this)
 ·cases hb
end
end DL
namespace SL
open PyProof.Rows L2 DL
inductive Val where
 | d (x:D)
 | h (k:Nat)
 | t (xs:List Val)
inductive Ob where
 | lst (xs:List Val)
 | dct (es:List (Key×Val))
 | ins (c:Str) (fs:List (Str×Val))
 | gone
abbrev aw:=List (Option Val)
abbrev Sto:=List Ob
abbrev R(β:Type):=Option (Except (XD×Sto) β)
section
noncomputable def R.ret(b:β):R β:=some (.ok b)
noncomputable def R.thn(r:R β)(f:β->R γ):R γ:=match r with
 | none=>none
 | some (.ok a)=>f a
 | some (.error x)=>some (.error x)
def okR(G:XD->Sto->Prop)(r:R β)(k:β->Prop):Prop:=match r with
 | none=>False
 | some (.ok a)=>k a
 | some (.error x)=>G x.1 x.2
theorem au(h:okR G r k)(f:∀a,k a->k' a):okR G r k':=by
 match r,h with
 | some (.ok a),h=>exact f a h
 | some (.error x),h=>exact h
theorem bf(h:okR G r k)(f:∀x μ,G x μ->G' x μ):okR G' r k:=by
 match r,h with
 | some (.ok a),h=>exact h
 | some (.error x),h=>exact f _ _ h
theorem ar(h:okR G (r.thn f) k):okR G r (λa=>okR G (f a) k):=by
 match r,h with
 | some (.ok a),h=>exact h
 | some (.error x),h=>exact h
theorem aV(a:β)(f:β->R γ):(R.ret a).thn f=f a:=rfl
end
noncomputable def ofM(r:M β)(μ:Sto):R β:=match r with
 | none=>none
 | some (.ok a)=>some (.ok a)
 | some (.error x)=>some (.error (x,μ))
mutual
inductive VR(K:ζ)(O:List Addr)(α:List (Option Addr))(H:Hp):V->Val->Prop
 | d {v:V} {x:D} (r:Rep K O H v x):VR K O α H v (.d x)
 | h {k:Nat} {a:Addr} (e:α[k]?=some (some a)):VR K O α H (.ref a) (.h k)
 | t {a:Addr} {vs:List V} {xs:List Val} (s:SqT K H a vs) (rs:VRs K O α H vs xs):VR K O α H (.ref a) (.t xs)
inductive VRs(K:ζ)(O:List Addr)(α:List (Option Addr))(H:Hp):List V->List Val->Prop
 | nil:VRs K O α H [] []
 | cons {v:V} {x:Val} {vs:List V} {xs:List Val} (r:VR K O α H v x) (rs:VRs K O α H vs xs):VRs K O α H (v::vs) (x::xs)
end
theorem VR.dinv{K:ζ}{O:List Addr}{α:List (Option Addr)}{H:Hp}{v:V}{x:D}(r:VR K O α H v (.d x)):Rep K O H v x:=by cases r;assumption
theorem VR.hinv{K:ζ}{O:List Addr}{α:List (Option Addr)}{H:Hp}{v:V}{k:Nat}(r:VR K O α H v (.h k)):∃a,α[k]?=some (some a)/\v=.ref a:=by
 cases r with
 | h e=>exact⟨_,e,rfl⟩
theorem VR.tinv{K:ζ}{O:List Addr}{α:List (Option Addr)}{H:Hp}{v:V}{xs:List Val}(r:VR K O α H v (.t xs)):∃a vs,v=.ref a/\SqT K H a vs/\VRs K O α H vs xs:=by
 cases r with
 | t s rs=>exact⟨_,_,rfl,s,rs⟩
def OR(K:ζ)(mg:Str->Option Value)(R0 O:List Addr)(α:List (Option Addr))(H:Hp)(a:Addr):Ob->Prop
 | .lst xs=>a∈O/\a∉R0/\∃vs,H a=some (.lst vs)/\VRs K O α H vs xs
 | .dct es=>a∈O/\a∉R0/\∃kvs,H a=some (.dK kvs)/\kvs.map (·.1)=es.map (·.1)/\VRs K O α H (kvs.map (·.2)) (es.map (·.2))
 | .ins c fs=>a∈O/\a∉R0/\∃C dx vfs,Z0 K mainGlobals c=some (some (.ref C))/\H a=some (.ins C dx vfs)/\vfs.map (·.1)=fs.map (·.1)/\VRs K O α H (vfs.map (·.2)) (fs.map (·.2))
 | .gone=>False
structure SR(K:ζ)(mg:Str->Option Value)(R0 O:List Addr)(α:List (Option Addr))(H:Hp)(μ:Sto):Prop where
 len:α.length=μ.length
 nd:∀(i j:Nat) (a:Addr),α[i]?=some (some a)->α[j]?=some (some a)->i=j
 oo:∀l∈O,Mu H l
 sub:∀l∈R0,l∈O
 at_:∀(k:Nat) (a:Addr),α[k]?=some (some a)->∃ob,μ[k]?=some ob/\OR K mg R0 O α H a ob
structure Go(O0:List Addr)(α0:List (Option Addr))(H0:Hp)(O:List Addr)(α:List (Option Addr))(H:Hp):Prop where
 keep:∀b o,(∀k:Nat,α0[k]? ≠ some (some b))->H0 b=some o->H b=some o
 ex:∀(k:Nat) (a:Addr),α0[k]?=some (some a)->α[k]?=some (some a)
 len:α0.length<=α.length
 new:∀(k:Nat) (b:Addr),α[k]?=some (some b)->(α0[k]?=some (some b))\/H0 b=none
 ol:∀l∈O,l∈O0\/H0 l=none
 live:∀b,H b=none->H0 b=none
section
variable{K:ζ}{mg:Str->Option Value}{R0 O O' O1:List Addr}{α α' α1:List (Option Addr)}{H H' H1:Hp}{μ μ':Sto}
theorem Go.refl:Go O α H O α H:=⟨λ_ _ _ h=>h,λ_ _ h=>h,υ _,λ_ _ h=>.inl h,λ_ h=>.inl h,λ_ h=>h⟩
theorem pM(s:aG H H')(h:H' b=none):H b=none:=by
 cases q:H b with
 | none=>rfl
 | some o=>rw[s b o q] at h;cases h
theorem Go.same(s:aG H H'):Go O α H O α H':=⟨λb o _ h=>s b o h,λ_ _ h=>h,υ _,λ_ _ h=>.inl h,λ_ h=>.inl h,λ_ h=>pM s h⟩
theorem SR.tracked(S:SR K mg R0 O α H μ){k:Nat}{a:Addr}(h:α[k]?=some (some a)):∃o,H a=some o/\(∀xs,o≠.tup xs)/\(∀u xs,o≠.frz u (.tup xs))/\(∀u xs,o≠.frz u (.lst xs))/\(∀u xs,o≠.frz u (.dK xs))/\(((∃xs,o=.lst xs)\/(∃xs,o=.dK xs)\/∃C dx fs,o=.ins C dx fs)->a∈O):=by
 obtain⟨ob,_,h⟩:=S.at_ k a h
 cases ob with
 | lst xs =>
  obtain⟨h1,_,vs,h2,_⟩:=h
  exact⟨_,h2,(λ_ z=>nomatch z),(λ_ _ z=>nomatch z),(λ_ _ z=>nomatch z),(λ_ _ z=>nomatch z),λ_=>h1⟩
 | dct es =>
  obtain⟨h1,_,vs,h2,_⟩:=h
  exact⟨_,h2,(λ_ z=>nomatch z),(λ_ _ z=>nomatch z),(λ_ _ z=>nomatch z),(λ_ _ z=>nomatch z),λ_=>h1⟩
 | ins c fs =>
  obtain⟨h1,_,C,dx,vfs,_,h2,_⟩:=h
  exact⟨_,h2,(λ_ z=>nomatch z),(λ_ _ z=>nomatch z),(λ_ _ z=>nomatch z),(λ_ _ z=>nomatch z),λ_=>h1⟩
 | gone=>exact h.elim
theorem Go.to(S:SR K mg R0 O α H μ)(T:Go O α H O' α' H'):To O O' H H':=by
 have tr:∀{b:Addr} {u:HO},(Rd H b u)->((∃xs,u=.tup xs)\/(((∃xs,u=.lst xs)\/(∃xs,u=.dK xs))/\b∉O))->∀k:Nat,α[k]? ≠ some (some b):=λ{b u} h hu k e=>by
  obtain⟨o,h1,h2,h3,h4,h5,h6⟩:=S.tracked e
  rcases h with h | ⟨w,h⟩
  ·rw[h1] at h
   cases h
   rcases hu with ⟨xs,rfl⟩ | ⟨hu,n⟩
   ·exact h2 xs rfl
   ·exact n (h6 (hu.elim .inl λz=>.inr (.inl z)))
  ·rw[h1] at h
   cases h
   rcases hu with ⟨xs,rfl⟩ | ⟨⟨xs,rfl⟩ | ⟨xs,rfl⟩,n⟩
   ·exact h3 w xs rfl
   ·exact h4 w xs rfl
   ·exact h5 w xs rfl
 have mv:∀{b:Addr} {u:HO},Rd H b u->(∀k:Nat,α[k]? ≠ some (some b))->Rd H' b u:=λ{b u} h n=>by
  rcases h with h | ⟨w,h⟩
  ·exact .inl (T.keep _ _ n h)
  ·exact .inr ⟨w,T.keep _ _ n h⟩
 have no:∀{b:Addr} {u:HO},Rd H b u->b∉O->b∉O':=λ{b u} h n z=>by
  rcases T.ol b z with z | z
  ·exact n z
  ·rcases h with h | ⟨w,h⟩<;>(rw[z] at h;cases h)
 refine⟨λb xs h=>mv h (tr h (.inl ⟨xs,rfl⟩)),λb xs n h=>⟨no h n,mv h (tr h (.inr ⟨.inl ⟨xs,rfl⟩,n⟩))⟩,λb xs n h=>⟨no h n,mv h (tr h (.inr ⟨.inr ⟨xs,rfl⟩,n⟩))⟩,λb C dx fs n h=>⟨no (.inl h) n,T.keep _ _ (λk e=>?_) h⟩⟩
 obtain⟨o,h1,_,_,_,_,h6⟩:=S.tracked e
 rw[h] at h1
 cases h1
 exact n (h6 (.inr (.inr ⟨_,_,_,rfl⟩)))
theorem Go.trans(T:Go O α H O1 α1 H1)(U:Go O1 α1 H1 O' α' H'):Go O α H O' α' H':=by
 refine⟨λb o n h=>U.keep b o (λk e=>?_) (T.keep b o n h),λk a h=>U.ex k a (T.ex k a h),W1 T.len U.len,λk b h=>?_,λl hl=>?_,λb h=>T.live b (U.live b h)⟩
 ·rcases T.new k b e with z | z
  ·exact n k z
  ·rw[z] at h;cases h
 ·rcases U.new k b h with z | z
  ·exact T.new k b z
  ·exact .inr (T.live b z)
 ·rcases U.ol l hl with z | z
  ·exact T.ol l z
  ·exact .inr (T.live l z)
mutual
theorem VR.to(T:To O O' H H')(e:∀(k:Nat) (a:Addr),α[k]?=some (some a)->α'[k]?=some (some a)):∀{v:V} {x:Val},VR K O α H v x->VR K O' α' H' v x
 | _,_,.d r=>.d (Rep.to T r)
 | _,_,.h h=>.h (e _ _ h)
 | _,_,.t s rs=>.t (T.sqT s) (VRs.to T e rs)
theorem VRs.to(T:To O O' H H')(e:∀(k:Nat) (a:Addr),α[k]?=some (some a)->α'[k]?=some (some a)):∀{vs:List V} {xs:List Val},VRs K O α H vs xs->VRs K O' α' H' vs xs
 | _,_,.nil=>.nil
 | _,_,.cons r rs=>.cons (VR.to T e r) (VRs.to T e rs)
end
theorem VRs.length:∀{vs:List V} {xs:List Val},VRs K O α H vs xs->vs.length=xs.length
 | _,_,.nil=>rfl
 | _,_,.cons _ rs=>congrArg (· + 1) (VRs.length rs)
theorem VRs.get:∀{vs:List V} {xs:List Val} {i:Nat} {x:Val},VRs K O α H vs xs->xs[i]?=some x->∃v,vs[i]?=some v/\VR K O α H v x
 | _,_,_,_,.nil,e=>by simp at e
 | _,_,0,_,.cons r _,e=>by simp at e;subst e;exact⟨_,rfl,r⟩
 | _,_,i+1,x,.cons _ rs,e=>by
  obtain⟨u,h1,h2⟩:=VRs.get (i:=i) (x:=x) rs (by simpa using e)
  exact⟨u,by simpa using h1,h2⟩
theorem VRs.set{v:V}{x:Val}(r:VR K O α H v x):∀{vs:List V} {xs:List Val} (i:Nat),VRs K O α H vs xs->VRs K O α H (vs.set i v) (xs.set i x)
 | _,_,_,.nil=>.nil
 | _,_,0,.cons _ rs=>.cons r rs
 | _,_,i+1,.cons q rs=>.cons q (VRs.set r i rs)
theorem VRs.append:∀{vs us:List V} {xs ys:List Val},VRs K O α H vs xs->VRs K O α H us ys->VRs K O α H (vs++us) (xs++ys)
 | _,_,_,_,.nil,s=>s
 | _,_,_,_,.cons r t,s=>.cons r (VRs.append t s)
theorem VRs.data:∀{vs:List V} {ds:List D},Reps K O H vs ds->VRs K O α H vs (ds.map Val.d)
 | _,_,.nil=>.nil
 | _,_,.cons r rs=>.cons (.d r) (VRs.data rs)
theorem VRs.undata:∀{ds:List D} {vs:List V},VRs K O α H vs (ds.map Val.d)->Reps K O H vs ds
 | [],_,.nil=>.nil
 | _::_,_,.cons r rs=>.cons r.dinv (VRs.undata rs)
theorem OR.to(T:To O O' H H')(e:∀(k:Nat) (a:Addr),α[k]?=some (some a)->α'[k]?=some (some a)){a:Addr}{ob:Ob}(ho:a∈O->a∈O')(hh:H' a=H a)(r:OR K mg R0 O α H a ob):OR K mg R0 O' α' H' a ob:=by
 cases ob with
 | lst xs=>obtain⟨h1,h2,vs,h3,h4⟩:=r;exact⟨ho h1,h2,vs,by rw[hh];exact h3,h4.to T e⟩
 | dct es=>obtain⟨h1,h2,vs,h3,h4,h5⟩:=r;exact⟨ho h1,h2,vs,by rw[hh];exact h3,h4,h5.to T e⟩
 | ins c fs=>obtain⟨h0,hr,C,dx,vfs,h1,h3,h4,h5⟩:=r;exact⟨ho h0,hr,C,dx,vfs,h1,by rw[hh];exact h3,h4,h5.to T e⟩
 | gone=>exact r
theorem SR.same(s:aG H H')(S:SR K mg R0 O α H μ):SR K mg R0 O α H' μ:=by
 refine⟨S.len,S.nd,λl hl=>(S.oo l hl).same s,S.sub,λk a h=>?_⟩
 obtain⟨ob,h1,h2⟩:=S.at_ k a h
 obtain⟨o,h3,_⟩:=S.tracked h
 exact⟨ob,h1,h2.to (To.same s) (λ_ _ h=>h) (λh=>h) (by rw[h3];exact s a o h3)⟩
theorem SR.newL(S:SR K mg R0 O α H μ){l:Addr}{vs:List V}{xs:List Val}(hl:H l=none)(r:VRs K O α H vs xs):SR K mg R0 (l::O) (α++[some l]) (upd H l (.lst vs)) (μ++[.lst xs]):=by
 have T:To O (l::O) H (upd H l (.lst vs)):=To.own hl
 have e:∀(k:Nat) (a:Addr),α[k]?=some (some a)->(α++[some l])[k]?=some (some a):=λk a h=>by
  rw[ξ (ς.mp h).1];exact h
 have cs:∀(k:Nat) (a:Addr),(α++[some l])[k]?=some (some a)->α[k]?=some (some a)\/(k=α.length/\a=l):=λk a h=>by
  by_cases hk:k<α.length
  ·rw[ξ hk] at h;exact .inl h
  ·rw[χ (by omega)] at h
   have h0:k-α.length=0:=by
    have:=(ς.mp h).1
    simp at this
    omega
   rw[h0] at h
   simp at h
   exact .inr ⟨by omega,h.symm⟩
 have ne:∀(k:Nat) (a:Addr),α[k]?=some (some a)->a≠l:=λk a h z=>by
  obtain⟨o,h3,_⟩:=S.tracked h
  rw[z,hl] at h3;cases h3
 refine⟨by rw[η,η,S.len];rfl,λi j a h1 h2=>?_,λb hb=>?_,λb hb=>ι _ (S.sub b hb),λk a h=>?_⟩
 ·rcases cs i a h1 with h1 | ⟨h1,z⟩<;>rcases cs j a h2 with h2 | ⟨h2,z2⟩
  ·exact S.nd i j a h1 h2
  ·exact absurd z2 (ne i a h1)
  ·exact absurd z (ne j a h2)
  ·omega
 ·rcases Γ.mp hb with rfl | hb
  ·exact .inl ⟨vs,aK⟩
  ·exact(S.oo b hb).new hl
 ·rcases cs k a h with h | ⟨rfl,rfl⟩
  ·obtain⟨ob,h1,h2⟩:=S.at_ k a h
   exact⟨ob,by rw[ξ (ς.mp h1).1];exact h1,h2.to T e (λz=>ι _ z) (upd_ne (ne k a h))⟩
  ·refine⟨.lst xs,by rw[S.len,χ (υ _),X0];rfl,ο,λz=>?_,vs,aK,r.to T e⟩
   obtain⟨o,ho⟩:=(S.oo a (S.sub a z)).some
   rw[hl] at ho;cases ho
theorem Go.newL(hl:H l=none):Go O α H (l::O) (α++[some l]) (upd H l o):=by
 refine⟨λb u _ h=>by rw[upd_ne (aJ h hl)];exact h,λk a h=>by rw[ξ (ς.mp h).1];exact h,by rw[η];omega,λk b h=>?_,λb hb=>?_,λb h=>?_⟩
 ·by_cases hk:k<α.length
  ·rw[ξ hk] at h;exact .inl h
  ·rw[χ (by omega)] at h
   have h0:k-α.length=0:=by
    have:=(ς.mp h).1
    simp at this
    omega
   rw[h0] at h
   simp at h
   exact .inr (by rw[<-h];exact hl)
 ·rcases Γ.mp hb with rfl | hb
  ·exact .inr hl
  ·exact .inl hb
 ·by_cases e:b=l
  ·rw[e];exact hl
  ·rw[upd_ne e] at h;exact h
theorem SR.setL(S:SR K mg R0 O α H μ){k:Nat}{a:Addr}{xs:List Val}{vs':List V}{xs':List Val}(h:α[k]?=some (some a))(hk:μ[k]?=some (.lst xs))(r:VRs K O α H vs' xs'):SR K mg R0 O α (upd H a (.lst vs')) (μ.set k (.lst xs')):=by
 obtain⟨ob,h1,h2⟩:=S.at_ k a h
 rw[hk] at h1
 cases h1
 obtain⟨ho,hn,vs,hv,_⟩:=h2
 have T:To O O H (upd H a (.lst vs')):=To.set hv ho
 refine⟨by rw[Ω];exact S.len,S.nd,λl hl=>?_,S.sub,λj b hj=>?_⟩
 ·by_cases e:l=a
  ·subst e;exact .inl ⟨vs',aK⟩
  ·exact(S.oo l hl).upd_ne e
 ·by_cases e:j=k
  ·subst e
   rw[h] at hj
   cases hj
   exact⟨.lst xs',by rw[bB,if_pos rfl,if_pos (ς.mp hk).1],ho,hn,vs',aK,r.to T λ_ _ h=>h⟩
  ·obtain⟨ob,g1,g2⟩:=S.at_ j b hj
   have hb:b≠a:=λz=>e (S.nd j k a (z▸hj) h)
   exact⟨ob,by rw[bB,if_neg (λz=>e z.symm)];exact g1,g2.to T (λ_ _ h=>h) (λz=>z) (upd_ne hb)⟩
theorem Go.setL{k:Nat}{a:Addr}{o:HO}(h:α[k]?=some (some a)):Go O α H O α (upd H a o):=by
 refine⟨λb u n hb=>?_,λ_ _ h=>h,υ _,λ_ _ h=>.inl h,λ_ h=>.inl h,λb hb=>?_⟩
 ·rw[upd_ne (λz:b=a=>n k (by rw[z];exact h))];exact hb
 ·by_cases e:b=a
  ·subst e;rw[aK] at hb;cases hb
  ·rw[upd_ne e] at hb;exact hb
end
end SL
namespace SL
open PyProof.Rows L2 DL
structure An where
 R0:List Addr
 O:List Addr
 α:List (Option Addr)
 H:Hp
structure SEv(K:ζ)(mg:Str->Option Value)(A:An)(O:List Addr)(α:List (Option Addr))(H:Hp)(σ:L2.St)(δ:aw)(μ:Sto):Prop where
 sr:SR K mg A.R0 O α H μ
 st:Go A.O A.α A.H O α H
 len:σ.length=δ.length
 at_:∀(i:Nat) (x:Val),δ[i]?=some (some x)->∃v,σ[i]?=some (some v)/\VR K O α H v x
def Er(K:ζ)(mg:Str->Option Value)(G:XD->Hp->Prop)(R0 O:List Addr)(α:List (Option Addr))(H:Hp)(x:XD)(μ:Sto):Prop:=∀O' α' H',Go O α H O' α' H'->SR K mg R0 O' α' H' μ->G x H'
def SX(X:Cx)(G:XD->Hp->Prop)(e:Expr)(f:aw->Sto->R (Val×Sto)):Prop :=
 ∃t,PE X e t/\∀(A:An) (δ:aw) (μ:Sto) (O:List Addr) (α:List (Option Addr)) (σ:L2.St) (H:Hp) (Q:VK),SEv X.K X.mg A O α H σ δ μ->okR (Er X.K X.mg G A.R0 O α H) (f δ μ) (λr=>∀v O' α' H',Go O α H O' α' H'->SR X.K X.mg A.R0 O' α' H' r.2->VR X.K O' α' H' v r.1->Q v H')->t σ H Q
def SA(X:Cx)(G:XD->Hp->Prop)(es:List Expr)(f:aw->Sto->R (List Val×Sto)):Prop :=
 (∀δ μ r,f δ μ=some (.ok r)->r.1.length=es.length)/\∃t,PA X es t/\∀(A:An) (δ:aw) (μ:Sto) (O:List Addr) (α:List (Option Addr)) (σ:L2.St) (H:Hp) (Q:List V->Hp->Prop),SEv X.K X.mg A O α H σ δ μ->okR (Er X.K X.mg G A.R0 O α H) (f δ μ) (λr=>∀vs O' α' H',Go O α H O' α' H'->SR X.K X.mg A.R0 O' α' H' r.2->VRs X.K O' α' H' vs r.1->Q vs H')->t σ H Q
def ST(X:Cx)(G:XD->Hp->Prop)(e:Expr)(f:aw->Sto->R (Bool×Sto)):Prop :=
 ∃t,PT X e t/\∀(A:An) (δ:aw) (μ:Sto) (O:List Addr) (α:List (Option Addr)) (σ:L2.St) (H:Hp) (Q:Bool->Hp->Prop),SEv X.K X.mg A O α H σ δ μ->okR (Er X.K X.mg G A.R0 O α H) (f δ μ) (λr=>∀O' α' H',Go O α H O' α' H'->SR X.K X.mg A.R0 O' α' H' r.2->Q r.1 H')->t σ H Q
inductive OutS where
 | nx (δ:aw) (μ:Sto)
 | rt (v:Val) (μ:Sto)
 | bk (δ:aw) (μ:Sto)
 | ct (δ:aw) (μ:Sto)
def kM(K:ζ)(mg:Str->Option Value)(A:An)(O0:List Addr)(α0:List (Option Addr))(H0:Hp)(Dn:Ends):OutS->Prop
 | .nx δ μ=>∀O α σ H,SEv K mg A O α H σ δ μ->Go O0 α0 H0 O α H->Dn.nx σ H
 | .rt x μ=>∀v O α H,SR K mg A.R0 O α H μ->Go A.O A.α A.H O α H->VR K O α H v x->Dn.rt v H
 | .bk δ μ=>∀O α σ H,SEv K mg A O α H σ δ μ->Go O0 α0 H0 O α H->Dn.bk σ H
 | .ct δ μ=>∀O α σ H,SEv K mg A O α H σ δ μ->Go O0 α0 H0 O α H->Dn.ct σ H
theorem kM.go{K:ζ}{mg:Str->Option Value}{A:An}{O0 O1:List Addr}{α0 α1:List (Option Addr)}{H0 H1:Hp}{Dn:Ends}{o:OutS}(T:Go O0 α0 H0 O1 α1 H1)(h:kM K mg A O0 α0 H0 Dn o):kM K mg A O1 α1 H1 Dn o:=by
 cases o with
 | nx δ μ=>exact λO α σ H E U=>h O α σ H E (T.trans U)
 | rt x μ=>exact h
 | bk δ μ=>exact λO α σ H E U=>h O α σ H E (T.trans U)
 | ct δ μ=>exact λO α σ H E U=>h O α σ H E (T.trans U)
abbrev SG:=Nat->aw->Sto->R OutS
def SS(X:Cx)(G:XD->Hp->Prop)(st:Stmt)(g:SG):Prop :=
 ∃t,PS X st t/\∀(A:An) (δ:aw) (μ:Sto) (O:List Addr) (α:List (Option Addr)) (σ:L2.St) (H:Hp) (Dn:Ends),SEv X.K X.mg A O α H σ δ μ->okR (Er X.K X.mg G A.R0 A.O A.α A.H) (g A.α.length δ μ) (kM X.K X.mg A O α H Dn)->t Dn σ H
def SSs(X:Cx)(G:XD->Hp->Prop)(sts:List Stmt)(g:SG):Prop :=
 ∃t,PSs X sts t/\∀(A:An) (δ:aw) (μ:Sto) (O:List Addr) (α:List (Option Addr)) (σ:L2.St) (H:Hp) (Dn:Ends),SEv X.K X.mg A O α H σ δ μ->okR (Er X.K X.mg G A.R0 A.O A.α A.H) (g A.α.length δ μ) (kM X.K X.mg A O α H Dn)->t Dn σ H
section
variable{K:ζ}{mg:Str->Option Value}{A:An}{R0 O O' O1:List Addr}{α α' α1:List (Option Addr)}{H H' H1:Hp}{μ μ':Sto}{σ:L2.St}{δ:aw}{G:XD->Hp->Prop}
theorem SEv.go(E:SEv K mg A O α H σ δ μ)(T:Go O α H O' α' H')(S:SR K mg A.R0 O' α' H' μ'):SEv K mg A O' α' H' σ δ μ' :=
 ⟨S,E.st.trans T,E.len,λi x h=>let ⟨v,h1,h2⟩:=E.at_ i x h;⟨v,h1,h2.to (T.to E.sr) T.ex⟩⟩
theorem SEv.same(E:SEv K mg A O α H σ δ μ)(s:aG H H'):SEv K mg A O α H' σ δ μ:=E.go (Go.same s) (E.sr.same s)
theorem SEv.set{i:Nat}{v:V}{x:Val}(E:SEv K mg A O α H σ δ μ)(r:VR K O α H v x):SEv K mg A O α H (σ.set i (some v)) (δ.set i (some x)) μ:=by
 refine⟨E.sr,E.st,by rw[Ω,Ω,E.len],λj y h=>?_⟩
 rw[bB] at h
 by_cases hij:i=j
 ·subst hij
  rw[if_pos rfl] at h
  split at h
  ·cases h
   rename_i hl
   exact⟨v,by rw[bB,if_pos rfl,if_pos (by rw[E.len];exact hl)],r⟩
  ·cases h
 ·rw[if_neg hij] at h
  obtain⟨w,h1,h2⟩:=E.at_ j y h
  exact⟨w,by rw[bB,if_neg hij];exact h1,h2⟩
theorem Er.go{x:XD}(T:Go O α H O' α' H')(h:Er K mg G R0 O α H x μ):Er K mg G R0 O' α' H' x μ:=λO2 α2 H2 U S=>h O2 α2 H2 (T.trans U) S
noncomputable def v0:Option Val->Sl
 | some (.d x)=>.vl x
 | _=>.un
noncomputable def view(δ:aw):DS:=δ.map v0
theorem rL{i:Nat}{s:Sl}(h:(view δ)[i]?=some s):(∃x,δ[i]?=some (some (.d x))/\s=.vl x)\/s=.un:=by
 unfold view at h
 rw[Λ] at h
 cases e:δ[i]? with
 | none=>rw[e] at h;cases h
 | some o =>
  rw[e] at h
  cases o with
  | none=>cases h;exact .inr rfl
  | some x =>
   cases x with
   | d x=>cases h;exact .inl ⟨x,rfl,rfl⟩
   | h k=>cases h;exact .inr rfl
   | t xs=>cases h;exact .inr rfl
theorem SEv.view(E:SEv K mg A O α H σ δ μ):Ev K H O H σ (view δ):=by
 refine⟨aG.refl H,E.sr.oo,by unfold SL.view;rw[θ];exact E.len,λi s h=>?_,λi j l ds es hij h1=>?_⟩
 ·rcases rL h with ⟨x,h1,rfl⟩ | rfl
  ·obtain⟨v,g1,g2⟩:=E.at_ i _ h1
   exact⟨v,g1,g2.dinv⟩
  ·trivial
 ·rcases rL h1 with ⟨x,_,z⟩ | z<;>cases z
noncomputable def fU:List Val->Option (List D)
 | []=>some []
 | .d x::r=>(fU r).map (x :: ·)
 | _::_=>none
theorem iI:∀{xs:List Val} {ds:List D},fU xs=some ds->xs=ds.map Val.d
 | [],ds,h=>by cases h;rfl
 | .d x::r,ds,h=>by
  unfold fU at h
  cases e:fU r with
  | none=>rw[e] at h;cases h
  | some q=>rw[e] at h;cases h;rw[iI e];rfl
theorem uu(ds:List D):fU (ds.map Val.d)=some ds:=by
 induction ds with
 | nil=>rfl
 | cons d r ih=>show(fU (r.map Val.d)).map (d :: ·)=_;rw[ih];rfl
noncomputable def lv1(n:Nat)(μ:Sto):Val->Option D
 | .d x=>some x
 | .h k=>if n<=k then (match μ[k]? with
  | some (.lst xs)=>(fU xs).map Ψ
  | _=>none) else none
 | .t _=>none
noncomputable def k7(n:Nat)(μ:Sto):List Val->Option (List D)
 | []=>some []
 | x::xs=>match lv1 n μ x,k7 n μ xs with
  | some d,some ds=>some (d::ds)
  | _,_=>none
noncomputable def lv2(n:Nat)(μ:Sto):Val->Option D
 | .d x=>some x
 | .h k=>if n<=k then (match μ[k]? with
  | some (.lst xs)=>(k7 n μ xs).map Ψ
  | _=>none) else none
 | .t xs=>(k7 n μ xs).map U2
noncomputable def v1(n:Nat)(μ:Sto):Option Val->Sl
 | some x=>match lv2 n μ x with
  | some d=>.vl d
  | none=>.un
 | none=>.un
noncomputable def viewL(n:Nat)(μ:Sto)(δ:aw):DS:=δ.map (v1 n μ)
theorem wF(n:Nat)(μ:Sto)(ds:List D):k7 n μ (ds.map Val.d)=some ds:=by
 induction ds with
 | nil=>rfl
 | cons d ds ih=>show(match lv1 n μ (.d d),k7 n μ (ds.map Val.d) with | some d,some ds=>some (d::ds) | _,_=>none)=_;rw[ih];rfl
theorem v1_of(h:lv2 n μ x=some d):v1 n μ (some x)=.vl d:=by
 show(match lv2 n μ x with | some d=>Sl.vl d | none=>.un)=_
 rw[h]
theorem lv2_h(hn:n<=k)(h:μ[k]?=some (.lst xs))(hx:k7 n μ xs=some ds):lv2 n μ (.h k)=some (.list ds):=by
 show(if n<=k then (match μ[k]? with | some (.lst xs)=>(k7 n μ xs).map Ψ | _=>none) else none)=_
 rw[if_pos hn,h]
 show(k7 n μ xs).map Ψ=_
 rw[hx]
 rfl
theorem v1_h(hn:n<=k)(h:μ[k]?=some (.lst (ds.map Val.d))):v1 n μ (some (.h k))=.vl (.list ds):=v1_of (lv2_h hn h (wF n μ ds))
section
variable{n:Nat}
theorem lv1_rep(S:SR K mg R0 O α H μ)(T:To O O' H H)(hn:∀(k:Nat) (a:Addr) (xs:List Val),α[k]?=some (some a)->n<=k->μ[k]?=some (.lst xs)->a∉O'){v:V}{x:Val}{d:D}(r:VR K O α H v x)(h:lv1 n μ x=some d):Rep K O' H v d:=by
 cases x with
 | d x=>cases h;exact Rep.to T r.dinv
 | t xs=>cases h
 | h k =>
  obtain⟨a,ha,rfl⟩:=r.hinv
  have h:(if n<=k then (match μ[k]? with | some (.lst xs)=>(fU xs).map Ψ | _=>none) else none)=some d:=h
  by_cases hk:n<=k
  ·rw[if_pos hk] at h
   obtain⟨ob,g1,g2⟩:=S.at_ k a ha
   rw[g1] at h
   cases ob with
   | lst xs =>
    have h:(fU xs).map Ψ=some d:=h
    cases e:fU xs with
    | none=>rw[e] at h;cases h
    | some ds =>
     rw[e] at h
     cases h
     obtain⟨_,_,vs,g5,g6⟩:=g2
     rw[iI e] at g6
     exact .lst (.inl g5) (hn k a xs ha hk g1) (g6.undata.to T)
   | dct es=>cases h
   | ins c fs=>cases h
   | gone=>cases h
  ·rw[if_neg hk] at h;cases h
theorem ot(S:SR K mg R0 O α H μ)(T:To O O' H H)(hn:∀(k:Nat) (a:Addr) (xs:List Val),α[k]?=some (some a)->n<=k->μ[k]?=some (.lst xs)->a∉O'):∀{xs:List Val} {vs:List V} {ds:List D},VRs K O α H vs xs->k7 n μ xs=some ds->Reps K O' H vs ds
 | [],_,ds,.nil,h=>by cases h;exact .nil
 | x::xs,_,ds,.cons r rs,h=>by
  unfold k7 at h
  split at h
  ·rename_i d ds' e1 e2
   cases h
   exact .cons (lv1_rep S T hn r e1) (ot S T hn rs e2)
  ·cases h
theorem lv2_rep(S:SR K mg R0 O α H μ)(T:To O O' H H)(hn:∀(k:Nat) (a:Addr) (xs:List Val),α[k]?=some (some a)->n<=k->μ[k]?=some (.lst xs)->a∉O'){v:V}{x:Val}{d:D}(r:VR K O α H v x)(h:lv2 n μ x=some d):Rep K O' H v d:=by
 cases x with
 | d x=>cases h;exact Rep.to T r.dinv
 | t xs =>
  obtain⟨a,vs,rfl,hs,rs⟩:=r.tinv
  have h:(k7 n μ xs).map U2=some d:=h
  cases e:k7 n μ xs with
  | none=>rw[e] at h;cases h
  | some ds =>
   rw[e] at h
   cases h
   exact .tup hs (ot S T hn rs e)
 | h k =>
  obtain⟨a,ha,rfl⟩:=r.hinv
  have h:(if n<=k then (match μ[k]? with | some (.lst xs)=>(k7 n μ xs).map Ψ | _=>none) else none)=some d:=h
  by_cases hk:n<=k
  ·rw[if_pos hk] at h
   obtain⟨ob,g1,g2⟩:=S.at_ k a ha
   rw[g1] at h
   cases ob with
   | lst xs =>
    have h:(k7 n μ xs).map Ψ=some d:=h
    cases e:k7 n μ xs with
    | none=>rw[e] at h;cases h
    | some ds =>
     rw[e] at h
     cases h
     obtain⟨_,_,vs,g5,g6⟩:=g2
     exact .lst (.inl g5) (hn k a xs ha hk g1) (ot S T hn g6 e)
   | dct es=>cases h
   | ins c fs=>cases h
   | gone=>cases h
  ·rw[if_neg hk] at h;cases h
end
theorem pj{n i:Nat}{s:Sl}(h:(viewL n μ δ)[i]?=some s):(∃x d,δ[i]?=some (some x)/\lv2 n μ x=some d/\s=.vl d)\/s=.un:=by
 unfold viewL at h
 rw[Λ] at h
 cases e:δ[i]? with
 | none=>rw[e] at h;cases h
 | some o =>
  rw[e] at h
  cases o with
  | none=>cases h;exact .inr rfl
  | some x =>
   have h:some (match lv2 n μ x with | some d=>Sl.vl d | none=>.un)=some s:=h
   cases e2:lv2 n μ x with
   | none=>rw[e2] at h;cases h;exact .inr rfl
   | some d=>rw[e2] at h;cases h;exact .inl ⟨x,d,rfl,e2,rfl⟩
theorem SEv.viewL{n:Nat}(E:SEv K mg A O α H σ δ μ)(hs:∀l∈O',l∈O)(hn:∀(k:Nat) (a:Addr) (xs:List Val),α[k]?=some (some a)->n<=k->μ[k]?=some (.lst xs)->a∉O'):Ev K H O' H σ (SL.viewL n μ δ):=by
 have T:To O O' H H:=.less hs
 refine⟨aG.refl H,λl hl=>E.sr.oo l (hs l hl),by unfold SL.viewL;rw[θ];exact E.len,λi s h=>?_,λi j l ds es hij h1=>?_⟩
 ·rcases pj h with ⟨x,d,h1,h2,rfl⟩ | rfl
  ·obtain⟨v,g1,g2⟩:=E.at_ i _ h1
   exact⟨v,g1,lv2_rep E.sr T hn g2 h2⟩
  ·trivial
 ·rcases pj h1 with ⟨x,d,_,_,z⟩ | z<;>cases z
end
section
variable{X:Cx}{G:XD->Hp->Prop}{a b c e:Expr}{es rest:List Expr}{pos pos':Pos}{st:Stmt}{sts sts':List Stmt}
noncomputable def cf(f:DS->M D):aw->Sto->R (Val×Sto):=λδ μ=>(ofM (f (view δ)) μ).thn λd=>R.ret (.d d,μ)
theorem eL{β:Type}{K:ζ}{mg:Str->Option Value}{R0 O:List Addr}{α:List (Option Addr)}{H:Hp}{μ:Sto}{r:M β}{k:β->Prop}(S:SR K mg R0 O α H μ)(h:okR (Er K mg G R0 O α H) (ofM r μ) k):ok (GS G H) r k:=by
 match r,h with
 | some (.ok a),h=>exact h
 | some (.error x),h=>exact λH' s=>h O α H' (Go.same s) (S.same s)
theorem qk{f:DS->M D}(h:PD X G e f):SX X G e (cf f):=by
 obtain⟨t,p,h⟩:=h
 refine⟨t,p,λA δ μ O α σ H Q E k=>?_⟩
 refine h (view δ) O σ H Q E.view (ah (eL E.sr (ar k)) λd z v H' s r=>z v O α H' (Go.same s) (E.sr.same s) (.d r))
noncomputable def rW(f:DS->M D):aw->Sto->R (Val×Sto):=λδ μ=>(ofM (f (viewL 0 μ δ)) μ).thn λd=>if bL d=true then R.ret (.d d,μ) else none
theorem sx_lend{f:DS->M D}(h:PD X G e f):SX X G e (rW f):=by
 obtain⟨t,p,h⟩:=h
 refine⟨t,p,λA δ μ O α σ H Q E k=>?_⟩
 refine h (viewL 0 μ δ) A.R0 σ H Q (E.viewL E.sr.sub λk a xs ha _ hx=>?_) (ah (eL E.sr (ar k)) λd z v H' s r=>?_)
 ·obtain⟨ob,h1,h2⟩:=E.sr.at_ k a ha
  rw[hx] at h1
  cases h1
  exact h2.2.1
 ·by_cases hf:bL d=true
  ·rw[if_pos hf] at z
   exact z v O α H' (Go.same s) (E.sr.same s) (.d (r.flat hf))
  ·rw[if_neg hf] at z;exact z.elim
end
end SL
namespace SL
open PyProof.Rows L2 DL
section
variable{X:Cx}{G:XD->Hp->Prop}{a b c e ix:Expr}{es rest:List Expr}{pos pos' tpos:Pos}{st:Stmt}{sts sts':List Stmt}
noncomputable def aQ(i:Nat):aw->Sto->R (Val×Sto):=λδ μ=>match δ[i]? with
 | some (some x)=>R.ret (x,μ)
 | _=>none
theorem lN(h:PE X e (oV i)):SX X G e (aQ i):=by
 refine⟨_,h,λA δ μ O α σ H Q E k=>?_⟩
 unfold aQ at k
 split at k
 ·rename_i x hx
  obtain⟨v,h1,h2⟩:=E.at_ i x hx
  exact⟨v,h1,k v O α H Go.refl E.sr h2⟩
 ·exact k.elim
noncomputable def jh:aw->Sto->R (List Val×Sto):=λ_ μ=>R.ret ([],μ)
noncomputable def cx(f:aw->Sto->R (Val×Sto))(fa:aw->Sto->R (List Val×Sto)):aw->Sto->R (List Val×Sto):=λδ μ=>(f δ μ).thn λr=>(fa δ r.2).thn λq=>R.ret (r.1::q.1,q.2)
theorem sa_nil:SA X G [] jh:=by
 refine⟨λδ μ r h=>by cases h;rfl,_,jS,λA δ μ O α σ H Q E k=>k [] O α H Go.refl E.sr .nil⟩
theorem sa_cons(ha:SX X G e f)(hr:SA X G es fa)(hs:starEach (e::es) X.env=(false,eval e X.env)::starEach es X.env:=by rfl):SA X G (e::es) (cx f fa):=by
 obtain⟨t,p,ha⟩:=ha
 obtain⟨hl,u,q,hr⟩:=hr
 refine⟨λδ μ r h=>?_,_,gG p q hs,λA δ μ O α σ H Q E k=>?_⟩
 ·unfold cx at h
  cases e1:f δ μ with
  | none=>rw[e1] at h;cases h
  | some r1 =>
   rw[e1] at h
   cases r1 with
   | error x=>cases h
   | ok x =>
    have h:R.thn (fa δ x.2) _=_:=h
    cases e2:fa δ x.2 with
    | none=>rw[e2] at h;cases h
    | some r2 =>
     rw[e2] at h
     cases r2 with
     | error x=>cases h
     | ok xs =>
      cases h
      show(x.1::xs.1).length=_
      rw[Φ,Φ,hl δ x.2 xs e2]
 ·refine ha A δ μ O α σ H _ E (au (ar k) λr z v O1 α1 H1 T1 S1 r1=>?_)
  refine hr A δ r.2 O1 α1 σ H1 _ (E.go T1 S1) (au (bf (ar z) λx μ h=>Er.go T1 h) λq y vs O2 α2 H2 T2 S2 rs=>?_)
  exact y (v::vs) O2 α2 H2 (T1.trans T2) S2 (.cons (r1.to (T2.to S1) T2.ex) rs)
noncomputable def iC(fb:DS->M Bool):aw->Sto->R (Bool×Sto):=λδ μ=>(ofM (fb (viewL 0 μ δ)) μ).thn λb=>R.ret (b,μ)
theorem st_test{fb:DS->M Bool}(h:PDT X G e fb):ST X G e (iC fb):=by
 obtain⟨t,p,h⟩:=h
 refine⟨t,p,λA δ μ O α σ H Q E k=>?_⟩
 refine h (viewL 0 μ δ) A.R0 σ H Q (E.viewL E.sr.sub λk a xs ha _ hx=>?_) (ah (eL E.sr (ar k)) λd z H' s=>z O α H' (Go.same s) (E.sr.same s))
 obtain⟨ob,h1,h2⟩:=E.sr.at_ k a ha
 rw[hx] at h1
 cases h1
 exact h2.2.1
noncomputable def jO:SG:=λ_ δ μ=>R.ret (.nx δ μ)
noncomputable def bA(g h:SG):SG:=λn δ μ=>(g n δ μ).thn λo=>match o with
 | .nx δ' μ'=>h n δ' μ'
 | o=>R.ret o
theorem uM:SSs X G [] jO:=⟨_,uZ,λA δ μ O α σ H Dn E k=>k O α σ H E Go.refl⟩
theorem qp{g:SG}(h:SS X G st g):SSs X G [st] g:=by
 obtain⟨t,p,h⟩:=h
 exact⟨_,qw p,h⟩
theorem aX{g h:SG}(h1:SS X G st g)(h2:SSs X G sts h):SSs X G (st::sts) (bA g h):=by
 obtain⟨t,p,h1⟩:=h1
 obtain⟨u,q,h2⟩:=h2
 refine⟨_,nR p q,λA δ μ O α σ H Dn E k=>?_⟩
 refine h1 A δ μ O α σ H _ E (au (ar k) λo z=>?_)
 cases o with
 | nx δ' μ'=>exact λO' α' σ' H' E' T=>h2 A δ' μ' O' α' σ' H' Dn E' (au z λo w=>w.go T)
 | rt v μ'=>exact z
 | bk δ' μ'=>exact z
 | ct δ' μ'=>exact z
noncomputable def sIf(c:aw->Sto->R (Bool×Sto))(g h:SG):SG:=λn δ μ=>(c δ μ).thn λr=>if r.1=true then g n δ r.2 else h n δ r.2
theorem ss_if(hc:ST X G c fc)(h1:SSs X G sts g)(h2:SSs X G sts' h):SS X G (.If c sts sts' pos) (sIf fc g h):=by
 obtain⟨t,p,hc⟩:=hc
 obtain⟨u,q,h1⟩:=h1
 obtain⟨w,r,h2⟩:=h2
 refine⟨_,ps_if p q r,λA δ μ O α σ H Dn E k=>?_⟩
 refine hc A δ μ O α σ H _ E (au (bf (ar k) λx μ h=>Er.go E.st h) λr z O1 α1 H1 T1 S1=>?_)
 cases hb:r.1 with
 | true =>
  rw[hb,if_pos rfl] at z
  rw[if_pos rfl]
  exact h1 A δ r.2 O1 α1 σ H1 Dn (E.go T1 S1) (au z λo w=>w.go T1)
 | false =>
  rw[hb,if_neg ω] at z
  rw[if_neg ω]
  exact h2 A δ r.2 O1 α1 σ H1 Dn (E.go T1 S1) (au z λo w=>w.go T1)
noncomputable def dk(i:Nat)(f:aw->Sto->R (Val×Sto)):SG:=λ_ δ μ=>(f δ μ).thn λr=>R.ret (.nx (δ.set i (some r.1)) r.2)
theorem tJ(hN:X.N.Nodup)(hi:X.N[i]?=some x)(hx:Loc X.env.scope x)(he:SX X G e f)(hs:swapsWith e (some (.Name x pos')) pos.line X.env=pure false:=by rfl)(hf:X.fn x=true\/X.env.scope.names.lookup x=some .local:=by first | exact .inl rfl | exact .inr rfl | assumption) :
  SS X G (.Assign [.Name x pos'] e pos) (dk i f):=by
 obtain⟨t,p,he⟩:=he
 refine⟨_,qx hN hi hx p hs hf,λA δ μ O α σ H Dn E k=>?_⟩
 refine he A δ μ O α σ H _ E (au (bf (ar k) λx μ h=>Er.go E.st h) λr z v O1 α1 H1 T1 S1 r1=>?_)
 exact z O1 α1 _ H1 ((E.go T1 S1).set r1) T1
noncomputable def pD(i:Nat)(fn:DS->M (List D)):SG:=λ_ δ μ=>(ofM (fn (view δ)) μ).thn λds=>R.ret (.nx (δ.set i (some (.h μ.length))) (μ++[.lst (ds.map Val.d)]))
theorem ss_newL{i:Nat}{x:Str}{fn:DS->M (List D)}(hN:X.N.Nodup)(hi:X.N[i]?=some x)(hx:Loc X.env.scope x)(he:PDN X G e fn)(hs:swapsWith e (some (.Name x pos')) pos.line X.env=pure false:=by rfl)(hf:X.fn x=true\/X.env.scope.names.lookup x=some .local:=by first | exact .inl rfl | exact .inr rfl | assumption) :
  SS X G (.Assign [.Name x pos'] e pos) (pD i fn):=by
 obtain⟨t,p,he⟩:=he
 refine⟨_,qx hN hi hx p hs hf,λA δ μ O α σ H Dn E k=>?_⟩
 refine he (view δ) O σ H _ E.view (ah (eL E.sr (bf (ar k) λx μ h=>Er.go E.st h)) λds z l xs H1 s1 hl rx=>?_)
 have E1:=E.same s1
 have S1:=E1.sr.newL hl (VRs.data (α:=α) rx)
 refine z (l::O) (α++[some l]) _ _ ((E1.go (Go.newL hl) S1).set (.h ?_)) ((Go.same s1).trans (Go.newL hl))
 rw[<-E.sr.len,χ (υ _),X0]
 rfl
noncomputable def pB(i:Nat)(fi f:aw->Sto->R (Val×Sto)):SG:=λ_ δ μ=>(f δ μ).thn λr=>(match δ[i]? with
 | some (some (.h k))=>(fi δ r.2).thn λq=>match q.1,q.2[k]? with
  | .d (.int n),some (.lst xs)=>match ixN xs.length n with
   | some j=>R.ret (.nx δ (q.2.set k (.lst (xs.set j r.1))))
   | none=>none
  | _,_=>none
 | _=>none)
theorem ss_setI{i:Nat}{fi f:aw->Sto->R (Val×Sto)}(hv:PE X a (oV i))(hi:SX X G ix fi)(he:SX X G e f)
  (ha:∀v,assign (.Subscript a ix tpos) X.env v=(do
   let ov <- holding [v] (eval a X.env)
   let iv <- holding [v,ov] (eval ix X.env)
   standAt tpos
   holding [v,ov,iv] (setItem ov iv v)
   release [v,ov,iv] []):=by intro _;rfl)
  (hs:swapsWithSole [.Subscript a ix tpos] e pos.line X.env=pure false:=by rfl) (hw:swappedStores [.Subscript a ix tpos] e X.env=pure none:=by rfl)
  (h1:(assignEach [.Subscript a ix tpos] X.env).map (·.2)=[assign (.Subscript a ix tpos) X.env]:=by rfl):SS X G (.Assign [.Subscript a ix tpos] e pos) (pB i fi f):=by
 obtain⟨t,p,he⟩:=he
 obtain⟨u,q,hi⟩:=hi
 refine⟨_,qy p (tU hv q jM ha) hs hw h1,λA δ μ O α σ H Dn E k=>?_⟩
 refine he A δ μ O α σ H _ E (au (bf (ar k) λx μ h=>Er.go E.st h) λr z v O1 α1 H1 T1 S1 r1=>?_)
 have E1:=E.go T1 S1
 split at z
 ·rename_i kk hd
  obtain⟨w,q1,q2⟩:=E1.at_ i _ hd
  obtain⟨l,q3,rfl⟩:=q2.hinv
  refine⟨.ref l,q1,?_⟩
  refine hi A δ r.2 O1 α1 σ H1 _ E1 (au (bf (ar z) λx μ h=>Er.go E1.st h) λqq y kv O2 α2 H2 T2 S2 r2=>?_)
  split at y
  ·rename_i n xs hq hk
   rw[hq] at r2
   have hkv:=Rep.int_inv r2.dinv
   subst hkv
   have q3':=T2.ex _ _ q3
   obtain⟨ob,g1,g2⟩:=S2.at_ kk l q3'
   rw[hk] at g1
   cases g1
   obtain⟨g3,g4,vs,g5,g6⟩:=g2
   cases hj:ixN xs.length n with
   | none=>rw[hj] at y;exact y.elim
   | some j =>
    rw[hj] at y
    refine⟨l,vs,n,j,rfl,rfl,g5,by rw[g6.length];exact hj,?_⟩
    have r1':=r1.to (T2.to S1) T2.ex
    exact y O2 α2 σ _ (((E1.go T2 S2)).go (Go.setL q3') (S2.setL q3' hk (g6.set r1' j))) (T1.trans (T2.trans (Go.setL q3')))
  ·exact y.elim
 ·exact z.elim
noncomputable def rV(f:aw->Sto->R (Val×Sto)):SG:=λ_ δ μ=>(f δ μ).thn λr=>R.ret (.rt r.1 r.2)
theorem ss_ret(he:SX X G e f):SS X G (.Return (some e) pos) (rV f):=by
 obtain⟨t,p,he⟩:=he
 refine⟨_,lV p,λA δ μ O α σ H Dn E k=>?_⟩
 exact he A δ μ O α σ H _ E (au (bf (ar k) λx μ h=>Er.go E.st h) λr z v O1 α1 H1 T1 S1 r1=>z v O1 α1 H1 S1 (E.st.trans T1) r1)
mutual
noncomputable def vS(n:Nat):Val->Bool
 | .d _=>true
 | .h k=>decide (k<n)
 | .t xs=>ja n xs
noncomputable def ja(n:Nat):List Val->Bool
 | []=>true
 | x::xs=>vS n x&&ja n xs
end
noncomputable def lJ(n:Nat):Ob->Bool
 | .lst xs=>ja n xs
 | .dct es=>ja n (es.map (·.2))
 | .ins _ fs=>ja n (fs.map (·.2))
 | .gone=>true
noncomputable def nI(f:DS->M D):SG:=λn δ μ=>if (μ.take n).all (lJ n)=true then (ofM (f (viewL n μ δ)) μ).thn λd=>R.ret (.rt (.d d) (μ.take n)) else none
section
variable{K:ζ}{mg:Str->Option Value}{R0 O O':List Addr}{α α':List (Option Addr)}{H H':Hp}{μ:Sto}
mutual
theorem VR.cut{n:Nat}(T:To O O' H H'):∀{v:V} {x:Val},vS n x=true->VR K O α H v x->VR K O' (α.take n) H' v x
 | _,_,_,.d r=>.d (Rep.to T r)
 | _,.h k,hc,.h e=>by
  have hk:k<n:=of_decide_eq_true hc
  exact .h (by rw[S4,if_pos hk];exact e)
 | _,.t xs,hc,.t s rs=>.t (T.sqT s) (VRs.cut T hc rs)
theorem VRs.cut{n:Nat}(T:To O O' H H'):∀{vs:List V} {xs:List Val},ja n xs=true->VRs K O α H vs xs->VRs K O' (α.take n) H' vs xs
 | _,_,_,.nil=>.nil
 | _,_::_,hc,.cons r rs=>.cons (VR.cut T (Bool.and_eq_true_iff.mp hc).1 r) (VRs.cut T (Bool.and_eq_true_iff.mp hc).2 rs)
end
theorem SR.cut{n:Nat}(S:SR K mg R0 O α H μ)(hs:∀l∈O',l∈O)(hr:∀l∈R0,l∈O')(hk:∀(k:Nat) (a:Addr),k<n->α[k]?=some (some a)->a∈O->a∈O')(hc:(μ.take n).all (lJ n)=true):SR K mg R0 O' (α.take n) H (μ.take n):=by
 have T:To O O' H H:=.less hs
 have gt:∀(k:Nat) (a:Addr),(α.take n)[k]?=some (some a)->k<n/\α[k]?=some (some a):=λk a h=>by
  rw[S4] at h
  split at h
  ·rename_i hk;exact⟨hk,h⟩
  ·cases h
 refine⟨by rw[V9,V9,S.len],λi j a h1 h2=>S.nd i j a (gt i a h1).2 (gt j a h2).2,λl hl=>S.oo l (hs l hl),hr,λk a h=>?_⟩
 obtain⟨h1,h2⟩:=gt k a h
 obtain⟨ob,g1,g2⟩:=S.at_ k a h2
 have gk:(μ.take n)[k]?=some ob:=by rw[S4,if_pos h1];exact g1
 have hco:lJ n ob=true:=List.all_eq_true.mp hc ob (W4 gk)
 refine⟨ob,gk,?_⟩
 cases ob with
 | lst xs=>obtain⟨p1,p2,vs,p3,p4⟩:=g2;exact⟨hk k a h1 h2 p1,p2,vs,p3,p4.cut T hco⟩
 | dct es =>
  obtain⟨p1,p2,kvs,p3,p4,p5⟩:=g2
  exact⟨hk k a h1 h2 p1,p2,kvs,p3,p4,p5.cut T hco⟩
 | ins c fs =>
  obtain⟨p1,pr,C,dx,vfs,p2,p3,p4,p5⟩:=g2
  exact⟨hk k a h1 h2 p1,pr,C,dx,vfs,p2,p3,p4,p5.cut T hco⟩
 | gone=>exact g2
end
theorem uN(h:PD X G e f):SS X G (.Return (some e) pos) (nI f):=by
 obtain⟨t,p,h⟩:=h
 refine⟨_,lV p,λA δ μ O α σ H Dn E k=>?_⟩
 unfold nI at k
 by_cases hc:(μ.take A.α.length).all (lJ A.α.length)=true
 ·rw[if_pos hc] at k
  obtain⟨O',hO'⟩:∃O':List Addr,∀l,l∈O'↔l∈O/\∀k:Nat,A.α.length<=k->α[k]? ≠ some (some l):=by
   refine⟨O.filter λl=>decide ((some l)∉α.drop A.α.length),λl=>?_⟩
   rw[Y7,decide_eq_true_eq]
   refine and_congr Iff.rfl ⟨λhn k hk he=>hn (List.mem_iff_getElem?.mpr ⟨k-A.α.length,by rw[List.getElem?_drop,show A.α.length+(k-A.α.length)=k by omega];exact he⟩),λhn hm=>?_⟩
   obtain⟨j,hj⟩:=List.mem_iff_getElem?.mp hm
   rw[List.getElem?_drop] at hj
   exact hn _ (by omega) hj
  have hs:∀l∈O',l∈O:=λl hl=>((hO' l).mp hl).1
  refine h (viewL A.α.length μ δ) O' σ H _ (E.viewL hs λk a xs ha hk _ hm=>((hO' a).mp hm).2 k hk ha) (ah (eL E.sr (bf (ar k) λx μ h=>Er.go E.st h)) λd z v H' s r=>?_)
  have E':=E.same s
  have hlt:∀(k:Nat) (a:Addr),k<A.α.length->α[k]?=some (some a)->a∈O->a∈O':=λk a hk ha ho=>(hO' a).mpr ⟨ho,λj hj hz=>by
   have:=E.sr.nd k j a ha hz
   omega⟩
  refine z v O' (α.take A.α.length) H' (E'.sr.cut hs (λl hl=>(hO' l).mpr ⟨E.sr.sub l hl,λk _ hz=>?_⟩) hlt hc) ?_ (.d r)
  ·obtain⟨ob,g1,g2⟩:=E.sr.at_ k l hz
   cases ob with
   | lst xs=>exact g2.2.1 hl
   | dct es=>exact g2.2.1 hl
   | ins c fs=>exact g2.2.1 hl
   | gone=>exact g2
  ·have g:=E'.st
   refine⟨g.keep,λk a hk=>?_,?_,λk b hk=>?_,λl hl=>g.ol l (hs l hl),g.live⟩
   ·rw[S4,if_pos (ς.mp hk).1];exact g.ex k a hk
   ·rw[V9];have:=g.len;omega
   ·rw[S4] at hk
    split at hk
    ·exact g.new k b hk
    ·cases hk
 ·rw[if_neg hc] at k;exact k.elim
noncomputable def iX(f:aw->Sto->R (Val×Sto)):SG:=λ_ δ μ=>(f δ μ).thn λr=>R.ret (.nx δ r.2)
theorem ss_expr(he:SX X G e f)(hs:swapsWith e none pos.line X.env=pure false:=by rfl):SS X G (.Expr e pos) (iX f):=by
 obtain⟨t,p,he⟩:=he
 refine⟨_,u0 p hs,λA δ μ O α σ H Dn E k=>?_⟩
 exact he A δ μ O α σ H _ E (au (bf (ar k) λx μ h=>Er.go E.st h) λr z v O1 α1 H1 T1 S1 r1=>z O1 α1 σ H1 (E.go T1 S1) T1)
def SGT(X:Cx)(tg:Expr)(g:D->aw->Option aw):Prop :=
 ∃t,PG X tg t/\∀(A:An) (δ δ':aw) (d:D) (v:V) (O:List Addr) (α:List (Option Addr)) (σ:L2.St) (μ:Sto) (H:Hp) (Q:L2.St->Hp->Prop),SEv X.K X.mg A O α H σ δ μ->Rep X.K O H v d->g d δ=some δ'->(∀σ',SEv X.K X.mg A O α H σ' δ' μ->Q σ' H)->t v σ H Q
def uE(X:Cx)(ts:List Expr)(g:List D->aw->Option aw):Prop :=
 ∃t,PGs X ts t/\∀(A:An) (δ δ':aw) (ds:List D) (vs:List V) (O:List Addr) (α:List (Option Addr)) (σ:L2.St) (μ:Sto) (H:Hp) (Q:L2.St->Hp->Prop),SEv X.K X.mg A O α H σ δ μ->Reps X.K O H vs ds->g ds δ=some δ'->(∀σ',SEv X.K X.mg A O α H σ' δ' μ->Q σ' H)->t vs σ H Q
noncomputable def agN(i:Nat):D->aw->Option aw:=λd δ=>some (δ.set i (some (.d d)))
theorem sg_name(h:PG X e (vB i)):SGT X e (agN i):=by
 refine⟨_,h,λA δ δ' d v O α σ μ H Q E r e k=>?_⟩
 cases e
 exact k _ (E.set (.d r))
noncomputable def mK:List D->aw->Option aw:=λds δ=>match ds with
 | []=>some δ
 | _=>none
noncomputable def fv(t:D->aw->Option aw)(u:List D->aw->Option aw):List D->aw->Option aw:=λds δ=>match ds with
 | d::r=>(t d δ).bind (u r)
 | []=>none
theorem sgs_nil:uE X [] mK:=by
 refine⟨_,u9,λA δ δ' ds vs O α σ μ H Q E r e k=>?_⟩
 cases ds with
 | nil=>cases r;cases e;exact⟨rfl,k σ E⟩
 | cons d ds=>cases e
theorem xH(h1:SGT X e t)(h2:uE X es u)
  (hs:(assignEach (e::es) X.env).map (·.2)=assign e X.env::(assignEach es X.env).map (·.2):=by rfl):uE X (e::es) (fv t u):=by
 obtain⟨t1,p1,h1⟩:=h1
 obtain⟨t2,p2,h2⟩:=h2
 refine⟨_,se p1 p2 hs,λA δ δ' ds vs O α σ μ H Q E r e k=>?_⟩
 cases ds with
 | nil=>cases e
 | cons d ds =>
  cases r with
  | @cons v _ vs _ r rs =>
   have e:(t d δ).bind (u ds)=some δ':=e
   cases e1:t d δ with
   | none=>rw[e1] at e;cases e
   | some δ1 =>
    rw[e1] at e
    refine⟨v,vs,rfl,h1 A δ δ1 d v O α σ μ H _ E r e1 λσ1 E1=>?_⟩
    exact h2 A δ1 δ' ds vs O α σ1 μ H Q E1 rs e k
noncomputable def mJ(n:Nat)(u:List D->aw->Option aw):D->aw->Option aw:=λd δ=>match d with
 | .tuple ds=>if ds.length=n then u ds δ else none
 | _=>none
theorem sg_tup(hc:X.calm=true)(h:uE X es u)
  (hn:(assignEach es X.env).length=n:=by rfl) (hst:(assignEach es X.env).findIdx? (·.1)=none:=by rfl):SGT X (.Tuple es k pos) (mJ n u):=by
 obtain⟨t,p,h⟩:=h
 refine⟨_,xV hc p hn hst,λA δ δ' d v O α σ μ H Q E r e k=>?_⟩
 cases d with
 | tuple ds =>
  have e:(if ds.length=n then u ds δ else none)=some δ':=e
  by_cases hl:ds.length=n
  ·rw[if_pos hl] at e
   obtain⟨a,xs,rfl,h1,rs⟩:=r.tup_inv
   exact⟨a,xs,rfl,h1,by rw[rs.length];exact hl,h A δ δ' ds xs O α σ μ H Q E rs e k⟩
  ·rw[if_neg hl] at e;cases e
 | _=>cases e
noncomputable def iT(t:D->aw->Option aw)(g:aw->Sto->R OutS):List D->aw->Sto->R OutS
 | [],δ,μ=>R.ret (.nx δ μ)
 | d::ds,δ,μ=>match t d δ with
  | none=>none
  | some δ1=>(g δ1 μ).thn λo=>match o with
   | .nx δ' μ'=>iT t g ds δ' μ'
   | .ct δ' μ'=>iT t g ds δ' μ'
   | .bk δ' μ'=>R.ret (.nx δ' μ')
   | .rt v μ'=>R.ret (.rt v μ')
noncomputable def v8(fi:DS->M (List D))(t:D->aw->Option aw)(g:SG):SG:=λn δ μ=>(ofM (fi (view δ)) μ).thn λds=>iT t (g n) ds δ μ
theorem xC{tg iter:Expr}{body:List Stmt}{t:D->aw->Option aw}{fi:DS->M (List D)}{g:SG}(hp:PassesOwn (model X.prog X.w) X.A X.env X.xe)(hc:X.calm=true)(hi:PDI X G tg iter fi)(hg:SGT X tg t)(hb:SSs X G body g)
  (hs:∀x,foldedSetIterable iter X.env x=pure x:=by intro _;rfl):SS X G (.For tg iter body [] pos) (v8 fi t g):=by
 obtain⟨wi,pi,hi⟩:=hi
 obtain⟨tgt,pt,hg⟩:=hg
 obtain⟨tb,pb,hb⟩:=hb
 refine⟨_,nS hp hc pi pt pb hs,λA δ μ O α σ H Dn E k=>?_⟩
 refine hi (view δ) O σ H _ E.view (ah (eL E.sr (bf (ar k) λx μ h=>Er.go E.st h)) λds z J H1 s1 Y=>?_)
 have E1:=E.same s1
 refine⟨λi m σ2 H2=>m=ds.length-i/\i<=ds.length/\∃δ2 μ2 O2 α2,SEv X.K X.mg A O2 α2 H2 σ2 δ2 μ2/\Go O α H1 O2 α2 H2/\okR (Er X.K X.mg G A.R0 A.O A.α A.H) (iT t (g A.α.length) (ds.drop i) δ2 μ2) (kM X.K X.mg A O α H Dn),⟨_,rfl,X8 _,δ,μ,O,α,E1,Go.refl,z⟩,?_⟩
 rintro i m σ2 H2 ⟨rfl,hi,δ2,μ2,O2,α2,E2,T,k2⟩
 have TT:=T.to E1.sr
 by_cases hlt:i<ds.length
 ·right
  have hd:ds[i]?=some ds[i]:=ψ hlt
  obtain⟨go,yl⟩:=Y.step O2 H2 TT i _ hd
  refine⟨go,λσ' H'=>∃δ2 μ2 O2 α2,SEv X.K X.mg A O2 α2 H' σ' δ2 μ2/\Go O α H1 O2 α2 H'/\okR (Er X.K X.mg G A.R0 A.O A.α A.H) (iT t (g A.α.length) (ds.drop (i+1)) δ2 μ2) (kM X.K X.mg A O α H Dn),λσ' H' h=>⟨_,by omega,rfl,hlt,h⟩,λx H3 y=>?_⟩
  obtain⟨s3,rx⟩:=yl x H3 y
  rw[iu hd] at k2
  have E3:=E2.same s3
  have T3:=T.trans (Go.same s3)
  unfold iT at k2
  cases h3:t ds[i] δ2 with
  | none=>rw[h3] at k2;exact k2.elim
  | some δ3 =>
   rw[h3] at k2
   refine hg A δ2 δ3 ds[i] x O2 α2 σ2 μ2 H3 _ E3 rx h3 λσ4 E4=>?_
   refine hb A δ3 μ2 O2 α2 σ4 H3 _ E4 (au (ar k2) λo z=>?_)
   cases o with
   | nx δ5 μ5=>exact λO5 α5 σ5 H5 E5 T5=>⟨δ5,μ5,O5,α5,E5,T3.trans T5,z⟩
   | ct δ5 μ5=>exact λO5 α5 σ5 H5 E5 T5=>⟨δ5,μ5,O5,α5,E5,T3.trans T5,z⟩
   | bk δ5 μ5=>exact λO5 α5 σ5 H5 E5 T5=>z O5 α5 σ5 H5 E5 ((Go.same s1).trans (T3.trans T5))
   | rt v μ5=>exact z
 ·left
  have e:i=ds.length:=by omega
  subst e
  rw[V6] at k2
  exact⟨Y.stop O2 H2 TT,k2 O2 α2 σ2 H2 E2 ((Go.same s1).trans T)⟩
noncomputable def dX(c:aw->Sto->R (Bool×Sto))(g:aw->Sto->R OutS):Nat->aw->Sto->R OutS
 | 0,_,_=>none
 | n+1,δ,μ=>(c δ μ).thn λr=>if r.1=true then (g δ r.2).thn λo=>match o with
   | .nx δ' μ'=>dX c g n δ' μ'
   | .ct δ' μ'=>dX c g n δ' μ'
   | .bk δ' μ'=>R.ret (.nx δ' μ')
   | .rt v μ'=>R.ret (.rt v μ')
  else R.ret (.nx δ r.2)
theorem iB{c:aw->Sto->R (Bool×Sto)}{g:aw->Sto->R OutS}:∀{n:Nat} {δ:aw} {μ:Sto} {r:Except (XD×Sto) OutS} (k:Nat),dX c g n δ μ=some r->dX c g (n+k) δ μ=some r
 | 0,_,_,_,_,h=>by cases h
 | n+1,δ,μ,r,k,h=>by
  have e:n+1+k=(n+k)+1:=by omega
  rw[e]
  unfold dX at h ⊢
  match hc:c δ μ,h with
  | some (.ok (true,μ1)),h =>
   have h:R.thn (g δ μ1) _=_:=h
   show R.thn (g δ μ1) _=_
   match hg:g δ μ1,h with
   | some (.ok (.nx δ' μ')),h=>exact iB k h
   | some (.ok (.ct δ' μ')),h=>exact iB k h
   | some (.ok (.bk δ' μ')),h=>exact h
   | some (.ok (.rt v μ')),h=>exact h
   | some (.error x),h=>exact h
  | some (.ok (false,μ1)),h=>exact h
  | some (.error x),h=>exact h
noncomputable def dZ(c:aw->Sto->R (Bool×Sto))(g:SG):SG:=λm δ μ =>
 open Classical in if h:∃n r,dX c (g m) n δ μ=some r then dX c (g m) (Classical.choose h) δ μ else none
theorem mt{c:aw->Sto->R (Bool×Sto)}{g:SG}{m n:Nat}{δ:aw}{μ:Sto}{r:Except (XD×Sto) OutS}(h:dX c (g m) n δ μ=some r):dZ c g m δ μ=some r:=by
 have hx:∃n r,dX c (g m) n δ μ=some r:=⟨n,r,h⟩
 unfold dZ
 rw[dif_pos hx]
 obtain⟨r',hr⟩:=Classical.choose_spec hx
 have h1:=iB (Classical.choose hx) h
 have h2:=iB n hr
 rw[Nat.add_comm] at h2
 rw[h2] at h1
 rw[hr,h1]
theorem nH{c:aw->Sto->R (Bool×Sto)}{g:SG}{m:Nat}{δ:aw}{μ:Sto}{r:Except (XD×Sto) OutS}(h:dZ c g m δ μ=some r):∃n,dX c (g m) n δ μ=some r:=by
 unfold dZ at h
 split at h
 ·exact⟨_,h⟩
 ·cases h
theorem xz{fc:aw->Sto->R (Bool×Sto)}{g:SG}{body:List Stmt}(hp:PassesOwn (model X.prog X.w) X.A X.env X.xe)(hc:ST X G c fc)(hb:SSs X G body g):SS X G (.While c body [] pos) (dZ fc g):=by
 obtain⟨tc,pc,hc⟩:=hc
 obtain⟨tb,pb,hb⟩:=hb
 refine⟨_,sd hp pc pb,λA δ μ O α σ H Dn E k=>?_⟩
 obtain⟨n,hn⟩:∃n,okR (Er X.K X.mg G A.R0 A.O A.α A.H) (dX fc (g A.α.length) n δ μ) (kM X.K X.mg A O α H Dn):=by
  cases e:dZ fc g A.α.length δ μ with
  | none=>rw[e] at k;exact k.elim
  | some r =>
   obtain⟨n,hn⟩:=nH e
   rw[e] at k
   exact⟨n,by rw[hn];exact k⟩
 refine⟨λm σ2 H2=>∃δ2 μ2 O2 α2,SEv X.K X.mg A O2 α2 H2 σ2 δ2 μ2/\Go O α H O2 α2 H2/\okR (Er X.K X.mg G A.R0 A.O A.α A.H) (dX fc (g A.α.length) m δ2 μ2) (kM X.K X.mg A O α H Dn),⟨n,δ,μ,O,α,E,Go.refl,hn⟩,λm σ2 H2 hw=>?_⟩
 obtain⟨δ2,μ2,O2,α2,E2,T2,k2⟩:=hw
 cases m with
 | zero=>exact k2.elim
 | succ m =>
  unfold dX at k2
  refine hc A δ2 μ2 O2 α2 σ2 H2 _ E2 (au (bf (ar k2) λx μ h=>Er.go E2.st h) λr z O3 α3 H3 T3 S3=>?_)
  have E3:=E2.go T3 S3
  cases hb':r.1 with
  | false =>
   rw[hb',if_neg ω] at z
   exact z O3 α3 σ2 H3 E3 (T2.trans T3)
  | true =>
   rw[hb',if_pos rfl] at z
   refine⟨λσ' H'=>∃δ2 μ2 O2 α2,SEv X.K X.mg A O2 α2 H' σ' δ2 μ2/\Go O α H O2 α2 H'/\okR (Er X.K X.mg G A.R0 A.O A.α A.H) (dX fc (g A.α.length) m δ2 μ2) (kM X.K X.mg A O α H Dn),λσ' H' hN=>⟨m,Nat.lt_succ_self m,hN⟩,?_⟩
   refine hb A δ2 r.2 O3 α3 σ2 H3 _ E3 (au (ar z) λo q=>?_)
   cases o with
   | nx δ' μ'=>exact λO' α' σ' H' E' T'=>⟨δ',μ',O',α',E',T2.trans (T3.trans T'),q⟩
   | ct δ' μ'=>exact λO' α' σ' H' E' T'=>⟨δ',μ',O',α',E',T2.trans (T3.trans T'),q⟩
   | bk δ' μ'=>exact λO' α' σ' H' E' T'=>q O' α' σ' H' E' (T2.trans (T3.trans T'))
   | rt v μ'=>exact q
end
end SL
namespace SL
open PyProof.Rows L2 DL
noncomputable def spS(K:ζ)(mg:Str->Option Value)(n:Nat)(F:List Val->Sto->R (Val×Sto)):Sp:=λvs H Q _=>∃R0 O α μ xs,vs.length=n/\SR K mg R0 O α H μ/\VRs K O α H vs xs/\okR (λ_ _=>False) (F xs μ) (λr=>∀v O' α' H',Go O α H O' α' H'->SR K mg R0 O' α' H' r.2->VR K O' α' H' v r.1->Q v H')
structure DefS(P:Program)(w:World)(K:ζ)(mg:Str->Option Value)(base:Heap)(k:Nat)(x:Str)(n:Nat)(F:List Val->Sto->R (Val×Sto)):Prop where
 ex:∃(f:Addr) (fd:FuncData) (ps:List Str),FnOk P w K mg base CX0 k f fd ps (spS K mg n F)/\mg x=some (.ref f)/\V7 K (.ref f)=true/\gr K fd ps []
noncomputable def wA(r:R β):R β:=match r with
 | some (.error _)=>none
 | r=>r
theorem m4(h:okR G (wA r) k):okR (λ_ _=>False) r k:=by
 match r,h with
 | some (.ok a),h=>exact h
noncomputable def nJ(F:List Val->Sto->R (Val×Sto))(fa:aw->Sto->R (List Val×Sto)):aw->Sto->R (Val×Sto):=λδ μ=>(fa δ μ).thn λr=>wA (F r.1 r.2)
section
theorem sx_call(h:DefS X.prog X.w X.K X.mg X.base k x n F)(hr:Room k X.A)(hg:Gl X x)(hn:(e::es).length=n)(ha:SA X G (e::es) fa)
  (hdb:(x==("__debug__" : Str))=false:=by decide) (he:starEach (e::es) X.env=(false,eval e X.env)::starEach es X.env:=by rfl) (hpl:(backTo pos (starEach es X.env)).any (·.1)=false:=by rfl) :
  SX X G (.Call (.Name x p) (e::es) [] pos) (nJ F fa):=by
 obtain⟨f,fd,ps,F1,hm,hk,hb⟩:=h.ex
 obtain⟨hl,t,pa,ha⟩:=ha
 refine⟨_,vb F1 hr hg hm hk hb .nil mx pa hdb he hpl,λA δ μ O α σ H Q E k=>?_⟩
 have k1:=ar k
 refine ha A δ μ O α σ H _ E ?_
 cases e1:fa δ μ with
 | none=>rw[e1] at k1;exact k1.elim
 | some r =>
  rw[e1] at k1
  cases r with
  | error x=>exact k1
  | ok r =>
   refine λvs O1 α1 H1 T1 S1 rs=>?_
   refine⟨A.R0,O1,α1,r.2,r.1,?_,S1,?_,au (m4 k1) λq z v O2 α2 H2 T2 S2 rv=>z v O2 α2 H2 (T1.trans T2) S2 rv⟩
   ·rw[Z4,rs.length,hl δ μ r e1];exact hn
   ·rw[Z4];exact rs
end
noncomputable def jf(n:Nat)(xs:List Val):aw:=xs.map some++ρ (n-xs.length) none
noncomputable def endS(o:OutS):R (Val×Sto):=match o with
 | .rt v μ=>R.ret (v,μ)
 | .nx _ μ=>R.ret (.d .none,μ)
 | _=>none
noncomputable def kY(n:Nat)(g:SG)(xs:List Val)(μ:Sto):R (Val×Sto):=(g μ.length (jf n xs) μ).thn endS
section
variable{P:Program}{w:World}{K:ζ}{mg:Str->Option Value}{base:Heap}
theorem wP{R0 O:List Addr}{α:List (Option Addr)}{H:Hp}{μ:Sto}{vs:List V}{xs:List Val}(N:List Str)(S:SR K mg R0 O α H μ)(r:VRs K O α H vs xs):SEv K mg ⟨R0,O,α,H⟩ O α H (L2.gj N vs) (jf N.length xs) μ:=by
 refine⟨S,Go.refl,?_,λi x h=>?_⟩
 ·unfold L2.gj jf
  simp [r.length]
 ·unfold jf at h
  by_cases hi:i<xs.length
  ·rw[ξ (by simpa using hi),Λ] at h
   cases e:xs[i]? with
   | none=>rw[e] at h;cases h
   | some y =>
    rw[e] at h
    cases h
    obtain⟨v,hv,rv⟩:=r.get e
    refine⟨v,?_,rv⟩
    unfold L2.gj
    have hi:i<vs.length:=(ς.mp hv).1
    rw[ξ (by simpa using hi),Λ,hv]
    rfl
  ·rw[χ (by simpa using hi),X5] at h
   split at h<;>cases h
theorem uj{x qual:Str}{st:Stmt}{f:Addr}{fd:FuncData}{N ps:List Str}{k:Nat}{g:SG}(F0:Fun K x qual st f fd)(S:FnScope N ps (ao st))
  (hbody:∀(cdv:Value) (A:Around) (outer:List PySem.Env) (s:Shared) (H:Hp) (E:XK),Room k (A.deeper (envOfC qual (ao st) s.heap.objs.size f cdv)) ->
   SSs (oQ CX0 P w K mg base N qual (ao st) f cdv A outer s H E).nox (λ_ _=>False) (ek st) g):FnOk P w K mg base CX0 (k+1) f fd ps (spS K mg ps.length (kY N.length g)):=by
 refine F0.ok S (λvs H Q E h=>?_) (λcdv A outer s H vs Q E hr h=>?_)
 ·obtain⟨R0,O,α,μ,xs,hl,_⟩:=h
  exact hl
 ·obtain⟨R0,O,α,μ,xs,hl,S0,r,q⟩:=h
  obtain⟨t,p,hB⟩:=hbody cdv A outer s H E hr
  refine⟨t,p,hB ⟨R0,O,α,H⟩ (jf N.length xs) μ O α (L2.gj N vs) H _ (wP N S0 r) ?_⟩
  have q1:=ar (show okR _ ((g μ.length (jf N.length xs) μ).thn endS) _ from q)
  rw[<-S0.len] at q1
  refine au (bf q1 λx μ h=>h.elim) λo z=>?_
  cases o with
  | rt v μ'=>exact λu O' α' H' S' G' r'=>z u O' α' H' G' S' r'
  | nx δ μ'=>exact λO' α' σ' H' E' G'=>z .non O' α' H' G' E'.sr (.d .non)
  | bk δ μ'=>exact z.elim
  | ct δ μ'=>exact z.elim
theorem defs_of{x qual:Str}{st:Stmt}{f:Addr}{fd:FuncData}{N ps:List Str}{k:Nat}{g:SG}(F0:Fun K x qual st f fd)(S:FnScope N ps (ao st))(hm:mg x=some (.ref f))(hb:gr K fd ps [])
  (hbody:∀(cdv:Value) (A:Around) (outer:List PySem.Env) (s:Shared) (H:Hp) (E:XK),Room k (A.deeper (envOfC qual (ao st) s.heap.objs.size f cdv)) ->
   SSs (oQ CX0 P w K mg base N qual (ao st) f cdv A outer s H E).nox (λ_ _=>False) (ek st) g):DefS P w K mg base (k+1) x ps.length (kY N.length g) :=
 ⟨f,fd,ps,uj F0 S hbody,hm,F0.kp,hb⟩
noncomputable def asD(F:List Val->Sto->R (Val×Sto)):List D->M D:=λds=>match F (ds.map Val.d) [] with
 | some (.ok (.d x,_))=>M.ret x
 | _=>none
theorem DefS.toD{k n:Nat}{x:Str}{F:List Val->Sto->R (Val×Sto)}(h:DefS P w K mg base k x n F):Def P w K mg base k x n (asD F):=by
 obtain⟨f,fd,ps,F1,hm,hk,hb⟩:=h.ex
 refine⟨f,fd,ps,F1.imp λvs H Q E q=>?_,hm,hk,hb⟩
 obtain⟨O,ds,hl,oo,rs,q⟩:=q
 refine⟨O,O,[],[],ds.map Val.d,hl,⟨rfl,λi j a h=>(by simp at h),oo,λ_ h=>h,λk a h=>(by simp at h)⟩,VRs.data rs,?_⟩
 unfold asD at q
 match hF:F (ds.map Val.d) [],q with
 | some (.ok (.d x,μ')),q =>
  refine λv O' α' H' T S r=>q v H' (λb o h=>T.keep b o (λk=>by simp) h) ?_
  exact Rep.to (To.less S.sub) r.dinv
end
section
theorem aR{i:Nat}(h:δ[i]?=some (some v)):aQ i δ μ=R.ret (v,μ):=by unfold aQ;rw[h]
theorem bS{f:DS->M D}{d:D}(h:f (view δ)=M.ret d):cf f δ μ=R.ret (.d d,μ):=by unfold cf;rw[h];rfl
theorem es_lend{f:DS->M D}{d:D}(h:f (viewL 0 μ δ)=M.ret d)(hf:bL d=true):rW f δ μ=R.ret (.d d,μ):=by
 unfold rW;rw[h];show(if bL d=true then _ else _)=_;rw[if_pos hf]
theorem ip:jh δ μ=R.ret ([],μ):=rfl
theorem cJ{xs:List Val}(h1:f δ μ=R.ret (v,μ1))(h2:fa δ μ1=R.ret (xs,μ')):cx f fa δ μ=R.ret (v::xs,μ'):=by unfold cx;rw[h1];show R.thn (fa δ μ1) _=_;rw[h2];rfl
theorem qW{F:List Val->Sto->R (Val×Sto)}{xs:List Val}(h1:fa δ μ=R.ret (xs,μ1))(h2:F xs μ1=R.ret (v,μ')):nJ F fa δ μ=R.ret (v,μ'):=by unfold nJ;rw[h1];show wA (F xs μ1)=_;rw[h2];rfl
theorem aB(h1:g n δ μ=R.ret (.nx δ' μ'))(h2:h n δ' μ'=r):bA g h n δ μ=r:=by unfold bA;rw[h1];exact h2
theorem qT(h1:g n δ μ=R.ret (.rt v μ')):bA g h n δ μ=R.ret (.rt v μ'):=by unfold bA;rw[h1];rfl
theorem bw{i:Nat}(h:f δ μ=R.ret (v,μ')):dk i f n δ μ=R.ret (.nx (δ.set i (some v)) μ'):=by unfold dk;rw[h];rfl
theorem vL(h:fn (view δ)=M.ret ds):pD i fn n δ μ=R.ret (.nx (δ.set i (some (.h μ.length))) (μ++[.lst (ds.map Val.d)])):=by unfold pD;rw[h];rfl
theorem vJ{i k j:Nat}{m:Int}{xs:List Val}(h1:f δ μ=R.ret (v,μ1))(h0:δ[i]?=some (some (.h k)))(h2:fi δ μ1=R.ret (.d (.int m),μ'))(h3:μ'[k]?=some (.lst xs))(h4:ixN xs.length m=some j):pB i fi f n δ μ=R.ret (.nx δ (μ'.set k (.lst (xs.set j v)))):=by
 unfold pB
 rw[h1]
 show(match δ[i]? with | some (some (.h k))=>_ | _=>_)=_
 rw[h0]
 show R.thn (fi δ μ1) _=_
 rw[h2,aV]
 dsimp only
 rw[h3]
 dsimp only
 rw[h4]
theorem qU(h:f δ μ=R.ret (v,μ')):rV f n δ μ=R.ret (.rt v μ'):=by unfold rV;rw[h];rfl
theorem vK{f:DS->M D}{d:D}(hc:(μ.take n).all (lJ n)=true)(h:f (viewL n μ δ)=M.ret d):nI f n δ μ=R.ret (.rt (.d d) (μ.take n)):=by unfold nI;rw[if_pos hc,h];rfl
theorem iH{b:Bool}(h1:fc δ μ=R.ret (b,μ1))(h2:(if b=true then g n δ μ1 else h n δ μ1)=r):sIf fc g h n δ μ=r:=by unfold sIf;rw[h1];exact h2
theorem eh{fb:DS->M Bool}{b:Bool}(h:fb (viewL 0 μ δ)=M.ret b):iC fb δ μ=R.ret (b,μ):=by unfold iC;rw[h];rfl
theorem es_for(h1:fi (view δ)=M.ret ds)(h2:iT t (g n) ds δ μ=r):v8 fi t g n δ μ=r:=by unfold v8;rw[h1];exact h2
theorem ml{t:D->aw->Option aw}{g:aw->Sto->R OutS}{d:D}{ds:List D}{δ1:aw}(h1:t d δ=some δ1)(h2:g δ1 μ=R.ret (.nx δ' μ'))(h3:iT t g ds δ' μ'=r):iT t g (d::ds) δ μ=r:=by
 unfold iT;rw[h1];show(g δ1 μ).thn _=_;rw[h2];exact h3
theorem sL{t:D->aw->Option aw}{g:aw->Sto->R OutS}{d:D}{ds:List D}{δ1:aw}(h1:t d δ=some δ1)(h2:g δ1 μ=R.ret (.rt v μ')):iT t g (d::ds) δ μ=R.ret (.rt v μ'):=by
 unfold iT;rw[h1];show(g δ1 μ).thn _=_;rw[h2];rfl
theorem oO(h:g μ.length (jf k xs) μ=R.ret (.rt v μ')):kY k g xs μ=R.ret (v,μ'):=by unfold kY;rw[h];rfl
end
end SL
namespace SL
open PyProof.Rows L2 DL
section
variable{K:ζ}{mg:Str->Option Value}{R0 O O':List Addr}{α α':List (Option Addr)}{H H':Hp}{μ μ':Sto}
theorem SR.adopt(S:SR K mg R0 O α H μ){l:Addr}{vs:List V}{ds:List D}(s:aG H H')(hl:H l=none)(hx:H' l=some (.lst vs))(r:Reps K [] H' vs ds)(hf:aN ds=true):SR K mg R0 (l::O) (α++[some l]) H' (μ++[.lst (ds.map Val.d)]):=by
 have T1:To O O H H':=To.same s
 have ne:∀(k:Nat) (a:Addr),α[k]?=some (some a)->a≠l:=λk a h z=>by
  obtain⟨o,h3,_⟩:=S.tracked h
  rw[z,hl] at h3;cases h3
 have hlO:l∉O:=λz=>by
  obtain⟨o,ho⟩:=(S.oo l z).some
  rw[hl] at ho;cases ho
 have T:To O (l::O) H H':=by
  refine⟨λb xs h=>aG.rd s h,λb xs n h=>⟨λz=>?_,aG.rd s h⟩,λb xs n h=>⟨λz=>?_,aG.rd s h⟩,λb C dx fs n h=>⟨λz=>?_,s _ _ h⟩⟩
  ·rcases Γ.mp z with z | z
   ·exact Rd.ne_new h hl z
   ·exact n z
  ·rcases Γ.mp z with z | z
   ·exact Rd.ne_new h hl z
   ·exact n z
  ·rcases Γ.mp z with z | z
   ·exact aJ h hl z
   ·exact n z
 have e:∀(k:Nat) (a:Addr),α[k]?=some (some a)->(α++[some l])[k]?=some (some a):=λk a h=>by
  rw[ξ (ς.mp h).1];exact h
 have cs:∀(k:Nat) (a:Addr),(α++[some l])[k]?=some (some a)->α[k]?=some (some a)\/(k=α.length/\a=l):=λk a h=>by
  by_cases hk:k<α.length
  ·rw[ξ hk] at h;exact .inl h
  ·rw[χ (by omega)] at h
   have h0:k-α.length=0:=by
    have:=(ς.mp h).1
    simp at this
    omega
   rw[h0] at h
   simp at h
   exact .inr ⟨by omega,h.symm⟩
 refine⟨by rw[η,η,S.len];rfl,λi j a h1 h2=>?_,λb hb=>?_,λb hb=>ι _ (S.sub b hb),λk a h=>?_⟩
 ·rcases cs i a h1 with h1 | ⟨h1,z⟩<;>rcases cs j a h2 with h2 | ⟨h2,z2⟩
  ·exact S.nd i j a h1 h2
  ·exact absurd z2 (ne i a h1)
  ·exact absurd z (ne j a h2)
  ·omega
 ·rcases Γ.mp hb with rfl | hb
  ·exact .inl ⟨vs,hx⟩
  ·exact(S.oo b hb).same s
 ·rcases cs k a h with h | ⟨rfl,rfl⟩
  ·obtain⟨ob,h1,h2⟩:=S.at_ k a h
   obtain⟨o,h3,_⟩:=S.tracked h
   exact⟨ob,by rw[ξ (ς.mp h1).1];exact h1,h2.to T e (λz=>ι _ z) (by rw[h3];exact s a o h3)⟩
  ·refine⟨.lst (ds.map Val.d),by rw[S.len,χ (υ _),X0];rfl,ο,λz=>?_,vs,hx,VRs.data (r.flat hf)⟩
   exact hlO (S.sub a z)
theorem Go.adopt(s:aG H H')(hl:H l=none):Go O α H (l::O) (α++[some l]) H':=by
 refine⟨λb u _ h=>s b u h,λk a h=>by rw[ξ (ς.mp h).1];exact h,by rw[η];omega,λk b h=>?_,λb hb=>?_,λb h=>pM s h⟩
 ·by_cases hk:k<α.length
  ·rw[ξ hk] at h;exact .inl h
  ·rw[χ (by omega)] at h
   have h0:k-α.length=0:=by
    have:=(ς.mp h).1
    simp at this
    omega
   rw[h0] at h
   simp at h
   exact .inr (by rw[<-h];exact hl)
 ·rcases Γ.mp hb with rfl | hb
  ·exact .inr hl
  ·exact .inl hb
theorem SR.at_new(S:SR K mg R0 O α H μ){l:Addr}:(α++[some l])[μ.length]?=some (some l):=by
 rw[<-S.len,χ (υ _),X0];rfl
theorem VRs.atI{vs:List V}{xs:List Val}{i:Int}{x:Val}(r:VRs K O α H vs xs)(h:L2.atI xs i=some x):∃v,L2.atI vs i=some v/\VR K O α H v x:=by
 unfold L2.atI at h ⊢
 rw[r.length]
 cases e:ixN xs.length i with
 | none=>rw[e] at h;cases h
 | some j =>
  rw[e] at h
  exact r.get h
end
section
variable{X:Cx}{G:XD->Hp->Prop}{a b c e ix o:Expr}{es:List Expr}{pos pos' tpos apos cpos:Pos}{f fi fo:aw->Sto->R (Val×Sto)}{fa:aw->Sto->R (List Val×Sto)}
noncomputable def v7(fa:aw->Sto->R (List Val×Sto)):aw->Sto->R (Val×Sto):=λδ μ=>(fa δ μ).thn λr=>if aL r.1.length=true then R.ret (.h r.2.length,r.2++[.lst r.1]) else none
theorem sx_lst(h:SA X G es fa):SX X G (.List es pos) (v7 fa):=by
 obtain⟨_,t,p,h⟩:=h
 refine⟨_,tV p,λA δ μ O α σ H Q E k=>?_⟩
 refine h A δ μ O α σ H _ E (au (ar k) λr z vs O1 α1 H1 T1 S1 rs=>?_)
 by_cases hz:aL r.1.length=true
 ·rw[if_pos hz] at z
  exact⟨by rw[rs.length];exact bz hz,λp hp=>z _ (p::O1) (α1++[some p]) _ (T1.trans (Go.newL hp)) (S1.newL hp rs) (.h S1.at_new)⟩
 ·rw[if_neg hz] at z;exact z.elim
noncomputable def sIx(fo fi:aw->Sto->R (Val×Sto)):aw->Sto->R (Val×Sto):=λδ μ=>(fo δ μ).thn λr=>(fi δ r.2).thn λq=>match q.1 with
 | .d (.int i)=>match r.1 with
  | .h k=>match q.2[k]? with
   | some (.lst xs)=>match L2.atI xs i with
    | some x=>R.ret (x,q.2)
    | none=>none
   | _=>none
  | .t xs=>match L2.atI xs i with
   | some x=>R.ret (x,q.2)
   | none=>none
  | .d (.tuple ds)=>match L2.atI ds i with
   | some d=>R.ret (.d d,q.2)
   | none=>none
  | .d (.list ds)=>match L2.atI ds i with
   | some d=>R.ret (.d d,q.2)
   | none=>none
  | _=>none
 | _=>none
theorem sx_ix(ha:SX X G a fo)(hb:SX X G b fi)(hs:rH b):SX X G (.Subscript a b pos) (sIx fo fi):=by
 obtain⟨ta,pa,ha⟩:=ha
 obtain⟨tb,pb,hb⟩:=hb
 refine⟨_,pe_ix ix_seq pa pb hs,λA δ μ O α σ H Q E k=>?_⟩
 refine ha A δ μ O α σ H _ E (au (ar k) λr z v O1 α1 H1 T1 S1 r1=>?_)
 refine hb A δ r.2 O1 α1 σ H1 _ (E.go T1 S1) (au (bf (ar z) λx μ h=>Er.go T1 h) λq y w O2 α2 H2 T2 S2 r2=>?_)
 have T:=T1.trans T2
 obtain⟨q1,q2⟩:=q
 obtain⟨p1,p2⟩:=r
 match q1,y,r2 with
 | .d (.int i),y,r2 =>
  have hw:=Rep.int_inv r2.dinv
  subst hw
  match p1,y,r1 with
  | .h k,y,r1 =>
   obtain⟨l,hl,rfl⟩:=r1.hinv
   have hl2:=T2.ex _ _ hl
   obtain⟨ob,g1,g2⟩:=S2.at_ k l hl2
   dsimp only at y
   rw[g1] at y
   match ob,y,g2 with
   | .lst xs,y,g2 =>
    obtain⟨_,_,vs,g3,g4⟩:=g2
    dsimp only at y
    cases hx:L2.atI xs i with
    | none=>rw[hx] at y;exact y.elim
    | some x =>
     rw[hx] at y
     obtain⟨u,hu,ru⟩:=g4.atI hx
     exact .inl ⟨l,vs,i,u,rfl,rfl,.inl (.inl g3),hu,y u O2 α2 H2 T S2 ru⟩
  | .t xs,y,r1 =>
   obtain⟨p,vs,rfl,h1,rs⟩:=(r1.to (T2.to S1) T2.ex).tinv
   dsimp only at y
   cases hx:L2.atI xs i with
   | none=>rw[hx] at y;exact y.elim
   | some x =>
    rw[hx] at y
    obtain⟨u,hu,ru⟩:=rs.atI hx
    exact .inr (.inl ⟨p,vs,i,u,rfl,rfl,h1,hu,y u O2 α2 H2 T S2 ru⟩)
  | .d (.tuple ds),y,r1 =>
   have rx:=(r1.to (T2.to S1) T2.ex).dinv
   dsimp only at y
   cases hx:L2.atI ds i with
   | none=>rw[hx] at y;exact y.elim
   | some x =>
    rw[hx] at y
    obtain⟨p,vs,rfl,h1,r3⟩:=rx.tup_inv
    obtain⟨u,hu,ru⟩:=r3.atI hx
    exact .inr (.inl ⟨p,vs,i,u,rfl,rfl,h1,hu,y u O2 α2 H2 T S2 (.d ru)⟩)
  | .d (.list ds),y,r1 =>
   have rx:=(r1.to (T2.to S1) T2.ex).dinv
   dsimp only at y
   cases hx:L2.atI ds i with
   | none=>rw[hx] at y;exact y.elim
   | some x =>
    rw[hx] at y
    obtain⟨p,vs,rfl,h1,r3⟩:=rx.lst_inv
    obtain⟨u,hu,ru⟩:=r3.atI hx
    exact .inl ⟨p,vs,i,u,rfl,rfl,h1,hu,y u O2 α2 H2 T S2 (.d ru)⟩
noncomputable def v9(fo f:aw->Sto->R (Val×Sto)):aw->Sto->R (Val×Sto):=λδ μ=>(fo δ μ).thn λr=>match r.1 with
 | .h k=>match r.2[k]? with
  | some (.lst _)=>(f δ r.2).thn λq=>match q.2[k]? with
   | some (.lst xs)=>if aL (xs.length+1)=true then R.ret (.d .none,q.2.set k (.lst (xs++[q.1]))) else none
   | _=>none
  | _=>none
 | _=>none
theorem sx_app(ho:SX X G o fo)(he:SX X G e f)
  (hst:starEach [e] X.env=(false,eval e X.env)::starEach [] X.env:=by rfl)
  (hbase:attributeBase o "append" X.env (eval o X.env)=eval o X.env:=by rfl)
  (hfew:((backTo cpos (starEach [e] X.env)).all (λx=>!x.1)&&(backToKw cpos (keywordEach [] X.env)).all (λx=>x.1.isSome)
   && decide ([e].length+([]:List Keyword).length+(if ([]:List Keyword).isEmpty then 0 else 1)<30))=true:=by rfl)
  (hline:(apos.endLine==cpos.line)=true:=by rfl) (hplain:(backTo cpos (starEach [] X.env)).any (·.1)=false:=by rfl) :
  SX X G (.Call (.Attribute o "append" apos) [e] [] cpos) (v9 fo f):=by
 obtain⟨t,p,ho⟩:=ho
 obtain⟨u,q,he⟩:=he
 refine⟨_,vc PySem.F.plainAttrs_list PySem.F.slot_list_append PySem.F.type_list_append kr p (gG q jS hst) hbase hfew hline hst hplain,λA δ μ O α σ H Q E k=>?_⟩
 refine ho A δ μ O α σ H _ E (au (ar k) λr z v O1 α1 H1 T1 S1 r1=>?_)
 obtain⟨p1,p2⟩:=r
 match p1,z,r1 with
 | .h k,z,r1 =>
  obtain⟨l,hl,rfl⟩:=r1.hinv
  obtain⟨ob,g1,g2⟩:=S1.at_ k l hl
  dsimp only at z
  rw[g1] at z
  match ob,z,g2 with
  | .lst xs0,z,g2 =>
  refine⟨.inl ⟨rfl,_,.inl (.inl g2.2.2.choose_spec.1)⟩,?_⟩
  have z:okR _ ((f δ p2).thn _) _:=z
  refine he A δ p2 O1 α1 σ H1 _ (E.go T1 S1) (au (bf (ar z) λx μ h=>Er.go T1 h) λq y w O2 α2 H2 T2 S2 r2=>?_)
  obtain⟨q1,q2⟩:=q
  have hl2:=T2.ex _ _ hl
  obtain⟨ob,g1,g2⟩:=S2.at_ k l hl2
  dsimp only at y
  rw[g1] at y
  match ob,y,g2,g1 with
  | .lst xs,y,g2,g1 =>
   obtain⟨_,_,vs,g3,g4⟩:=g2
   dsimp only at y
   by_cases hz:aL (xs.length+1)=true
   ·rw[if_pos hz] at y
    exact⟨l,vs,w,rfl,rfl,g3,by rw[g4.length];exact rS hz,y .non O2 α2 _ (T1.trans (T2.trans (Go.setL hl2))) (S2.setL hl2 g1 (g4.append (.cons r2 .nil))) (.d .non)⟩
   ·rw[if_neg hz] at y;exact y.elim
end
end SL
namespace SL
open PyProof.Rows L2 DL
section
open Classical in
noncomputable def forT(i k:Nat)(xs:List Val)(g:aw->Sto->R OutS):List Val->aw->Sto->R OutS
 | [],δ,μ=>if μ[k]?=some (.lst xs) then R.ret (.nx δ μ) else none
 | v::vs,δ,μ=>if μ[k]?=some (.lst xs) then (g (δ.set i (some v)) μ).thn λo=>match o with
   | .nx δ' μ'=>forT i k xs g vs δ' μ'
   | .ct δ' μ'=>forT i k xs g vs δ' μ'
   | .bk δ' μ'=>R.ret (.nx δ' μ')
   | .rt v μ'=>R.ret (.rt v μ') else none
noncomputable def jN(fo fi f:aw->Sto->R (Val×Sto)):SG:=λ_ δ μ=>(f δ μ).thn λr=>(fo δ r.2).thn λp=>match p.1 with
 | .h k=>(fi δ p.2).thn λq=>match q.1,q.2[k]? with
  | .d (.int n),some (.lst xs)=>match ixN xs.length n with
   | some j=>R.ret (.nx δ (q.2.set k (.lst (xs.set j r.1))))
   | none=>none
  | _,_=>none
 | _=>none
theorem ss_setX(ho:SX X G a fo)(hi:SX X G ix fi)(he:SX X G e f)
  (ha:∀v,assign (.Subscript a ix tpos) X.env v=(do
   let ov <- holding [v] (eval a X.env)
   let iv <- holding [v,ov] (eval ix X.env)
   standAt tpos
   holding [v,ov,iv] (setItem ov iv v)
   release [v,ov,iv] []):=by intro _;rfl)
  (hs:swapsWithSole [.Subscript a ix tpos] e pos.line X.env=pure false:=by rfl) (hw:swappedStores [.Subscript a ix tpos] e X.env=pure none:=by rfl)
  (h1:(assignEach [.Subscript a ix tpos] X.env).map (·.2)=[assign (.Subscript a ix tpos) X.env]:=by rfl):SS X G (.Assign [.Subscript a ix tpos] e pos) (jN fo fi f):=by
 obtain⟨t,p,he⟩:=he
 obtain⟨u,q,hi⟩:=hi
 obtain⟨w,pw,ho⟩:=ho
 refine⟨_,qy p (tU pw q jM ha) hs hw h1,λA δ μ O α σ H Dn E k=>?_⟩
 refine he A δ μ O α σ H _ E (au (bf (ar k) λx μ h=>Er.go E.st h) λr z v O1 α1 H1 T1 S1 r1=>?_)
 have E1:=E.go T1 S1
 refine ho A δ r.2 O1 α1 σ H1 _ E1 (au (bf (ar z) λx μ h=>Er.go E1.st h) λpp y ov O2 α2 H2 T2 S2 r2=>?_)
 have E2:=E1.go T2 S2
 obtain⟨pv,pμ⟩:=pp
 match pv,y,r2 with
 | .h kk,y,r2 =>
  obtain⟨l,q3,rfl⟩:=r2.hinv
  refine hi A δ pμ O2 α2 σ H2 _ E2 (au (bf (ar y) λx μ h=>Er.go E2.st h) λqq y kv O3 α3 H3 T3 S3 r3=>?_)
  split at y
  ·rename_i n xs hq hk
   rw[hq] at r3
   have hkv:=Rep.int_inv r3.dinv
   subst hkv
   have q3':=T3.ex _ _ q3
   obtain⟨ob,g1,g2⟩:=S3.at_ kk l q3'
   rw[hk] at g1
   cases g1
   obtain⟨g3,g4,vs,g5,g6⟩:=g2
   cases hj:ixN xs.length n with
   | none=>rw[hj] at y;exact y.elim
   | some j =>
    rw[hj] at y
    refine⟨l,vs,n,j,rfl,rfl,g5,by rw[g6.length];exact hj,?_⟩
    have r1':=(r1.to (T2.to S1) T2.ex).to (T3.to S2) T3.ex
    exact y O3 α3 σ _ ((E2.go T3 S3).go (Go.setL q3') (S3.setL q3' hk (g6.set r1' j))) (T1.trans (T2.trans (T3.trans (Go.setL q3'))))
  ·exact y.elim
theorem es_setX(h1:f δ μ=R.ret (v,μ1))(h2:fo δ μ1=R.ret (.h k,μ2))(h3:fi δ μ2=R.ret (.d (.int i),μ3))(h4:μ3[k]?=some (.lst xs))(h5:ixN xs.length i=some j):jN fo fi f n δ μ=R.ret (.nx δ (μ3.set k (.lst (xs.set j v)))):=by
 unfold jN
 rw[h1,aV,h2,aV]
 dsimp only
 rw[h3,aV]
 dsimp only
 rw[h4]
 dsimp only
 rw[h5]
end
end SL
namespace SL
open PyProof.Rows L2 DL
section
variable{X:Cx}{G:XD->Hp->Prop}{pos:Pos}
noncomputable def nD(K:ζ)(f:DS->M (List D)):TE:=λσ H Q=>∃Hr δ O,Ev K Hr O H σ δ/\ok (GS (λ_ _=>False) Hr) (f δ) (λds=>∀l xs H1,aG H H1->H1 l=none->Reps K O H1 xs ds->Q (.ref l) (upd H1 l (.lst xs)))
theorem PDN.can(h:PDN X (λ_ _=>False) e f):PE X e (nD X.K f):=by
 obtain⟨t,p,h⟩:=h
 intro pins s σ H Q I hw
 obtain⟨Hr,δ,O,E,k⟩:=hw
 exact p pins s σ H Q I (h δ O σ H Q E k)
theorem vk(q:okR g (ofM (r.thn h) μ) k):okR g (ofM r μ) (λa=>okR g (ofM (h a) μ) k):=by
 match r,q with
 | some (.ok a),q=>exact q
 | some (.error x),q=>exact q
noncomputable def oR(f:DS->M (List D)):List D->M (List (List D))
 | []=>M.ret []
 | d::ds=>(nX f [.vl d]).thn λr=>if aN r=true then (oR f ds).thn λrest=>M.ret (r::rest) else none
noncomputable def et(k:Nat):List (List D)->List Val->Sto->Sto
 | [],_,μ=>μ
 | r::rs,hs,μ=>et k rs (hs++[Val.h μ.length]) ((μ++[Ob.lst (r.map Val.d)]).set k (Ob.lst (hs++[Val.h μ.length])))
noncomputable def lR(fi:DS->M (List D))(f:DS->M (List D)):aw->Sto->R (Val×Sto):=λδ μ=>(ofM (fi (viewL 0 μ δ)) μ).thn λds=>if aL ds.length=true then (ofM (oR f ds) μ).thn λrows=>R.ret (.h μ.length,et μ.length rows [] (μ++[.lst []])) else none
theorem wY{wi:TI}{fi:DS->M (List D)}{f:DS->M (List D)}(hi:∀{Hr:Hp} (δ:DS) (O:List Addr) (σ:DL.St) (H:Hp) (R:It->Hp->Prop),Ev X.K Hr O H σ δ->ok (GS G Hr) (fi δ) (λds=>∀J H1,aG H H1->Yl X.K J O H1 ds->R J H1)->wi σ H R)
  (A:An) (δ:aw) (μ:Sto) (O:List Addr) (α:List (Option Addr)) (σ:L2.St) (H:Hp) (Q:VK) (E:SEv X.K X.mg A O α H σ δ μ) (k:okR (Er X.K X.mg G A.R0 O α H) (lR fi f δ μ) (λr=>∀v O' α' H',Go O α H O' α' H'->SR X.K X.mg A.R0 O' α' H' r.2->VR X.K O' α' H' v r.1->Q v H')) :
  qj 1 [] wi (gD X.K (tgN 0)) (cD X.K cH) (nD X.K f) σ H Q:=by
 have hv:=E.viewL (n:=0) (O':=A.R0) E.sr.sub λk a xs ha _ hx=>by
  obtain⟨ob,h1,h2⟩:=E.sr.at_ k a ha
  rw[hx] at h1
  cases h1
  exact h2.2.1
 refine hi (viewL 0 μ δ) A.R0 σ H _ hv (ah (eL E.sr (ar k)) λds z J H1 s1 Y=>?_)
 by_cases hsz:aL ds.length=true
 case neg =>
  rw[if_neg hsz] at z
  exact z.elim
 rw[if_pos hsz] at z
 intro l hl
 have E1:=E.same s1
 have hv1:=hv.same s1
 have S0:=E1.sr.newL hl (VRs.nil (K:=X.K) (O:=O) (α:=α) (H:=H1))
 have z:=ar z
 refine⟨λi m τ xs H2=>m=ds.length-i/\i<=ds.length/\xs.length<=i/\H2 l=some (.lst xs)/\∃δc hs μ2 O2 α2,EC X.K A.R0 H1 l H2 τ δc/\δc.length=1/\SR X.K X.mg A.R0 O2 α2 H2 μ2/\Go O α H O2 α2 H2/\α2[μ.length]?=some (some l)/\μ2[μ.length]?=some (.lst hs) /\
  okR (Er X.K X.mg G A.R0 O α H) (ofM (oR f (ds.drop i)) μ) (λrows=>∀v O' α' H',Go O α H O' α' H'->SR X.K X.mg A.R0 O' α' H' (et μ.length rows hs μ2)->VR X.K O' α' H' v (.h μ.length)->Q v H'),?_,?_⟩
 ·refine⟨_,rfl,X8 _,υ _,aK,_,[],_,_,_,mV (fr:=[]) hv1 1 hl,rfl,S0,(Go.same s1).trans (Go.newL hl),E.sr.at_new,by simp,?_⟩
  exact au z λrows q v O' α' H' T S r=>q v O' α' H' T S r
 rintro i m τ xs H2 ⟨rfl,hi',hx,h2,δc,hs2,μ2,O2,α2,Ec,hδ,S2,T2,a2,m2,kc⟩
 have kp:Kp l H1 H2:=λb o hb e=>Ec.keep b o hb e
 refine⟨h2,?_⟩
 have T:To A.R0 (l::A.R0) H1 H2:=kp.to hl
 by_cases hlt:i<ds.length
 ·right
  have hd:ds[i]?=some ds[i]:=ψ hlt
  obtain⟨go,yl⟩:=Y.step (l::A.R0) H2 T i _ hd
  refine⟨go,Nat.lt_of_le_of_lt hx (Z2 hlt (bz hsz)),λy H3 hy=>?_⟩
  obtain⟨s3,rx⟩:=yl y H3 hy
  rw[iu hd] at kc
  obtain⟨s0,rfl⟩:∃s0,δc=[s0]:=by
   match δc,hδ with
   | [s0],_=>exact⟨s0,rfl⟩
  have kc:=vk (show okR _ (ofM ((nX f [.vl ds[i]]).thn _) μ) _ from kc)
  refine⟨_,_,_,_,[s0],[.vl ds[i]],ds[i],l::A.R0,Ec.same s3,rx,rfl,λτ' H4 E4 s4=>?_⟩
  refine⟨_,[.vl ds[i]],l::A.R0,E4.ev,λH5 s5=>?_⟩
  dsimp only
  rw[if_pos rfl]
  have E5:=E4.same s5
  have s25:=(s3.trans s4).trans s5
  refine⟨_,[.vl ds[i]],l::A.R0,E5.ev,?_⟩
  cases hf1:f [.vl ds[i]] with
  | none =>
   have:nX f [.vl ds[i]]=none:=by unfold nX;rw[hf1];rfl
   rw[this] at kc
   exact kc.elim
  | some rr =>
   cases rr with
   | error y =>
    have:nX f [.vl ds[i]]=none:=by unfold nX;rw[hf1];rfl
    rw[this] at kc
    exact kc.elim
   | ok row =>
    have en:nX f [.vl ds[i]]=some (.ok row):=by unfold nX;rw[hf1];rfl
    rw[en] at kc
    have kc:okR (Er X.K X.mg G A.R0 O α H) (ofM (if aN row=true then (oR f (ds.drop (i+1))).thn λrest=>M.ret (row::rest) else none) μ) _:=kc
    by_cases hf:aN row=true
    case neg =>
     rw[if_neg hf] at kc
     exact kc.elim
    rw[if_pos hf] at kc
    have kc:=vk kc
    intro l' xs' H6 s6 hl' rs
    have h6:H6 l=some (.lst xs):=s6 _ _ (s25 _ _ h2)
    have hne:l≠l':=λz=>by rw[z,hl'] at h6;cases h6
    have h7:(upd H6 l' (.lst xs')) l=some (.lst xs):=by rw[upd_ne hne];exact h6
    have S6:=S2.same (s25.trans s6)
    have rs':VRs X.K O2 α2 H6 xs' (row.map Val.d):=VRs.data (rs.flat hf)
    have S7:=S6.newL hl' rs'
    have a7:(α2++[some l'])[μ.length]?=some (some l):=by
     rw[ξ (ς.mp a2).1]
     exact a2
    have m7:(μ2++[Ob.lst (row.map Val.d)])[μ.length]?=some (.lst hs2):=by
     rw[ξ (ς.mp m2).1]
     exact m2
    obtain⟨ob,g1,g2⟩:=S7.at_ μ.length l a7
    rw[m7] at g1
    cases g1
    obtain⟨g3,g4,vs,g5,g6⟩:=g2
    rw[h7] at g5
    cases g5
    have rn:=g6.append (VRs.cons (VR.h (H:=upd H6 l' (.lst xs')) S6.at_new) VRs.nil)
    refine⟨h7,ds.length-(i+1),by omega,rfl,hlt,by rw[η];show xs.length+1<=i+1;omega,aK,[.vl ds[i]],_,_,_,_,EC.put ((E5.same s6).same (ba hl')) h7,rfl,S7.setL a7 m7 rn,((T2.trans (Go.same (s25.trans s6))).trans (Go.newL hl')).trans (Go.setL a7),a7,by rw[List.getElem?_set_self (by rw[η];have:=(ς.mp m2).1;omega)],?_⟩
    exact au kc λrest q v O' α' H' T S r=>q v O' α' H' T S r
 ·left
  have e:i=ds.length:=by omega
  subst e
  rw[V6] at kc
  exact⟨Y.stop (l::A.R0) H2 T,kc (.ref l) O2 α2 H2 T2 S2 (.h a2)⟩
theorem xw(hc:X.calm=true)
  (hkind:scope.kind=.function) (hcell:∀y∈scope.names,y.2≠.cell) (hclos:closureFor scope X.env=pure cl) (hsub:∀y c,cl.lookup y=some c->X.env.cells.lookup y=some c)
  (hhas:∀y∈(relabel scope X.env).names,(y.2=.cell\/y.2=.free)->∃c,cl.lookup y.1=some c) (hnames:∀y∈scope.names,y.2=.local->scope.names.lookup y.1=some .local)
  (hi:PDI X G tg iter fi) (hg:∀C s3 H3 fp,PDG (aH X scope cl [] [x] C s3 H3 fp) tg (tgN 0)) (hcs:∀C s3 H3 fp,o6 (aH X scope cl [] [x] C s3 H3 fp) [] cH) (he:∀C s3 H3 fp,PDN (aH X scope cl [] [x] C s3 H3 fp) (λ_ _=>False) elt f) (hs:∀x,foldedSetIterable iter X.env x=pure x:=by intro _;rfl) :
  SX X G (.ListComp elt [⟨tg,iter,[],0⟩] scope pos) (lR fi f):=by
 obtain⟨wi,pi,hi⟩:=hi
 refine⟨_,nV (fr:=[]) (tn:=[x]) (g:=gD X.K (tgN 0)) (tc:=cD X.K cH) (te:=nD X.K f) hc hkind hcell hclos hsub hhas (λp hp=>nomatch hp) hnames pi (λC s3 H3 fp=>(hg C s3 H3 fp).can) (λC s3 H3 fp=>(hcs C s3 H3 fp).can) (λC s3 H3 fp=>PDN.can (he C s3 H3 fp)) hs,λA δ μ O α σ H Q E k=>wY hi A δ μ O α σ H Q E k⟩
open Classical in
noncomputable def dv(k:Nat)(xs:List Val)(t:D->aw->Option aw)(g:aw->Sto->R OutS):List D->aw->Sto->R OutS
 | [],δ,μ=>if μ[k]?=some (.lst xs) then R.ret (.nx δ μ) else none
 | d::ds,δ,μ=>if μ[k]?=some (.lst xs) then (match t d δ with
  | none=>none
  | some δ1=>(g δ1 μ).thn λo=>match o with
   | .nx δ' μ'=>dv k xs t g ds δ' μ'
   | .ct δ' μ'=>dv k xs t g ds δ' μ'
   | .bk δ' μ'=>R.ret (.nx δ' μ')
   | .rt v μ'=>R.ret (.rt v μ')) else none
noncomputable def iO(en:Bool)(t:D->aw->Option aw)(f:aw->Sto->R (Val×Sto))(g:SG):SG:=λn δ μ=>(f δ μ).thn λr=>match r.1 with
 | .h k=>match r.2[k]? with
  | some (.lst xs)=>match fU xs with
   | some ds=>dv k xs t (g n) (if en then b5 0 ds else ds) δ r.2
   | none=>none
  | _=>none
 | _=>none
theorem xB(hp:PassesOwn (model X.prog X.w) X.A X.env X.xe)(hc:X.calm=true)(hi:SX X G iter f)(hg:SGT X tg t)(hb:SSs X G body g)
  (hs:∀x,foldedSetIterable iter X.env x=pure x:=by intro _;rfl):SS X G (.For tg iter body [] pos) (iO false t f g):=by
 obtain⟨ti,p,hi⟩:=hi
 obtain⟨tgt,pt,hg⟩:=hg
 obtain⟨tb,pb,hb⟩:=hb
 refine⟨_,nS hp hc (pi_list p) pt pb hs,λA δ μ O α σ H Dn E k=>?_⟩
 refine hi A δ μ O α σ H _ E (au (bf (ar k) λx μ h=>Er.go E.st h) λr z v O1 α1 H1 T1 S1 r1=>?_)
 have E1:=E.go T1 S1
 obtain⟨rv,rμ⟩:=r
 match rv,z,r1 with
 | .h kk,z,r1 =>
  obtain⟨l,hl,rfl⟩:=r1.hinv
  dsimp only at z
  obtain⟨ob,g1,g2⟩:=S1.at_ kk l hl
  rw[g1] at z
  match ob,z,g1,g2 with
  | .lst xs,z,g1,g2 =>
   dsimp only at z
   cases hdo:fU xs with
   | none=>rw[hdo] at z;exact z.elim
   | some ds =>
    rw[hdo] at z
    have hxs:=iI hdo
    subst hxs
    dsimp only at z
    rw[if_neg ω] at z
    obtain⟨g3,g4,vs,g5,g6⟩:=g2
    refine⟨l,rfl,⟨vs,.inl (.inl g5)⟩,?_⟩
    refine⟨λi' m σ2 H2=>m=ds.length-i'/\i'<=ds.length/\∃δ2 μ2 O2 α2,SEv X.K X.mg A O2 α2 H2 σ2 δ2 μ2/\Go O α H O2 α2 H2/\α2[kk]?=some (some l)/\okR (Er X.K X.mg G A.R0 A.O A.α A.H) (dv kk (ds.map Val.d) t (g A.α.length) (ds.drop i') δ2 μ2) (kM X.K X.mg A O α H Dn),⟨_,rfl,X8 _,δ,rμ,O1,α1,E1,T1,hl,z⟩,?_⟩
    rintro i' m σ2 H2 ⟨rfl,hi',δ2,μ2,O2,α2,E2,T,hl2,k2⟩
    by_cases hlt:i'<ds.length
    ·right
     have hd:(ds.map Val.d)[i']?=some (.d ds[i']):=by rw[Λ,ψ hlt];rfl
     have hdrop:ds.drop i'=ds[i']::ds.drop (i'+1):=List.drop_eq_getElem_cons hlt
     rw[hdrop] at k2
     unfold dv at k2
     by_cases hm:μ2[kk]?=some (.lst (ds.map Val.d))
     ·rw[if_pos hm] at k2
      obtain⟨ob2,u1,u2⟩:=E2.sr.at_ kk l hl2
      rw[hm] at u1
      cases u1
      obtain⟨u3,u4,vs2,u5,u6⟩:=u2
      obtain⟨x,hx,rx⟩:=u6.get hd
      refine⟨⟨vs2,x,.inl (.inl u5),hx⟩,λσ' H'=>∃δ2 μ2 O2 α2,SEv X.K X.mg A O2 α2 H' σ' δ2 μ2/\Go O α H O2 α2 H'/\α2[kk]?=some (some l)/\okR (Er X.K X.mg G A.R0 A.O A.α A.H) (dv kk (ds.map Val.d) t (g A.α.length) (ds.drop (i'+1)) δ2 μ2) (kM X.K X.mg A O α H Dn),λσ' H' h=>⟨_,by omega,rfl,hlt,h⟩,λy H3 hy=>?_⟩
      obtain⟨rfl,hy⟩:=hy
      have ey:=hy vs2 (.inl (.inl u5))
      rw[hx] at ey
      cases ey
      cases h3:t ds[i'] δ2 with
      | none=>rw[h3] at k2;exact k2.elim
      | some δ3 =>
       rw[h3] at k2
       refine hg A δ2 δ3 ds[i'] _ O2 α2 σ2 μ2 _ _ E2 rx.dinv h3 λσ4 E4=>?_
       refine hb A δ3 μ2 O2 α2 σ4 _ _ E4 (au (ar k2) λo z=>?_)
       cases o with
       | nx δ5 μ5=>exact λO5 α5 σ5 H5 E5 T5=>⟨δ5,μ5,O5,α5,E5,T.trans T5,T5.ex _ _ hl2,z⟩
       | ct δ5 μ5=>exact λO5 α5 σ5 H5 E5 T5=>⟨δ5,μ5,O5,α5,E5,T.trans T5,T5.ex _ _ hl2,z⟩
       | bk δ5 μ5=>exact λO5 α5 σ5 H5 E5 T5=>z O5 α5 σ5 H5 E5 (T.trans T5)
       | rt v μ5=>exact z
     ·rw[if_neg hm] at k2;exact k2.elim
    ·left
     have e:i'=ds.length:=by omega
     subst e
     rw[V6] at k2
     unfold dv at k2
     by_cases hm:μ2[kk]?=some (.lst (ds.map Val.d))
     ·rw[if_pos hm] at k2
      obtain⟨ob2,u1,u2⟩:=E2.sr.at_ kk l hl2
      rw[hm] at u1
      cases u1
      obtain⟨u3,u4,vs2,u5,u6⟩:=u2
      exact⟨⟨vs2,.inl (.inl u5),by rw[u6.length,θ];exact υ _⟩,k2 O2 α2 σ2 H2 E2 T⟩
     ·rw[if_neg hm] at k2;exact k2.elim
theorem xA(hp:PassesOwn (model X.prog X.w) X.A X.env X.xe)(hc:X.calm=true)(hgl:Gl X "enumerate")(hmg:X.mg "enumerate" = none)(hi:SX X G a f)(hg:SGT X (.Tuple elts x1 tpos) t)(hb:SSs X G body g)
  (hs:∀x,foldedSetIterable (.Call (.Name "enumerate" p) [a] [] ipos) X.env x=pure x:=by intro _;rfl) (hst:starEach [a] X.env=(false,eval a X.env)::starEach [] X.env:=by rfl) (hst1:starEach [a] X.env=[(false,eval a X.env)]:=by rfl):SS X G (.For (.Tuple elts x1 tpos) (.Call (.Name "enumerate" p) [a] [] ipos) body [] pos) (iO true t f g):=by
 obtain⟨ti,pe,hi⟩:=hi
 obtain⟨tgt,pt,hg⟩:=hg
 obtain⟨tb,pb,hb⟩:=hb
 refine⟨_,nS hp hc (u8 hgl hmg (gG pe jS hst) hst1) pt pb hs,λA δ μ O α σ H Dn E k=>?_⟩
 refine hi A δ μ O α σ H _ E (au (bf (ar k) λx μ h=>Er.go E.st h) λr z v O1 α1 H1 T1 S1 r1=>?_)
 have E1:=E.go T1 S1
 obtain⟨rv,rμ⟩:=r
 match rv,z,r1 with
 | .h kk,z,r1 =>
  obtain⟨l,hl,rfl⟩:=r1.hinv
  dsimp only at z
  obtain⟨ob,g1,g2⟩:=S1.at_ kk l hl
  rw[g1] at z
  match ob,z,g1,g2 with
  | .lst xs,z,g1,g2 =>
   dsimp only at z
   cases hdo:fU xs with
   | none=>rw[hdo] at z;exact z.elim
   | some ds =>
    rw[hdo] at z
    have hxs:=iI hdo
    subst hxs
    dsimp only at z
    rw[if_pos rfl] at z
    obtain⟨g3,g4,vs,g5,g6⟩:=g2
    have hel:(b5 0 ds).length=ds.length:=mr 0 ds
    refine⟨l,rfl,⟨vs,.inl (.inl g5)⟩,?_⟩
    refine⟨λi' m σ2 H2=>m=ds.length-i'/\i'<=ds.length/\∃δ2 μ2 O2 α2,SEv X.K X.mg A O2 α2 H2 σ2 δ2 μ2/\Go O α H O2 α2 H2/\α2[kk]?=some (some l)/\okR (Er X.K X.mg G A.R0 A.O A.α A.H) (dv kk (ds.map Val.d) t (g A.α.length) ((b5 0 ds).drop i') δ2 μ2) (kM X.K X.mg A O α H Dn),⟨_,rfl,X8 _,δ,rμ,O1,α1,E1,T1,hl,z⟩,?_⟩
    rintro i' m σ2 H2 ⟨rfl,hi',δ2,μ2,O2,α2,E2,T,hl2,k2⟩
    by_cases hlt:i'<ds.length
    ·right
     have hd:(ds.map Val.d)[i']?=some (.d ds[i']):=by rw[Λ,ψ hlt];rfl
     have hlt2:i'<(b5 0 ds).length:=by rw[hel];exact hlt
     obtain⟨w,hw,ew⟩:=kE (ψ hlt2)
     rw[ψ hlt] at hw
     cases hw
     rw[Nat.zero_add] at ew
     have hdrop:(b5 0 ds).drop i'=.tuple [.int (i':Int),ds[i']]::(b5 0 ds).drop (i'+1):=by rw[<-ew];exact List.drop_eq_getElem_cons hlt2
     rw[hdrop] at k2
     unfold dv at k2
     by_cases hm:μ2[kk]?=some (.lst (ds.map Val.d))
     ·rw[if_pos hm] at k2
      obtain⟨ob2,u1,u2⟩:=E2.sr.at_ kk l hl2
      rw[hm] at u1
      cases u1
      obtain⟨u3,u4,vs2,u5,u6⟩:=u2
      obtain⟨x,hx,rx⟩:=u6.get hd
      refine⟨⟨vs2,x,.inl (.inl u5),hx⟩,λσ' H'=>∃δ2 μ2 O2 α2,SEv X.K X.mg A O2 α2 H' σ' δ2 μ2/\Go O α H O2 α2 H'/\α2[kk]?=some (some l)/\okR (Er X.K X.mg G A.R0 A.O A.α A.H) (dv kk (ds.map Val.d) t (g A.α.length) ((b5 0 ds).drop (i'+1)) δ2 μ2) (kM X.K X.mg A O α H Dn),λσ' H' h=>⟨_,by omega,rfl,hlt,h⟩,λy H3 hy=>?_⟩
      obtain⟨T',rfl,hT',hy⟩:=hy
      have e3:=hy vs2 x (.inl (.inl u5)) hx
      subst e3
      have E3:=E2.same (ba (o:=.tup [.int (i':Int),x]) hT')
      have T3:=T.trans (Go.same (ba (o:=.tup [.int (i':Int),x]) hT'))
      have rt:Rep X.K O2 (upd H2 T' (.tup [.int (i':Int),x])) (.ref T') (.tuple [.int (i':Int),ds[i']]):=gZ hT' (.cons (.int _) (.cons rx.dinv .nil))
      cases h3:t (.tuple [.int (i':Int),ds[i']]) δ2 with
      | none=>rw[h3] at k2;exact k2.elim
      | some δ3 =>
       rw[h3] at k2
       refine hg A δ2 δ3 _ _ O2 α2 σ2 μ2 _ _ E3 rt h3 λσ4 E4=>?_
       refine hb A δ3 μ2 O2 α2 σ4 _ _ E4 (au (ar k2) λo z=>?_)
       cases o with
       | nx δ5 μ5=>exact λO5 α5 σ5 H5 E5 T5=>⟨δ5,μ5,O5,α5,E5,T3.trans T5,T5.ex _ _ hl2,z⟩
       | ct δ5 μ5=>exact λO5 α5 σ5 H5 E5 T5=>⟨δ5,μ5,O5,α5,E5,T3.trans T5,T5.ex _ _ hl2,z⟩
       | bk δ5 μ5=>exact λO5 α5 σ5 H5 E5 T5=>z O5 α5 σ5 H5 E5 (T3.trans T5)
       | rt v μ5=>exact z
     ·rw[if_neg hm] at k2;exact k2.elim
    ·left
     have e:i'=ds.length:=by omega
     subst e
     rw[<-hel,V6] at k2
     unfold dv at k2
     by_cases hm:μ2[kk]?=some (.lst (ds.map Val.d))
     ·rw[if_pos hm] at k2
      obtain⟨ob2,u1,u2⟩:=E2.sr.at_ kk l hl2
      rw[hm] at u1
      cases u1
      obtain⟨u3,u4,vs2,u5,u6⟩:=u2
      exact⟨⟨vs2,.inl (.inl u5),by rw[u6.length,θ];exact υ _⟩,k2 O2 α2 σ2 H2 E2 T⟩
     ·rw[if_neg hm] at k2;exact k2.elim
theorem lH{en:Bool}{k n:Nat}{t:D->aw->Option aw}{g:SG}{δ:aw}{μ μ':Sto}{ds:List D}{r:R OutS}(h1:f δ μ=R.ret (.h k,μ'))(h2:μ'[k]?=some (.lst (ds.map Val.d)))(h3:dv k (ds.map Val.d) t (g n) (if en then b5 0 ds else ds) δ μ'=r):iO en t f g n δ μ=r:=by
 unfold iO
 rw[h1,aV]
 dsimp only
 rw[h2]
 dsimp only
 rw[uu]
 exact h3
theorem kB(h:μ[k]?=some (.lst xs)):dv k xs t g [] δ μ=R.ret (.nx δ μ):=by
 unfold dv
 rw[if_pos h]
theorem fS(h:μ[k]?=some (.lst xs))(ht:t d δ=some δ1)(h1:g δ1 μ=R.ret (.nx δ' μ'))(h2:dv k xs t g ds δ' μ'=r):dv k xs t g (d::ds) δ μ=r:=by
 unfold dv
 rw[if_pos h,ht]
 dsimp only
 rw[h1]
 exact h2
theorem es_compN(h1:fi (viewL 0 μ δ)=M.ret ds)(hz:aL ds.length=true)(h2:oR fn ds=M.ret rows):lR fi fn δ μ=R.ret (.h μ.length,et μ.length rows [] (μ++[.lst []])):=by
 unfold lR
 rw[h1]
 show(if aL ds.length=true then _ else _)=_
 rw[if_pos hz,h2]
 rfl
end
end SL
namespace DL
open PyProof.Rows L2
section
end
end DL
namespace SL
open PyProof.Rows L2 DL
noncomputable def df:List (Option D)->Option (List D)
 | []=>some []
 | some d::r=>(df r).map (d :: ·)
 | none::_=>none
noncomputable def lvN:Nat->Sto->Val->Option D
 | 0=>λ_ v=>match v with
  | .d x=>some x
  | _=>none
 | f+1=>λμ v=>match v with
  | .d x=>some x
  | .h k=>match μ[k]? with
   | some (.lst xs)=>(df (xs.map (lvN f μ))).map Ψ
   | some (.ins c fs)=>(df ((fs.map (·.2)).map (lvN f μ))).map λds=>jm c ((fs.map (·.1)).zip ds)
   | _=>none
  | .t xs=>(df (xs.map (lvN f μ))).map U2
theorem tw:∀{l:List (Option D)} {ds:List D},df l=some ds->ds.length=l.length
 | [],ds,h=>by cases h;rfl
 | none::r,ds,h=>by cases h
 | some d::r,ds,h=>by
  have h:(df r).map (d :: ·)=some ds:=h
  cases e:df r with
  | none=>rw[e] at h;cases h
  | some q=>rw[e] at h;cases h;rw[Φ,Φ,tw e]
section
variable{K:ζ}{mg:Str->Option Value}{A:An}{R0 O O':List Addr}{α:List (Option Addr)}{H:Hp}{μ:Sto}{σ:L2.St}{δ:aw}
theorem ls{f:Nat}(ih:∀{v:V} {x:Val} {d:D},VR K O α H v x->lvN f μ x=some d->Rep K O' H v d):∀{xs:List Val} {vs:List V} {ds:List D},VRs K O α H vs xs->df (xs.map (lvN f μ))=some ds->Reps K O' H vs ds
 | [],_,ds,.nil,h=>by cases h;exact .nil
 | x::xs,_,ds,.cons r rs,h=>by
  rw[Θ] at h
  cases e:lvN f μ x with
  | none=>rw[e] at h;cases h
  | some d =>
   rw[e] at h
   have h:(df (xs.map (lvN f μ))).map (d :: ·)=some ds:=h
   cases e2:df (xs.map (lvN f μ)) with
   | none=>rw[e2] at h;cases h
   | some q=>rw[e2] at h;cases h;exact .cons (ih r e) (ls ih rs e2)
theorem vo(S:SR K mg R0 O α H μ)(T:To O O' H H)(hn:∀(k:Nat) (a:Addr),α[k]?=some (some a)->a∉O'):∀(f:Nat) {v:V} {x:Val} {d:D},VR K O α H v x->lvN f μ x=some d->Rep K O' H v d
 | 0,v,x,d,r,h=>by
  cases x with
  | d x=>cases h;exact Rep.to T r.dinv
  | h k=>cases h
  | t xs=>cases h
 | f+1,v,x,d,r,h=>by
  have ih:∀{v:V} {x:Val} {d:D},VR K O α H v x->lvN f μ x=some d->Rep K O' H v d:=λ{v x d}=>vo S T hn f
  cases x with
  | d x=>cases h;exact Rep.to T r.dinv
  | t xs =>
   obtain⟨a,vs,rfl,hs,rs⟩:=r.tinv
   have h:(df (xs.map (lvN f μ))).map U2=some d:=h
   cases e:df (xs.map (lvN f μ)) with
   | none=>rw[e] at h;cases h
   | some ds=>rw[e] at h;cases h;exact .tup hs (ls ih rs e)
  | h k =>
   obtain⟨a,ha,rfl⟩:=r.hinv
   obtain⟨ob,g1,g2⟩:=S.at_ k a ha
   have h:(match μ[k]? with
    | some (.lst xs)=>(df (xs.map (lvN f μ))).map Ψ
    | some (.ins c fs)=>(df ((fs.map (·.2)).map (lvN f μ))).map λds=>jm c ((fs.map (·.1)).zip ds)
    | _=>none)=some d:=h
   rw[g1] at h
   cases ob with
   | lst xs =>
    have h:(df (xs.map (lvN f μ))).map Ψ=some d:=h
    obtain⟨_,_,vs,g5,g6⟩:=g2
    cases e:df (xs.map (lvN f μ)) with
    | none=>rw[e] at h;cases h
    | some ds=>rw[e] at h;cases h;exact .lst (.inl g5) (hn k a ha) (ls ih g6 e)
   | ins c fs =>
    have h:(df ((fs.map (·.2)).map (lvN f μ))).map (λds=>jm c ((fs.map (·.1)).zip ds))=some d:=h
    obtain⟨_,_,C,dx,vfs,g3,g4,g5,g6⟩:=g2
    cases e:df ((fs.map (·.2)).map (lvN f μ)) with
    | none=>rw[e] at h;cases h
    | some ds =>
     rw[e] at h
     cases h
     have hl:ds.length=fs.length:=by have:=tw e;rw[θ,θ] at this;exact this
     have e1:((fs.map (·.1)).zip ds).map (·.1)=fs.map (·.1):=List.map_fst_zip (by rw[θ];omega)
     have e2:((fs.map (·.1)).zip ds).map (·.2)=ds:=List.map_snd_zip (by rw[θ];omega)
     exact .ins g3 g4 (hn k a ha) (by rw[e1];exact g5) (by rw[e2];exact ls ih g6 e)
   | dct es=>cases h
   | gone=>cases h
noncomputable def v1N(f:Nat)(μ:Sto):Option Val->Sl
 | some x=>match lvN f μ x with
  | some d=>.vl d
  | none=>.un
 | none=>.un
noncomputable def viewN(f:Nat)(μ:Sto)(δ:aw):DS:=δ.map (v1N f μ)
theorem pf{f i:Nat}{s:Sl}(h:(viewN f μ δ)[i]?=some s):(∃x d,δ[i]?=some (some x)/\lvN f μ x=some d/\s=.vl d)\/s=.un:=by
 unfold viewN at h
 rw[Λ] at h
 cases e:δ[i]? with
 | none=>rw[e] at h;cases h
 | some o =>
  rw[e] at h
  cases o with
  | none=>cases h;exact .inr rfl
  | some x =>
   have h:some (match lvN f μ x with | some d=>Sl.vl d | none=>.un)=some s:=h
   cases e2:lvN f μ x with
   | none=>rw[e2] at h;cases h;exact .inr rfl
   | some d=>rw[e2] at h;cases h;exact .inl ⟨x,d,rfl,e2,rfl⟩
theorem SR.apart(S:SR K mg R0 O α H μ){k:Nat}{a:Addr}(h:α[k]?=some (some a)):a∉R0:=by
 obtain⟨ob,_,g⟩:=S.at_ k a h
 cases ob with
 | lst xs=>exact g.2.1
 | dct es=>exact g.2.1
 | ins c fs=>exact g.2.1
 | gone=>exact g.elim
theorem SEv.viewN{f:Nat}(E:SEv K mg A O α H σ δ μ):Ev K H A.R0 H σ (SL.viewN f μ δ):=by
 have T:To O A.R0 H H:=.less E.sr.sub
 refine⟨aG.refl H,λl hl=>E.sr.oo l (E.sr.sub l hl),by unfold SL.viewN;rw[θ];exact E.len,λi s h=>?_,λi j l ds es hij h1=>?_⟩
 ·rcases pf h with ⟨x,d,h1,h2,rfl⟩ | rfl
  ·obtain⟨v,g1,g2⟩:=E.at_ i _ h1
   exact⟨v,g1,vo E.sr T (λk a h=>E.sr.apart h) f g2 h2⟩
  ·trivial
 ·rcases pf h1 with ⟨x,d,_,_,z⟩ | z<;>cases z
end
section
noncomputable def bC(f:DS->M D):aw->Sto->R (Val×Sto):=λδ μ=>(ofM (f (viewN 4 μ δ)) μ).thn λd=>if bL d=true then R.ret (.d d,μ) else none
theorem xu(h:PD X G e f):SX X G e (bC f):=by
 obtain⟨t,p,h⟩:=h
 refine⟨t,p,λA δ μ O α σ H Q E k=>?_⟩
 refine h (viewN 4 μ δ) A.R0 σ H Q E.viewN (ah (eL E.sr (ar k)) λd z v H' s r=>?_)
 by_cases hf:bL d=true
 ·rw[if_pos hf] at z
  exact z v O α H' (Go.same s) (E.sr.same s) (.d (r.flat hf))
 ·rw[if_neg hf] at z;exact z.elim
noncomputable def jg(fb:DS->M Bool):aw->Sto->R (Bool×Sto):=λδ μ=>(ofM (fb (viewN 4 μ δ)) μ).thn λb=>R.ret (b,μ)
theorem xy(h:PDT X G e fb):ST X G e (jg fb):=by
 obtain⟨t,p,h⟩:=h
 refine⟨t,p,λA δ μ O α σ H Q E k=>?_⟩
 exact h (viewN 4 μ δ) A.R0 σ H Q E.viewN (ah (eL E.sr (ar k)) λb z H' s=>z O α H' (Go.same s) (E.sr.same s))
noncomputable def gX(fn:DS->M (List D)):aw->Sto->R (Val×Sto):=λδ μ=>(ofM (fn (viewN 4 μ δ)) μ).thn λds=>if aN ds=true then R.ret (.h μ.length,μ++[.lst (ds.map Val.d)]) else none
theorem ql(he:PDN X G e fn):SX X G e (gX fn):=by
 obtain⟨t,p,he⟩:=he
 refine⟨t,p,λA δ μ O α σ H Q E k=>?_⟩
 refine he (viewN 4 μ δ) A.R0 σ H _ E.viewN (ah (eL E.sr (ar k)) λds z l xs H1 s1 hl rx=>?_)
 by_cases hf:aN ds=true
 ·rw[if_pos hf] at z
  have E1:=E.same s1
  exact z _ (l::O) (α++[some l]) _ ((Go.same s1).trans (Go.newL hl)) (E1.sr.newL hl (VRs.data (α:=α) (rx.flat hf))) (.h E.sr.at_new)
 ·rw[if_neg hf] at z;exact z.elim
noncomputable def iN(f:DS->M D):aw->Sto->R (Val×Sto):=λδ μ=>(ofM (f (viewN 4 μ δ)) μ).thn λd=>match d with
 | .list ds=>if aN ds=true then R.ret (.h μ.length,μ++[.lst (ds.map Val.d)]) else none
 | _=>none
theorem nB(he:PDF X G e f):SX X G e (iN f):=by
 obtain⟨t,p,he⟩:=he
 refine⟨t,p,λA δ μ O α σ H Q E k=>?_⟩
 refine he (viewN 4 μ δ) A.R0 σ H _ E.viewN (ah (eL E.sr (ar k)) λd z=>?_)
 match d,z with
 | .list ds,z =>
  dsimp only at z
  by_cases hf:aN ds=true
  ·rw[if_pos hf] at z
   exact⟨ds,rfl,hf,λl xs H' s hl hx rx=>z _ (l::O) (α++[some l]) H' (Go.adopt s hl) (E.sr.adopt s hl hx rx hf) (.h E.sr.at_new)⟩
  ·rw[if_neg hf] at z;exact z.elim
end
end SL
namespace SL
open PyProof.Rows L2 DL
section
variable{K:ζ}{mg:Str->Option Value}{A:An}{R0 O O':List Addr}{α:List (Option Addr)}{H:Hp}{μ:Sto}
theorem VRs.look{f:Str}{x:Val}:∀{vfs:List (Str×V)} {fs:List (Str×Val)},vfs.map (·.1)=fs.map (·.1)->VRs K O α H (vfs.map (·.2)) (fs.map (·.2))->fs.lookup f=some x->∃v,vfs.lookup f=some v/\VR K O α H v x
 | [],[],_,_,h=>by cases h
 | [],_::_,hk,_,_=>by cases hk
 | _::_,[],hk,_,_=>by cases hk
 | (g,v)::vfs,(g2,y)::fs,hk,r,h=>by
  simp only[Θ,List.cons.injEq] at hk
  obtain⟨rfl,hk⟩:=hk
  cases r with
  | cons r rs =>
   cases hb:(f==g) with
   | true =>
    simp only[V0,hb] at h ⊢
    cases h
    exact⟨v,rfl,r⟩
   | false =>
    simp only[V0,hb] at h ⊢
    exact VRs.look hk rs h
theorem l3:∀{vfs:List (Str×V)} {fs:List (Str×Val)},vfs.map (·.1)=fs.map (·.1)->fs.lookup f=none->vfs.lookup f=none
 | [],[],_,_=>rfl
 | [],_::_,hk,_=>by cases hk
 | _::_,[],hk,_=>by cases hk
 | (g,v)::vfs,(g2,y)::fs,hk,h=>by
  simp only[Θ,List.cons.injEq] at hk
  obtain⟨rfl,hk⟩:=hk
  cases hb:(f==g) with
  | true=>simp only[V0,hb] at h;cases h
  | false =>
   simp only[V0,hb] at h ⊢
   exact l3 hk h
noncomputable def gv(f:Str)(v:Val):List (Str×Val)->List (Str×Val)
 | []=>[(f,v)]
 | (g,x)::r=>if g=f then (g,v)::r else (g,x)::gv f v r
theorem r9{f:Str}{v:V}{x:Val}(rv:VR K O α H v x):∀{vfs:List (Str×V)} {fs:List (Str×Val)},vfs.map (·.1)=fs.map (·.1)->VRs K O α H (vfs.map (·.2)) (fs.map (·.2))->(iP f v vfs).map (·.1)=(gv f x fs).map (·.1)/\VRs K O α H ((iP f v vfs).map (·.2)) ((gv f x fs).map (·.2))
 | [],[],_,_=>⟨rfl,.cons rv .nil⟩
 | [],_::_,hk,_=>by cases hk
 | _::_,[],hk,_=>by cases hk
 | (g,v')::vfs,(g2,y)::fs,hk,r=>by
  simp only[Θ,List.cons.injEq] at hk
  obtain⟨rfl,hk⟩:=hk
  cases r with
  | cons r rs =>
   by_cases hg:g=f
   ·rw[iP,gv,if_pos hg,if_pos hg]
    exact⟨by simp [hk],.cons rv rs⟩
   ·rw[iP,gv,if_neg hg,if_neg hg]
    obtain⟨i1,i2⟩:=r9 rv hk rs
    exact⟨by simp [i1],.cons r i2⟩
theorem keys_len{vfs:List (Str×V)}{fs:List (Str×Val)}(h:vfs.map (·.1)=fs.map (·.1)):vfs.length=fs.length:=by
 have:=congrArg List.length h
 rwa[θ,θ] at this
theorem To.setI(hl:H l=some (.ins C dx fs))(ho:l∈O):To O O H (upd H l (.ins C dx ys)):=by
 have keep:∀{b:Addr} {o:HO},b≠l->Rd H b o->Rd (upd H l (.ins C dx ys)) b o:=λ{b o} hb h=>by
  rcases h with h | ⟨u,h⟩
  ·exact .inl (by rw[upd_ne hb];exact h)
  ·exact .inr ⟨u,by rw[upd_ne hb];exact h⟩
 refine⟨λb zs h=>keep ?_ h,λb zs n h=>⟨n,keep (λz=>n (z▸ho)) h⟩,λb zs n h=>⟨n,keep (λz=>n (z▸ho)) h⟩,λb C dx fs n h=>⟨n,by rw[upd_ne (show b≠l from λz=>n (z▸ho))];exact h⟩⟩
 rintro rfl
 rcases h with h | ⟨u,h⟩
 ·rw[hl] at h;cases h
 ·rw[hl] at h;cases h
theorem SR.setI(S:SR K mg R0 O α H μ){k:Nat}{a C dx:Addr}{c:Str}{fs fs':List (Str×Val)}{vfs vfs':List (Str×V)}(h:α[k]?=some (some a))(hk:μ[k]?=some (.ins c fs))(hH:H a=some (.ins C dx vfs))(hk':vfs'.map (·.1)=fs'.map (·.1))(r:VRs K O α H (vfs'.map (·.2)) (fs'.map (·.2))):SR K mg R0 O α (upd H a (.ins C dx vfs')) (μ.set k (.ins c fs')):=by
 obtain⟨ob,h1,h2⟩:=S.at_ k a h
 rw[hk] at h1
 cases h1
 obtain⟨ho,hn,C',dx',w,hN,hv,_⟩:=h2
 rw[hH] at hv
 cases hv
 have T:To O O H (upd H a (.ins C dx vfs')):=To.setI hH ho
 refine⟨by rw[Ω];exact S.len,S.nd,λl hl=>?_,S.sub,λj b hj=>?_⟩
 ·by_cases e:l=a
  ·subst e;exact .inr (.inr ⟨C,dx,vfs',aK⟩)
  ·exact(S.oo l hl).upd_ne e
 ·by_cases e:j=k
  ·subst e
   rw[h] at hj
   cases hj
   exact⟨.ins c fs',by rw[bB,if_pos rfl,if_pos (ς.mp hk).1],ho,hn,C,dx,vfs',hN,aK,hk',r.to T λ_ _ h=>h⟩
  ·obtain⟨ob,g1,g2⟩:=S.at_ j b hj
   have hb:b≠a:=λz=>e (S.nd j k a (z▸hj) h)
   exact⟨ob,by rw[bB,if_neg (λz=>e z.symm)];exact g1,g2.to T (λ_ _ h=>h) (λz=>z) (upd_ne hb)⟩
theorem SR.newI(S:SR K mg R0 O α H μ){l C dx:Addr}{c:Str}(hN:Z0 K mainGlobals c=some (some (.ref C)))(hl:H l=none):SR K mg R0 (l::O) (α++[some l]) (upd H l (.ins C dx [])) (μ++[.ins c []]):=by
 have T:To O (l::O) H (upd H l (.ins C dx [])):=To.own hl
 have e:∀(k:Nat) (a:Addr),α[k]?=some (some a)->(α++[some l])[k]?=some (some a):=λk a h=>by
  rw[ξ (ς.mp h).1];exact h
 have cs:∀(k:Nat) (a:Addr),(α++[some l])[k]?=some (some a)->α[k]?=some (some a)\/(k=α.length/\a=l):=λk a h=>by
  by_cases hk:k<α.length
  ·rw[ξ hk] at h;exact .inl h
  ·rw[χ (by omega)] at h
   have h0:k-α.length=0:=by
    have:=(ς.mp h).1
    simp at this
    omega
   rw[h0] at h
   simp at h
   exact .inr ⟨by omega,h.symm⟩
 have ne:∀(k:Nat) (a:Addr),α[k]?=some (some a)->a≠l:=λk a h z=>by
  obtain⟨o,h3,_⟩:=S.tracked h
  rw[z,hl] at h3;cases h3
 refine⟨by rw[η,η,S.len];rfl,λi j a h1 h2=>?_,λb hb=>?_,λb hb=>ι _ (S.sub b hb),λk a h=>?_⟩
 ·rcases cs i a h1 with h1 | ⟨h1,z⟩<;>rcases cs j a h2 with h2 | ⟨h2,z2⟩
  ·exact S.nd i j a h1 h2
  ·exact absurd z2 (ne i a h1)
  ·exact absurd z (ne j a h2)
  ·omega
 ·rcases Γ.mp hb with rfl | hb
  ·exact .inr (.inr ⟨C,dx,[],aK⟩)
  ·exact(S.oo b hb).new hl
 ·rcases cs k a h with h | ⟨rfl,rfl⟩
  ·obtain⟨ob,h1,h2⟩:=S.at_ k a h
   exact⟨ob,by rw[ξ (ς.mp h1).1];exact h1,h2.to T e (λz=>ι _ z) (upd_ne (ne k a h))⟩
  ·refine⟨.ins c [],by rw[S.len,χ (υ _),X0];rfl,ο,λz=>?_,C,dx,[],hN,aK,rfl,.nil⟩
   obtain⟨o,ho⟩:=(S.oo a (S.sub a z)).some
   rw[hl] at ho;cases ho
end
section
variable{X:Cx}{G:XD->Hp->Prop}{o e:Expr}{es:List Expr}{pos pos' apos cpos p:Pos}{fo fe:aw->Sto->R (Val×Sto)}{fa:aw->Sto->R (List Val×Sto)}{C:Addr}{c f:Str}
noncomputable def sAt(c f:Str)(fo:aw->Sto->R (Val×Sto)):aw->Sto->R (Val×Sto):=λδ μ=>(fo δ μ).thn λr=>match r.1 with
 | .h k=>match r.2[k]? with
  | some (.ins c' fs)=>if c'=c then (match fs.lookup f with
   | some v=>R.ret (v,r.2)
   | none=>none) else none
  | _=>none
 | _=>none
theorem sx_at(ho:SX X G o fo)(hN:Z0 X.K mainGlobals c=some (some (.ref C)))(hc:Cls X.K C)(hn:jG X.K C f)(hb:attributeBase o f X.env (eval o X.env)=eval o X.env:=by rfl):SX X G (.Attribute o f pos) (sAt c f fo):=by
 obtain⟨t,p,ho⟩:=ho
 refine⟨_,xY p hb,λA δ μ O α σ H Q E k=>?_⟩
 refine ho A δ μ O α σ H _ E (au (ar k) λr z v O1 α1 H1 T1 S1 r1=>?_)
 obtain⟨p1,p2⟩:=r
 match p1,z,r1 with
 | .h k,z,r1 =>
  obtain⟨l,hl,rfl⟩:=r1.hinv
  obtain⟨ob,g1,g2⟩:=S1.at_ k l hl
  dsimp only at z
  rw[g1] at z
  match ob,z,g2 with
  | .ins c' fs,z,g2 =>
   obtain⟨_,_,C',dx,vfs,hN',g4,g5,g6⟩:=g2
   dsimp only at z
   by_cases hcc:c'=c
   ·rw[if_pos hcc] at z
    have zz:=z
    subst hcc
    have hC:C'=C:=by
     have:=hN'.symm.trans hN
     simp at this
     exact this
    subst hC
    cases hlk:fs.lookup f with
    | none=>rw[hlk] at zz;exact zz.elim
    | some x =>
     rw[hlk] at zz
     obtain⟨u,q1,q2⟩:=VRs.look g5 g6 hlk
     exact⟨l,C',dx,vfs,u,rfl,g4,hc,hn,q1,zz u O1 α1 H1 T1 S1 q2⟩
   ·rw[if_neg hcc] at z;exact z.elim
noncomputable def ez(c f:Str)(fo fe:aw->Sto->R (Val×Sto)):SG:=λ_ δ μ=>(fe δ μ).thn λr=>(fo δ r.2).thn λq=>match q.1 with
 | .h k=>match q.2[k]? with
  | some (.ins c' fs)=>if c'=c/\fs.length<1000 then R.ret (.nx δ (q.2.set k (.ins c (gv f r.1 fs)))) else none
  | _=>none
 | _=>none
theorem iW(ho:SX X G o fo)(he:SX X G e fe)(hN:Z0 X.K mainGlobals c=some (some (.ref C)))(hc:Cls X.K C)(hn:jG X.K C f)(hs:swapsWith e (some (.Attribute o f pos')) pos.line X.env=pure false:=by rfl):SS X G (.Assign [.Attribute o f pos'] e pos) (ez c f fo fe):=by
 obtain⟨t,p,ho⟩:=ho
 obtain⟨u,q,he⟩:=he
 refine⟨_,ps_fld p q hs,λA δ μ O α σ H Dn E k=>?_⟩
 refine he A δ μ O α σ H _ E (au (bf (ar k) λx μ h=>Er.go E.st h) λr z v O1 α1 H1 T1 S1 r1=>?_)
 have E1:=E.go T1 S1
 refine ho A δ r.2 O1 α1 σ H1 _ E1 (au (bf (ar z) λx μ h=>Er.go E1.st h) λy w u' O2 α2 H2 T2 S2 r2=>?_)
 obtain⟨y1,y2⟩:=y
 match y1,w,r2 with
 | .h k,w,r2 =>
  obtain⟨l,hl,rfl⟩:=r2.hinv
  obtain⟨ob,g1,g2⟩:=S2.at_ k l hl
  dsimp only at w
  rw[g1] at w
  match ob,w,g2,g1 with
  | .ins c' fs,w,g2,g1 =>
   obtain⟨_,_,C',dx,vfs,hN',g4,g5,g6⟩:=g2
   dsimp only at w
   by_cases hcc:c'=c/\fs.length<1000
   ·rw[if_pos hcc] at w
    have ww:=w
    obtain⟨rfl,hlen⟩:=hcc
    have hC:C'=C:=by
     have:=hN'.symm.trans hN
     simp at this
     exact this
    subst hC
    have rv:VR X.K O2 α2 H2 v r.1:=r1.to (Go.to S1 T2) T2.ex
    obtain⟨i1,i2⟩:=r9 rv g5 g6
    have S3:=S2.setI hl g1 g4 i1 i2
    have T3:Go O2 α2 H2 O2 α2 (upd H2 l (.ins C' dx (iP f v vfs))):=Go.setL hl
    exact⟨l,C',dx,vfs,rfl,g4,hc,hn,by rw[keys_len g5];exact hlen,ww O2 α2 σ _ ((E1.go T2 S2).go T3 S3) (T1.trans (T2.trans T3))⟩
   ·rw[if_neg hcc] at w;exact w.elim
structure DefSM(P:Program)(w:World)(K:ζ)(mg:Str->Option Value)(base:Heap)(k:Nat)(c m:Str)(n:Nat)(F:List Val->Sto->R (Val×Sto)):Prop where
 ex:∃(C f:Addr) (fd:FuncData) (ps:List Str),Z0 K mainGlobals c=some (some (.ref C))/\Cls K C/\Meth K C m f/\FnOk P w K mg base CX0 k f fd ps (spS K mg n F)/\gr K fd ps []
noncomputable def lj(c m:Str)(F:List Val->Sto->R (Val×Sto))(fo:aw->Sto->R (Val×Sto))(fa:aw->Sto->R (List Val×Sto)):aw->Sto->R (Val×Sto):=λδ μ=>(fo δ μ).thn λr=>match r.1 with
 | .h k=>match r.2[k]? with
  | some (.ins c' fs)=>if c'=c/\fs.lookup m=none then (fa δ r.2).thn λq=>wA (F (.h k::q.1) q.2) else none
  | _=>none
 | _=>none
theorem sx_met(h:DefSM X.prog X.w X.K X.mg X.base k c m n F)(hr:Room k X.A)(hn:(e::es).length+1=n)(ho:SX X G o fo)(ha:SA X G (e::es) fa)
  (hst:starEach (e::es) X.env=(false,eval e X.env)::starEach es X.env:=by rfl) (hpl:(backTo pos (starEach es X.env)).any (·.1)=false:=by rfl)
  (ht:eval (.Call (.Attribute o m apos) (e::es) [] pos) X.env=(do
   let ov <- eval o X.env
   standAt apos.atName
   let (f,first) <- holding [ov] (getMethod ov m pl)
   callWith pos f first (backTo pos (starEach (e::es) X.env)) (backToKw pos (keywordEach [] X.env))):=by rfl) :
  SX X G (.Call (.Attribute o m apos) (e::es) [] pos) (lj c m F fo fa):=by
 obtain⟨C,f0,fd,ps,hN,hc,hm,F1,hb⟩:=h.ex
 obtain⟨t,p,ho⟩:=ho
 obtain⟨hl,ta,pa,ha⟩:=ha
 refine⟨_,qz (pl:=pl) p hc hm F1 hr hb .nil mx pa hst hpl ht,λA δ μ O α σ H Q E k=>?_⟩
 refine ho A δ μ O α σ H _ E (au (ar k) λr z v O1 α1 H1 T1 S1 r1=>?_)
 obtain⟨p1,p2⟩:=r
 match p1,z,r1 with
 | .h kk,z,r1 =>
  obtain⟨l,hl',rfl⟩:=r1.hinv
  obtain⟨ob,g1,g2⟩:=S1.at_ kk l hl'
  dsimp only at z
  rw[g1] at z
  match ob,z,g2 with
  | .ins c' fs,z,g2 =>
   obtain⟨_,_,C',dx,vfs,hN',g4,g5,g6⟩:=g2
   dsimp only at z
   by_cases hcc:c'=c/\fs.lookup m=none
   ·rw[if_pos hcc] at z
    have zz:=z
    obtain⟨rfl,hlk⟩:=hcc
    have hC:C'=C:=by
     have:=hN'.symm.trans hN
     simp at this
     exact this
    subst hC
    refine⟨l,dx,vfs,rfl,g4,l3 g5 hlk,?_⟩
    have E1:=E.go T1 S1
    have k1:=ar zz
    refine ha A δ p2 O1 α1 σ H1 _ E1 ?_
    cases e1:fa δ p2 with
    | none=>rw[e1] at k1;exact k1.elim
    | some r =>
     rw[e1] at k1
     cases r with
     | error x=>exact Er.go T1 k1
     | ok r =>
      refine λvs O2 α2 H2 T2 S2 rs=>?_
      refine⟨A.R0,O2,α2,r.2,.h kk::r.1,?_,S2,?_,au (m4 k1) λq y v O3 α3 H3 T3 S3 rv=>y v O3 α3 H3 (T1.trans (T2.trans T3)) S3 rv⟩
      ·rw[Z4,Φ,rs.length,hl δ p2 r e1];exact hn
      ·rw[Z4];exact .cons (.h (T2.ex _ _ hl')) rs
   ·rw[if_neg hcc] at z;exact z.elim
theorem sx_met0(h:DefSM X.prog X.w X.K X.mg X.base k c m 1 F)(hr:Room k X.A)(ho:SX X G o fo)
  (ht:eval (.Call (.Attribute o m apos) [] [] pos) X.env=(do
   let ov <- eval o X.env
   standAt apos.atName
   let (f,first) <- holding [ov] (getMethod ov m pl)
   callWith pos f first (backTo pos (starEach [] X.env)) (backToKw pos (keywordEach [] X.env))):=by rfl) :
  SX X G (.Call (.Attribute o m apos) [] [] pos) (lj c m F fo jh):=by
 obtain⟨C,f0,fd,ps,hN,hc,hm,F1,hb⟩:=h.ex
 obtain⟨t,p,ho⟩:=ho
 refine⟨_,si (pl:=pl) p hc hm F1 hr hb .nil mx ht,λA δ μ O α σ H Q E k=>?_⟩
 refine ho A δ μ O α σ H _ E (au (ar k) λr z v O1 α1 H1 T1 S1 r1=>?_)
 obtain⟨p1,p2⟩:=r
 match p1,z,r1 with
 | .h kk,z,r1 =>
  obtain⟨l,hl',rfl⟩:=r1.hinv
  obtain⟨ob,g1,g2⟩:=S1.at_ kk l hl'
  dsimp only at z
  rw[g1] at z
  match ob,z,g2 with
  | .ins c' fs,z,g2 =>
   obtain⟨_,_,C',dx,vfs,hN',g4,g5,g6⟩:=g2
   dsimp only at z
   by_cases hcc:c'=c/\fs.lookup m=none
   ·rw[if_pos hcc] at z
    have zz:=z
    obtain⟨rfl,hlk⟩:=hcc
    have hC:C'=C:=by
     have:=hN'.symm.trans hN
     simp at this
     exact this
    subst hC
    refine⟨l,dx,vfs,rfl,g4,l3 g5 hlk,?_⟩
    have z2:okR _ (wA (F [.h kk] p2)) _:=zz
    exact⟨A.R0,O1,α1,p2,[.h kk],rfl,S1,.cons (.h hl') .nil,au (m4 z2) λq y v O3 α3 H3 T3 S3 rv=>y v O3 α3 H3 (T1.trans T3) S3 rv⟩
   ·rw[if_neg hcc] at z;exact z.elim
structure MkS(P:Program)(w:World)(K:ζ)(mg:Str->Option Value)(base:Heap)(k:Nat)(c:Str)(n:Nat)(F:List Val->Sto->R (Val×Sto)):Prop where
 ex:∃(C f:Addr) (fd:FuncData) (ps:List Str),Z0 K mainGlobals c=some (some (.ref C))/\mg c=some (.ref C)/\Mk K C f/\FnOk P w K mg base CX0 k f fd ps (spS K mg n F)/\gr K fd ps []
noncomputable def sMk(c:Str)(F:List Val->Sto->R (Val×Sto))(fa:aw->Sto->R (List Val×Sto)):aw->Sto->R (Val×Sto):=λδ μ=>(fa δ μ).thn λr=>(wA (F (.h r.2.length::r.1) (r.2++[.ins c []]))).thn λq=>match q.1 with
 | .d .none=>R.ret (.h r.2.length,q.2)
 | _=>none
theorem sx_mk{k n:Nat}{F:List Val->Sto->R (Val×Sto)}(h:MkS X.prog X.w X.K X.mg X.base k c n F)(hr:Room (k+1) X.A)(hg:Gl X c)(hn:(e::es).length+1=n)(ha:SA X G (e::es) fa)
  (hdb:(c==("__debug__" : Str))=false:=by decide) (he:starEach (e::es) X.env=(false,eval e X.env)::starEach es X.env:=by rfl) (hpl:(backTo pos (starEach es X.env)).any (·.1)=false:=by rfl) :
  SX X G (.Call (.Name c p) (e::es) [] pos) (sMk c F fa):=by
 obtain⟨C,f0,fd,ps,hN,hm,M,F1,hb⟩:=h.ex
 obtain⟨hl,t,pa,ha⟩:=ha
 refine⟨_,pe_make M F1 hr hg hm hb .nil mx pa hdb he hpl,λA δ μ O α σ H Q E k=>?_⟩
 have k1:=ar k
 refine ha A δ μ O α σ H _ E ?_
 cases e1:fa δ μ with
 | none=>rw[e1] at k1;exact k1.elim
 | some r =>
  rw[e1] at k1
  cases r with
  | error x=>exact k1
  | ok r =>
   refine λvs O1 α1 H1 T1 S1 rs x dx hx hd hne=>?_
   have s1:aG H1 (upd H1 dx (.own x)):=ba hd
   have hx2:upd H1 dx (.own x) x=none:=by rw[upd_ne (Ne.symm hne)];exact hx
   have S2:=(S1.same s1).newI (l:=x) (dx:=dx) hN hx2
   have T2:Go O1 α1 H1 (x::O1) (α1++[some x]) (upd (upd H1 dx (.own x)) x (.ins C dx [])):=(Go.same s1).trans (Go.newL hx2)
   have k2:=m4 (ar k1)
   refine⟨A.R0,x::O1,α1++[some x],r.2++[.ins c []],.h r.2.length::r.1,?_,S2,?_,au k2 λq y v O3 α3 H3 T3 S3 rv=>?_⟩
   ·rw[Z4,Φ,rs.length,hl δ μ r e1];exact hn
   ·rw[Z4];exact .cons (.h (by rw[<-S1.len,χ (υ _),X0];rfl)) (rs.to (Go.to S1 T2) T2.ex)
   ·obtain⟨q1,q2⟩:=q
    match q1,y,rv with
    | .d .none,y,rv =>
     have hv:v=.non:=by
      have:=rv.dinv
      cases this
      rfl
     refine⟨hv,y (.ref x) O3 α3 H3 (T1.trans (T2.trans T3)) S3 (.h (T3.ex _ _ ?_))⟩
     rw[<-S1.len,χ (υ _),X0]
     rfl
end
end SL
namespace L2
open PyProof.Rows PySem.W
theorem aS.erase:∀{xs:List V} {its:List Value} (j:Nat),aS xs its->aS (xs.eraseIdx j) (its.eraseIdx j)
 | [],[],_,.nil=>.nil
 | _::_,_::_,0,.cons _ r=>r
 | _::_,_::_,j+1,.cons h r=>.cons h (aS.erase j r)
theorem pP(f:α->β):∀(l:List α) (j:Nat),(l.eraseIdx j).map f=(l.map f).eraseIdx j
 | [],_=>rfl
 | _::_,0=>rfl
 | a::l,j+1=>by
  show f a::(l.eraseIdx j).map f=f a::(l.map f).eraseIdx j
  rw[pP f l j]
theorem pS(k:Int):∀(is:List Int) (i:Nat),i<is.idxOf k->is[i]? ≠ some k
 | [],i,h,z=>by cases z
 | a::is,i,h,z=>by
  rw[List.idxOf_cons] at h
  by_cases e:a=k
  ·rw[show(a==k)=true from beq_iff_eq.mpr e] at h
   exact absurd h (X6 _)
  ·rw[show(a==k)=false from beq_eq_false_iff_ne.mpr e] at h
   have h:i<is.idxOf k+1:=h
   cases i with
   | zero=>cases z;exact e rfl
   | succ i=>exact pS k is i (by omega) z
def rRemove:V->List V->Hp->VK->Prop:=λx vs H Q=>∃(l:Addr) (is:List Int) (k:Int),x=.ref l/\vs=[.int k]/\H l=some (.lst (is.map V.int))/\k∈is/\Q .non (upd H l (.lst ((is.eraseIdx (is.idxOf k)).map V.int)))
section
theorem lu:∀{is:List Int} {its:List Value},aS (is.map V.int) its->kf_ints its=true/\its.length=is.length/\∀(i:Nat) (k:Int),is[i]?=some k->∃t,its[i]?=some (.int k t)
 | [],_,.nil=>⟨rfl,rfl,λi k h=>by cases h⟩
 | i::is,_,.cons h r=>by
  obtain⟨t,rfl⟩:=h
  obtain⟨h1,h2,h3⟩:=lu r
  refine⟨h1,by rw[Φ,Φ,h2],λj k h=>?_⟩
  cases j with
  | zero=>cases h;exact⟨t,rfl⟩
  | succ j=>exact h3 j k h
theorem wC:MtM X "list.remove" rRemove:=by
 intro pins s σ H x vs v us Q I rx rv h
 obtain⟨l,is,k,rfl,rfl,hH,hm,q⟩:=h
 cases rx
 obtain⟨u,rfl,ru⟩:=rv.one
 obtain⟨t,rfl⟩:=ru
 obtain⟨z,its,n,r,hl,e⟩:=I.lstM hH
 obtain⟨h1,h2,h3⟩:=lu r
 have hj:is.idxOf k<is.length:=List.idxOf_lt_length_of_mem hm
 have hji:is.idxOf k<its.length:=by omega
 have at_:∀(i:Nat) (hi:i<its.length),∃t,its[i]=.int (is[i]'(by omega)) t:=λi hi=>by
  obtain⟨t,ht⟩:=h3 i _ (ψ (by omega))
  rw[ψ hi] at ht
  exact⟨t,Option.some.inj ht⟩
 refine call_meets F.slot_list_remove ⟨_,e,rfl⟩ F.entry_list_remove (F.args_list_remove_2 _ _)
  (MeetsSeq.list_remove l its.toArray n (.int k t) (isInt k) (λy hy=>kf_eq h1 y (by simpa using hy)) (is.idxOf k) (by rw[Ξ];exact hji) ?_ ?_ (by rw[Ξ,<-hl];exact z)) ⟨e,?_⟩
 ·obtain⟨t',ht⟩:=at_ (is.idxOf k) hji
  show isInt k its[is.idxOf k]=true
  rw[ht,List.getElem_idxOf hj]
  simp [isInt]
 ·intro i hi hlt
  have hi2:i<its.length:=by rw[Ξ] at hi;exact hi
  obtain⟨t',ht⟩:=at_ i hi2
  show isInt k its[i]=false
  rw[ht]
  have:is[i]'(by omega)≠k:=λz=>pS k is i hlt (by rw[ψ (by omega),z])
  simp [isInt,this]
 ·refine⟨.non,_,I.lset (its':=its.eraseIdx (is.idxOf k)) hH e ?_ (by rw[pP];exact r.erase _) ?_,rfl,q⟩
  ·show its.toArray.eraseIdxIfInBounds (is.idxOf k)=_
   apply Array.toList_inj.mp
   simp [Array.toList_eraseIdxIfInBounds]
  ·rw[θ] at z ⊢
   have:=List.length_eraseIdx_le is (is.idxOf k)
   omega
end
end L2
namespace SL
open PyProof.Rows L2 DL
noncomputable def mD:List Val->Option (List Int)
 | []=>some []
 | .d (.int i)::r=>(mD r).map (i :: ·)
 | _=>none
section
variable{K:ζ}{O:List Addr}{α:List (Option Addr)}{H:Hp}
theorem oz:∀{xs:List Val} {is:List Int} {vs:List V},mD xs=some is->VRs K O α H vs xs->vs=is.map V.int
 | [],is,_,h,.nil=>by cases h;rfl
 | x::xs,is,_,h,.cons r rs=>by
  match x,h,r with
  | .d (.int i),h,r =>
   have h:(mD xs).map (i :: ·)=some is:=h
   cases e:mD xs with
   | none=>rw[e] at h;cases h
   | some q =>
    rw[e] at h
    cases h
    rw[oz e rs,r.dinv.int_inv]
    rfl
theorem pR:∀(is:List Int),mD (is.map λi=>Val.d (.int i))=some is
 | []=>rfl
 | i::is=>by
  show(mD (is.map λi=>Val.d (.int i))).map (i :: ·)=_
  rw[pR is]
  rfl
theorem rK:∀(is:List Int),VRs K O α H (is.map V.int) (is.map λi=>Val.d (.int i))
 | []=>.nil
 | i::is=>.cons (.d (.int i)) (rK is)
theorem VRs.dropLast:∀{vs:List V} {xs:List Val},VRs K O α H vs xs->VRs K O α H vs.dropLast xs.dropLast
 | _,_,.nil=>.nil
 | _,_,.cons r .nil=>.nil
 | _,_,.cons r (.cons r2 rs)=>.cons r (VRs.dropLast (.cons r2 rs))
end
section
variable{X:Cx}{G:XD->Hp->Prop}{a b o e ix tg:Expr}{es:List Expr}{pos pos' apos cpos p tpos:Pos}{fo fi f fe:aw->Sto->R (Val×Sto)}{fa:aw->Sto->R (List Val×Sto)}
noncomputable def v5(fo f:aw->Sto->R (Val×Sto)):aw->Sto->R (Val×Sto):=λδ μ=>(fo δ μ).thn λr=>match r.1 with
 | .h k=>match r.2[k]? with
  | some (.lst _)=>(f δ r.2).thn λq=>match q.1,q.2[k]? with
   | .d (.int n),some (.lst xs)=>match mD xs with
    | some is=>if n∈is then R.ret (.d .none,q.2.set k (.lst ((is.eraseIdx (is.idxOf n)).map λi=>Val.d (.int i)))) else none
    | none=>none
   | _,_=>none
  | _=>none
 | _=>none
theorem sx_rem(ho:SX X G o fo)(he:SX X G e f)
  (hst:starEach [e] X.env=(false,eval e X.env)::starEach [] X.env:=by rfl)
  (hbase:attributeBase o "remove" X.env (eval o X.env)=eval o X.env:=by rfl)
  (hfew:((backTo cpos (starEach [e] X.env)).all (λx=>!x.1)&&(backToKw cpos (keywordEach [] X.env)).all (λx=>x.1.isSome)
   && decide ([e].length+([]:List Keyword).length+(if ([]:List Keyword).isEmpty then 0 else 1)<30))=true:=by rfl)
  (hline:(apos.endLine==cpos.line)=true:=by rfl) (hplain:(backTo cpos (starEach [] X.env)).any (·.1)=false:=by rfl) :
  SX X G (.Call (.Attribute o "remove" apos) [e] [] cpos) (v5 fo f):=by
 obtain⟨t,p,ho⟩:=ho
 obtain⟨u,q,he⟩:=he
 refine⟨_,vc PySem.F.plainAttrs_list PySem.F.slot_list_remove PySem.F.type_list_remove wC p (gG q jS hst) hbase hfew hline hst hplain,λA δ μ O α σ H Q E k=>?_⟩
 refine ho A δ μ O α σ H _ E (au (ar k) λr z v O1 α1 H1 T1 S1 r1=>?_)
 obtain⟨p1,p2⟩:=r
 match p1,z,r1 with
 | .h k,z,r1 =>
  obtain⟨l,hl,rfl⟩:=r1.hinv
  obtain⟨ob,g1,g2⟩:=S1.at_ k l hl
  dsimp only at z
  rw[g1] at z
  match ob,z,g2 with
  | .lst xs0,z,g2 =>
  refine⟨.inl ⟨rfl,_,.inl (.inl g2.2.2.choose_spec.1)⟩,?_⟩
  have z:okR _ ((f δ p2).thn _) _:=z
  refine he A δ p2 O1 α1 σ H1 _ (E.go T1 S1) (au (bf (ar z) λx μ h=>Er.go T1 h) λq y w O2 α2 H2 T2 S2 r2=>?_)
  obtain⟨q1,q2⟩:=q
  have hl2:=T2.ex _ _ hl
  obtain⟨ob,g1,g2⟩:=S2.at_ k l hl2
  dsimp only at y
  rw[g1] at y
  match q1,ob,y,g2,g1,r2 with
  | .d (.int n),.lst xs,y,g2,g1,r2 =>
   obtain⟨_,_,vs,g3,g4⟩:=g2
   dsimp only at y
   cases hi:mD xs with
   | none=>rw[hi] at y;exact y.elim
   | some is =>
    rw[hi] at y
    dsimp only at y
    by_cases hm:n∈is
    ·rw[if_pos hm] at y
     have hvs:=oz hi g4
     subst hvs
     have hw:=r2.dinv.int_inv
     subst hw
     exact⟨l,is,n,rfl,rfl,g3,hm,y .non O2 α2 _ (T1.trans (T2.trans (Go.setL hl2))) (S2.setL hl2 g1 (rK _)) (.d .non)⟩
    ·rw[if_neg hm] at y;exact y.elim
noncomputable def v6(fo:aw->Sto->R (Val×Sto)):aw->Sto->R (Val×Sto):=λδ μ=>(fo δ μ).thn λr=>match r.1 with
 | .h k=>match r.2[k]? with
  | some (.lst xs)=>match xs[xs.length-1]? with
   | some x=>R.ret (x,r.2.set k (.lst xs.dropLast))
   | none=>none
  | _=>none
 | _=>none
theorem sx_pop(ho:SX X G o fo)(hbase:attributeBase o "pop" X.env (eval o X.env)=eval o X.env:=by rfl)(hline:(apos.endLine==cpos.line)=true:=by rfl):SX X G (.Call (.Attribute o "pop" apos) [] [] cpos) (v6 fo):=by
 obtain⟨t,p,ho⟩:=ho
 refine⟨_,pe_bm0 PySem.F.plainAttrs_list PySem.F.slot_list_pop PySem.F.type_list_pop mt_pop p hbase hline,λA δ μ O α σ H Q E k=>?_⟩
 refine ho A δ μ O α σ H _ E (au (ar k) λr z v O1 α1 H1 T1 S1 r1=>?_)
 obtain⟨p1,p2⟩:=r
 match p1,z,r1 with
 | .h k,z,r1 =>
  obtain⟨l,hl,rfl⟩:=r1.hinv
  obtain⟨ob,g1,g2⟩:=S1.at_ k l hl
  dsimp only at z
  rw[g1] at z
  match ob,z,g2,g1 with
  | .lst xs,z,g2,g1 =>
   obtain⟨_,_,vs,g3,g4⟩:=g2
   dsimp only at z
   cases hx:xs[xs.length-1]? with
   | none=>rw[hx] at z;exact z.elim
   | some x =>
    rw[hx] at z
    obtain⟨w,w1,w2⟩:=g4.get hx
    have S2:=S1.setL hl g1 g4.dropLast
    have T2:Go O1 α1 H1 O1 α1 (upd H1 l (.lst vs.dropLast)):=Go.setL hl
    exact⟨.inl ⟨rfl,vs,.inl (.inl g3)⟩,l,vs,w,rfl,rfl,g3,by rw[g4.length];exact w1,z w O1 α1 _ (T1.trans T2) S2 (w2.to (T2.to S1) T2.ex)⟩
noncomputable def xI(fo f:aw->Sto->R (Val×Sto)):aw->Sto->R (Val×Sto):=λδ μ=>(fo δ μ).thn λr=>match r.1 with
 | .h k=>match r.2[k]? with
  | some (.lst _)=>(f δ r.2).thn λq=>match q.1 with
   | .h j=>match q.2[k]?,q.2[j]? with
    | some (.lst xs),some (.lst zs)=>if aL (xs.length+zs.length)=true then R.ret (.d .none,q.2.set k (.lst (xs++zs))) else none
    | _,_=>none
   | _=>none
  | _=>none
 | _=>none
theorem sx_ext(ho:SX X G o fo)(he:SX X G e f)
  (hst:starEach [e] X.env=(false,eval e X.env)::starEach [] X.env:=by rfl)
  (hbase:attributeBase o "extend" X.env (eval o X.env)=eval o X.env:=by rfl)
  (hfew:((backTo cpos (starEach [e] X.env)).all (λx=>!x.1)&&(backToKw cpos (keywordEach [] X.env)).all (λx=>x.1.isSome)
   && decide ([e].length+([]:List Keyword).length+(if ([]:List Keyword).isEmpty then 0 else 1)<30))=true:=by rfl)
  (hline:(apos.endLine==cpos.line)=true:=by rfl) (hplain:(backTo cpos (starEach [] X.env)).any (·.1)=false:=by rfl) :
  SX X G (.Call (.Attribute o "extend" apos) [e] [] cpos) (xI fo f):=by
 obtain⟨t,p,ho⟩:=ho
 obtain⟨u,q,he⟩:=he
 refine⟨_,vc PySem.F.plainAttrs_list PySem.F.slot_list_extend PySem.F.type_list_extend wE p (gG q jS hst) hbase hfew hline hst hplain,λA δ μ O α σ H Q E k=>?_⟩
 refine ho A δ μ O α σ H _ E (au (ar k) λr z v O1 α1 H1 T1 S1 r1=>?_)
 obtain⟨p1,p2⟩:=r
 match p1,z,r1 with
 | .h k,z,r1 =>
  obtain⟨l,hl,rfl⟩:=r1.hinv
  obtain⟨ob,g1,g2⟩:=S1.at_ k l hl
  dsimp only at z
  rw[g1] at z
  match ob,z,g2 with
  | .lst xs0,z,g2 =>
  refine⟨.inl ⟨rfl,_,.inl (.inl g2.2.2.choose_spec.1)⟩,?_⟩
  have z:okR _ ((f δ p2).thn _) _:=z
  refine he A δ p2 O1 α1 σ H1 _ (E.go T1 S1) (au (bf (ar z) λx μ h=>Er.go T1 h) λq y w O2 α2 H2 T2 S2 r2=>?_)
  obtain⟨q1,q2⟩:=q
  have hl2:=T2.ex _ _ hl
  match q1,y,r2 with
  | .h j,y,r2 =>
   obtain⟨l2,hj,rfl⟩:=r2.hinv
   obtain⟨ob1,g1,g2⟩:=S2.at_ k l hl2
   obtain⟨ob2,g3,g4⟩:=S2.at_ j l2 hj
   dsimp only at y
   rw[g1,g3] at y
   match ob1,ob2,y,g2,g4,g1 with
   | .lst xs,.lst zs,y,g2,g4,g1 =>
    obtain⟨_,_,vs,g5,g6⟩:=g2
    obtain⟨_,_,us,g7,g8⟩:=g4
    dsimp only at y
    by_cases hz:aL (xs.length+zs.length)=true
    ·rw[if_pos hz] at y
     exact⟨l,l2,vs,us,rfl,rfl,g5,g7,by rw[g6.length,g8.length];exact bz hz,y .non O2 α2 _ (T1.trans (T2.trans (Go.setL hl2))) (S2.setL hl2 g1 (g6.append g8)) (.d .non)⟩
    ·rw[if_neg hz] at y;exact y.elim
noncomputable def sCat(fo f:aw->Sto->R (Val×Sto)):aw->Sto->R (Val×Sto):=λδ μ=>(fo δ μ).thn λr=>(f δ r.2).thn λq=>match r.1,q.1 with
 | .h k,.h j=>match q.2[k]?,q.2[j]? with
  | some (.lst xs),some (.lst zs)=>if aL (xs.length+zs.length)=true then R.ret (.h q.2.length,q.2++[.lst (xs++zs)]) else none
  | _,_=>none
 | _,_=>none
theorem sx_cat(ho:SX X G a fo)(he:SX X G b f):SX X G (.BinOp a .Add b pos) (sCat fo f):=by
 obtain⟨t,p,ho⟩:=ho
 obtain⟨u,q,he⟩:=he
 refine⟨_,va qD p q,λA δ μ O α σ H Q E k=>?_⟩
 refine ho A δ μ O α σ H _ E (au (ar k) λr z v O1 α1 H1 T1 S1 r1=>?_)
 refine he A δ r.2 O1 α1 σ H1 _ (E.go T1 S1) (au (bf (ar z) λx μ h=>Er.go T1 h) λq y w O2 α2 H2 T2 S2 r2=>?_)
 obtain⟨p1,p2⟩:=r
 obtain⟨q1,q2⟩:=q
 match p1,q1,y,r1,r2 with
 | .h k,.h j,y,r1,r2 =>
  obtain⟨l,hl,rfl⟩:=r1.hinv
  obtain⟨l2,hj,rfl⟩:=r2.hinv
  have hl2:=T2.ex _ _ hl
  obtain⟨ob1,g1,g2⟩:=S2.at_ k l hl2
  obtain⟨ob2,g3,g4⟩:=S2.at_ j l2 hj
  dsimp only at y
  rw[g1,g3] at y
  match ob1,ob2,y,g2,g4 with
  | .lst xs,.lst zs,y,g2,g4 =>
   obtain⟨_,_,vs,g5,g6⟩:=g2
   obtain⟨_,_,us,g7,g8⟩:=g4
   dsimp only at y
   by_cases hz:aL (xs.length+zs.length)=true
   ·rw[if_pos hz] at y
    exact⟨l,l2,vs,us,rfl,rfl,.inl (.inl g5),.inl (.inl g7),by rw[g6.length,g8.length];exact bz hz,λn hn=>y _ (n::O2) (α2++[some n]) _ (T1.trans (T2.trans (Go.newL hn))) (S2.newL hn (g6.append g8)) (.h S2.at_new)⟩
   ·rw[if_neg hz] at y;exact y.elim
noncomputable def nK(h:Int->Int->Int)(fo fi f:aw->Sto->R (Val×Sto)):SG:=λ_ δ μ=>(fo δ μ).thn λr=>match r.1 with
 | .h k=>(fi δ r.2).thn λq=>match q.1,q.2[k]? with
  | .d (.int n),some (.lst xs)=>match L2.atI xs n with
   | some (.d (.int x))=>(f δ q.2).thn λy=>match y.1,y.2[k]? with
    | .d (.int m),some (.lst ys)=>match ixN ys.length n with
     | some j=>R.ret (.nx δ (y.2.set k (.lst (ys.set j (.d (.int (h x m)))))))
     | none=>none
    | _,_=>none
   | _=>none
  | _,_=>none
 | _=>none
theorem ss_augX(hop:PIp X op (ipI h))(ho:SX X G a fo)(hi:SX X G ix fi)(he:SX X G e f)
  (ha:∀ov iv new,augStore ix ov iv new=(do holding [new,ov,iv] (setItem ov iv new);release [new,ov,iv] [];pure .next):=by intros;rfl):SS X G (.AugAssign (.Subscript a ix tpos) op e pos) (nK h fo fi f):=by
 obtain⟨t,p,he⟩:=he
 obtain⟨u,q,hi⟩:=hi
 obtain⟨w,pw,ho⟩:=ho
 refine⟨_,u7 pw q sK p hop jM ha,λA δ μ O α σ H Dn E k=>?_⟩
 refine ho A δ μ O α σ H _ E (au (bf (ar k) λx μ h=>Er.go E.st h) λr z v O1 α1 H1 T1 S1 r1=>?_)
 obtain⟨p1,p2⟩:=r
 have E1:=E.go T1 S1
 match p1,z,r1 with
 | .h kk,z,r1 =>
  obtain⟨l,hl,rfl⟩:=r1.hinv
  have z:okR _ ((fi δ p2).thn _) _:=z
  refine hi A δ p2 O1 α1 σ H1 _ E1 (au (bf (ar z) λx μ h=>Er.go E1.st h) λqq y kv O2 α2 H2 T2 S2 r2=>?_)
  have E2:=E1.go T2 S2
  have hl2:=T2.ex _ _ hl
  obtain⟨q1,q2⟩:=qq
  obtain⟨ob,g1,g2⟩:=S2.at_ kk l hl2
  dsimp only at y
  rw[g1] at y
  match q1,ob,y,g2,r2 with
  | .d (.int n),.lst xs,y,g2,r2 =>
   obtain⟨_,_,vs,g3,g4⟩:=g2
   dsimp only at y
   have hkv:=r2.dinv.int_inv
   subst hkv
   cases hx:L2.atI xs n with
   | none=>rw[hx] at y;exact y.elim
   | some x =>
    rw[hx] at y
    match x,hx,y with
    | .d (.int x),hx,y =>
     obtain⟨xv,w1,w2⟩:=g4.atI hx
     refine⟨l,vs,n,xv,rfl,rfl,.inl (.inl g3),w1,?_⟩
     have y:okR _ ((f δ q2).thn _) _:=y
     refine he A δ q2 O2 α2 σ H2 _ E2 (au (bf (ar y) λx μ h=>Er.go E2.st h) λrr yy ev O3 α3 H3 T3 S3 r3=>?_)
     obtain⟨s1,s2⟩:=rr
     have hl3:=T3.ex _ _ hl2
     obtain⟨ob3,g5,g6⟩:=S3.at_ kk l hl3
     dsimp only at yy
     rw[g5] at yy
     match s1,ob3,yy,g6,r3,g5 with
     | .d (.int m),.lst ys,yy,g6,r3,g5 =>
      obtain⟨_,_,us,g7,g8⟩:=g6
      dsimp only at yy
      cases hj:ixN ys.length n with
      | none=>rw[hj] at yy;exact yy.elim
      | some j =>
       rw[hj] at yy
       have hev:=r3.dinv.int_inv
       subst hev
       have hxv:=w2.dinv.int_inv
       subst hxv
       refine⟨x,m,rfl,rfl,l,us,n,j,rfl,rfl,g7,by rw[g8.length];exact hj,?_⟩
       exact yy O3 α3 σ _ (((E2.go T3 S3)).go (Go.setL hl3) (S3.setL hl3 g5 (g8.set (.d (.int (h x m))) j))) (T1.trans (T2.trans (T3.trans (Go.setL hl3))))
end
end SL
namespace L2
open PyProof.Rows PySem.W
section
theorem uI:∀{vs:List V} {its:List Value},vs.length=its.length->(∀(i:Nat) (v:V) (u:Value),vs[i]?=some v->its[i]?=some u->bR v u)->aS vs its
 | [],[],_,_=>.nil
 | [],_::_,h,_=>by cases h
 | _::_,[],h,_=>by cases h
 | v::vs,u::its,h,k=>.cons (k 0 v u rfl rfl) (uI (by simpa using h) λi=>k (i+1))
theorem oS(hc:X.calm=true):rJ X (.type "list") (.type "range") (λxs H Q=>∃n:Nat,xs=[.int (n:Int)]/\n<=100000/\∀l,H l=none->Q (.ref l) (upd H l (.lst ((Z3 n).map λk:Nat=>V.int (k:Int))))):=by
 intro pins s σ H xs us Q I r h
 obtain⟨n,rfl,hn,q⟩:=h
 obtain⟨u,rfl,rx⟩:=kO r
 obtain⟨t,rfl⟩:=rx
 have I1:Inv X pins σ H { s with heap:=s.heap.push { cls:=.type "range",data:=.fields #[.int 0 s.toks,.int (n:Int) t,.int 1 (s.toks+1)] },toks:=s.toks+1+1 }:=I.kept λb o e=>Heap.get?_push_of_some _ e
 refine call_range_1 ?_
 refine call_list_range (n:=n) (I.ok.hd hc) (IsRange.new ..) (small_one (by decide) (by decide) (by omega) (by omega)) (by rw[rangeSize_one];split<;>omega) (by omega) λh' tk acc c kp e hy=>?_
 refine⟨.ref _,_,I1.laid (t':=tk) kp (υ _) (show fM X.prog X.w _ h' _ (.lst ((Z3 n).map λk:Nat=>V.int (k:Int))) from⟨by rw[θ,Z9,sizeLine_eq];omega,acc.toList,c,uI (by rw[θ,Z9,T8,hy.1]) (λi v u h1 h2=>?_),by simpa using e⟩),rfl,q _ (I1.hok.fresh (υ _))⟩
 rw[Λ] at h1
 have hi:i<n:=by
  rcases Y6 i n with z | z
  ·exact z
  ·rw[Y9 (by rw[Z9];exact z)] at h1;cases h1
 rw[W0 hi] at h1
 cases h1
 obtain⟨t',rfl⟩:=hy.2 i u (by simpa using h2)
 exact⟨t',by simp⟩
end
end L2
namespace DL
open PyProof.Rows L2
section
noncomputable def k6(fa:DS->M (List D)):DS->M (List D):=λδ=>(fa δ).thn λds=>match ds with
 | [.int n]=>if 0<=n/\n<=100000 then M.ret ((Z3 n.toNat).map λk:Nat=>ε (k:Int)) else none
 | _=>none
theorem wm(hx:x = "list")(hy:y = "range")(hcalm:X.calm=true)(hg:Gl X x)(hm:X.mg x=none)(hg2:Gl X y)(hm2:X.mg y=none)(ha:PDA X G [e] fa)(he:starEach [e] X.env=(false,eval e X.env)::starEach [] X.env:=by rfl) :
  PDN X G (.Call (.Name x p) [.Call (.Name y p') [e] [] pos'] [] pos) (k6 fa):=by
 subst hx hy
 obtain⟨_,t,pa,ha⟩:=ha
 refine⟨_,sh (oS hcalm) hg hm PyProof.Rows.boot_list hg2 hm2 boot_range pa (by decide) (by decide) (by decide) (by decide) he,λδ O σ H Q E k=>?_⟩
 refine ha δ O σ H _ E (ah (aq k) λds z vs H1 s1 rs=>?_)
 match ds,z with
 | [.int n],z =>
  obtain⟨v,rfl,r⟩:=fK rs
  have z:ok _ (if 0<=n/\n<=100000 then M.ret ((Z3 n.toNat).map λk:Nat=>ε (k:Int)) else none) _:=z
  by_cases hn:0<=n/\n<=100000
  ·rw[if_pos hn] at z
   refine⟨n.toNat,by rw[r.int_inv,Int.toNat_of_nonneg hn.1],by omega,λl hl=>z l _ H1 s1 hl ?_⟩
   have:∀(ks:List Nat),Reps X.K O H1 (ks.map λk:Nat=>V.int (k:Int)) (ks.map λk:Nat=>ε (k:Int)):=by
    intro ks
    induction ks with
    | nil=>exact .nil
    | cons a ks ih=>exact .cons (.int _) ih
   exact this _
  ·rw[if_neg hn] at z;exact z.elim
structure DefFM(P:Program)(w:World)(K:ζ)(mg:Str->Option Value)(base:Heap)(k:Nat)(nm m:Str)(n:Nat)(F:List D->M D):Prop where
 ex:∃(C f:Addr) (fd:FuncData) (ps:List Str),Z0 K mainGlobals nm=some (some (.ref C))/\Cls K C/\Meth K C m f/\FnOk P w K mg base CX0 k f fd ps (spDF K n F)/\gr K fd ps []
theorem wn(h:DefFM X.prog X.w X.K X.mg X.base k nm m n F)(hr:Room k X.A)(hn:(e::es).length+1=n)(ho:PD X G o f)(ha:PDA X G (e::es) fa)
  (hst:starEach (e::es) X.env=(false,eval e X.env)::starEach es X.env:=by rfl) (hpl:(backTo pos (starEach es X.env)).any (·.1)=false:=by rfl)
  (ht:eval (.Call (.Attribute o m apos) (e::es) [] pos) X.env=(do
   let ov <- eval o X.env
   standAt apos.atName
   let (f,first) <- holding [ov] (getMethod ov m pl)
   callWith pos f first (backTo pos (starEach (e::es) X.env)) (backToKw pos (keywordEach [] X.env))):=by rfl) :
  PDF X G (.Call (.Attribute o m apos) (e::es) [] pos) (dMe nm m (λds=>noX (F ds)) f fa):=by
 obtain⟨C,f0,fd,ps,hN,c,hm,F1,hb⟩:=h.ex
 obtain⟨t,p,ho⟩:=ho
 obtain⟨hl,ta,pa,ha⟩:=ha
 refine⟨_,qz (pl:=pl) p c hm F1 hr hb .nil mx pa hst hpl ht,λδ O σ H Q E k=>?_⟩
 refine ho δ O σ H _ E (ah (aq k) λx z v H1 s1 rx=>?_)
 cases hat:kW nm x with
 | none=>rw[hat] at z;exact z.elim
 | some r =>
  rw[hat] at z
  have z1:ok _ (if iZ m r=true then (fa δ).thn λds=>noX (F (x::ds)) else none) _:=z
  clear z
  by_cases hf:iZ m r=true
  ·rw[if_pos hf] at z1
   obtain⟨a,C',dx,fs,es',rfl,rfl,hN',h1,hn1,hk,rr⟩:=kL rx hat
   have hC:C'=C:=by
    have:=hN'.symm.trans hN
    simp at this
    exact this
   subst hC
   refine⟨a,dx,fs,rfl,h1,jj hk hf,?_⟩
   have k1:=aq z1
   refine ha δ O σ H1 _ (E.same s1) ?_
   cases e1:fa δ with
   | none=>rw[e1] at k1;exact k1.elim
   | some q =>
    rw[e1] at k1
    cases q with
    | error y=>exact k1
    | ok ds =>
     refine λvs H2 s2 rs=>?_
     refine⟨O,x::ds,?_,((E.same s1).same s2).oo,?_,ah (nW k1) λd z=>?_⟩
     ·show(vs++[]).length+1=n
      rw[Z4,rs.length,hl δ ds e1]
      exact hn
     ·rw[Z4]
      exact .cons (rx.same s2) rs
     ·obtain⟨ds',rfl,hfl,z⟩:=z
      refine⟨ds',rfl,hfl,λl xs H' s hl hx rx=>z l xs H' (s1.trans (s2.trans s)) ?_ hx rx⟩
      cases q:H l with
      | none=>rfl
      | some o=>rw[(s1.trans s2) l o q] at hl;cases hl
  ·rw[if_neg hf] at z1;exact z1.elim
end
end DL
namespace SL
open PyProof.Rows L2 DL
section
noncomputable def rY(fa:DS->M (List D))(t:D->aw->Option aw)(g:SG):SG:=λn δ μ=>(ofM (fa (viewN 4 μ δ)) μ).thn λxs=>match gY xs with
 | some ds=>iT t (g n) ds δ μ
 | none=>none
theorem ss_forR(hp:PassesOwn (model X.prog X.w) X.A X.env X.xe)(hc:X.calm=true)(hgl:Gl X "range")(hm:X.mg "range" = none)(ha:PDA X G [a] fa)(hg:SGT X tg t)(hb:SSs X G body g)
  (hs1:starEach [a] X.env=[(false,eval a X.env)]:=by rfl) (hs:∀x,foldedSetIterable (.Call (.Name "range" p) [a] [] ipos) X.env x=pure x:=by intro _;rfl):SS X G (.For tg (.Call (.Name "range" p) [a] [] ipos) body [] pos) (rY fa t g):=by
 obtain⟨_,ta,pa,ha⟩:=ha
 obtain⟨tgt,pt,hg⟩:=hg
 obtain⟨tb,pb,hb⟩:=hb
 refine⟨_,nS hp hc (pH hgl hm pa hs1) pt pb hs,λA δ μ O α σ H Dn E k=>?_⟩
 refine ha (viewN 4 μ δ) A.R0 σ H _ E.viewN (ah (eL E.sr (bf (ar k) λx μ h=>Er.go E.st h)) λxs zz vs H1 s1 rs=>?_)
 cases hd:gY xs with
 | none=>rw[hd] at zz;exact zz.elim
 | some ds =>
  rw[hd] at zz
  have z:okR _ (iT t (g A.α.length) ds δ μ) _:=zz
  have E1:=E.same s1
  unfold gY at hd
  split at hd
  ·rename_i j
   by_cases hz:b62 j=true
   ·rw[if_pos hz] at hd
    cases hd
    obtain⟨v,rfl,r⟩:=fK rs
    obtain⟨z1,z2⟩:=rF hz
    refine⟨j,by rw[r.int_inv],z1,z2,?_⟩
    have Y:Yl X.K (Itr 0 j.toNat) O H1 (b6 0 j.toNat):=nk
    generalize b6 0 j.toNat=ds at z Y
    refine⟨λi m σ2 H2=>m=ds.length-i/\i<=ds.length/\∃δ2 μ2 O2 α2,SEv X.K X.mg A O2 α2 H2 σ2 δ2 μ2/\Go O α H1 O2 α2 H2/\okR (Er X.K X.mg G A.R0 A.O A.α A.H) (iT t (g A.α.length) (ds.drop i) δ2 μ2) (kM X.K X.mg A O α H Dn),⟨_,rfl,X8 _,δ,μ,O,α,E1,Go.refl,z⟩,?_⟩
    rintro i m σ2 H2 ⟨rfl,hi,δ2,μ2,O2,α2,E2,T,k2⟩
    have TT:=T.to E1.sr
    by_cases hlt:i<ds.length
    ·right
     have hd:ds[i]?=some ds[i]:=ψ hlt
     obtain⟨go,yl⟩:=Y.step O2 H2 TT i _ hd
     refine⟨go,λσ' H'=>∃δ2 μ2 O2 α2,SEv X.K X.mg A O2 α2 H' σ' δ2 μ2/\Go O α H1 O2 α2 H'/\okR (Er X.K X.mg G A.R0 A.O A.α A.H) (iT t (g A.α.length) (ds.drop (i+1)) δ2 μ2) (kM X.K X.mg A O α H Dn),λσ' H' h=>⟨_,by omega,rfl,hlt,h⟩,λx H3 y=>?_⟩
     obtain⟨s3,rx⟩:=yl x H3 y
     rw[iu hd] at k2
     have E3:=E2.same s3
     have T3:=T.trans (Go.same s3)
     unfold iT at k2
     cases h3:t ds[i] δ2 with
     | none=>rw[h3] at k2;exact k2.elim
     | some δ3 =>
      rw[h3] at k2
      refine hg A δ2 δ3 ds[i] x O2 α2 σ2 μ2 H3 _ E3 rx h3 λσ4 E4=>?_
      refine hb A δ3 μ2 O2 α2 σ4 H3 _ E4 (au (ar k2) λo z=>?_)
      cases o with
      | nx δ5 μ5=>exact λO5 α5 σ5 H5 E5 T5=>⟨δ5,μ5,O5,α5,E5,T3.trans T5,z⟩
      | ct δ5 μ5=>exact λO5 α5 σ5 H5 E5 T5=>⟨δ5,μ5,O5,α5,E5,T3.trans T5,z⟩
      | bk δ5 μ5=>exact λO5 α5 σ5 H5 E5 T5=>z O5 α5 σ5 H5 E5 ((Go.same s1).trans (T3.trans T5))
      | rt v μ5=>exact z
    ·left
     have e:i=ds.length:=by omega
     subst e
     rw[V6] at k2
     exact⟨Y.stop O2 H2 TT,k2 O2 α2 σ2 H2 E2 ((Go.same s1).trans T)⟩
   ·rw[if_neg hz] at hd;cases hd
  ·cases hd
noncomputable def pC(f:DS->M D):SG:=λn δ μ=>if n=0 then (ofM (f (viewN 4 μ δ)) μ).thn λd=>R.ret (.rt (.d d) []) else none
theorem ss_retN(h:PD X G e f):SS X G (.Return (some e) pos) (pC f):=by
 obtain⟨t,p,h⟩:=h
 refine⟨_,lV p,λA δ μ O α σ H Dn E k=>?_⟩
 unfold pC at k
 by_cases hn:A.α.length=0
 ·rw[if_pos hn] at k
  refine h (viewN 4 μ δ) A.R0 σ H _ E.viewN (ah (eL E.sr (bf (ar k) λx μ h=>Er.go E.st h)) λd z v H' s r=>?_)
  have E':=E.same s
  have hα:A.α=[]:=List.length_eq_zero_iff.mp hn
  refine z v A.R0 [] H' ⟨rfl,λi j a h=>by simp at h,λl hl=>E'.sr.oo l (E'.sr.sub l hl),λ_ h=>h,λk a h=>by simp at h⟩ ?_ (.d r)
  have g:=E'.st
  rw[hα] at g
  exact⟨by rw[hα];exact g.keep,λk a hk=>by rw[hα] at hk;simp at hk,by rw[hα];exact υ _,λk b hk=>by simp at hk,λl hl=>g.ol l (E'.sr.sub l hl),g.live⟩
 ·rw[if_neg hn] at k;exact k.elim
end
end SL
namespace DL
open PyProof.Rows L2
section
variable{X:Cx}{G:XD->Hp->Prop}{f:DS->M D}{c:DS->M Bool}{fi:DS->M (List D)}{t:D->DS->Option DS}
theorem sZ{fr:List (Nat×Str)}{tn:List Str}{wi:TI}(hi:∀{Hr:Hp} (δ:DS) (O:List Addr) (σ:St) (H:Hp) (R:It->Hp->Prop),Ev X.K Hr O H σ δ->ok (GS G Hr) (fi δ) (λds=>∀J H1,aG H H1->Yl X.K J O H1 ds->R J H1)->wi σ H R)
  {Hr:Hp} (δ:DS) (O:List Addr) (σ:St) (H:Hp) (Q:VK) (E:Ev X.K Hr O H σ δ) (k:ok (GS G Hr) (bx tn.length (fr.map (·.1)) t fi c f δ) (mM X.K H Q)) :
  qj tn.length fr wi (gD X.K t) (cD X.K c) (tD X.K (λ_ _=>False) f) σ H Q:=by
 refine hi δ O σ H _ E (ah (aq k) λds z J H1 s1 Y=>?_)
 by_cases hsz:aL ds.length=true
 case neg =>
  rw[if_neg hsz] at z
  exact z.elim
 rw[if_pos hsz] at z
 intro l hl
 have E1:=E.same s1
 have hl0:H l=none:=by
  cases q:H l with
  | none=>rfl
  | some o=>rw[s1 l o q] at hl;cases hl
 have kk:=ah (aq z) λys (q:mM X.K H Q (.list ys))=>(show aN ys=true/\∀xs H2,Kp l H1 H2->H2 l=some (.lst xs)->Reps X.K [] H2 xs ys->Q (.ref l) H2 from by
  obtain⟨ds',e,hf,q⟩:=q
  cases e
  exact⟨hf,λxs H2 kp h2 rx=>q l xs H2 (s1.trans (kp.same hl)) hl0 h2 rx⟩)
 refine⟨λi m τ xs H2=>m=ds.length-i/\i<=ds.length/\xs.length<=i/\H2 l=some (.lst xs)/\∃δc ys,EC X.K O H1 l H2 τ δc/\Reps X.K (l::O) H2 xs ys /\
  ok (GS G Hr) (bP t (nX c) (nX f) (ds.drop i) δc) (λrest=>aN (ys++rest)=true/\∀xs H3,Kp l H1 H3->H3 l=some (.lst xs)->Reps X.K [] H3 xs (ys++rest)->Q (.ref l) H3),
  ⟨_,rfl,X8 _,υ _,aK,_,[],mV E1 tn.length hl,.nil,kk⟩,?_⟩
 rintro i m τ xs H2 ⟨rfl,hi,hx,h2,δc,ys,Ec,ry,kc⟩
 have kp:Kp l H1 H2:=λb o hb e=>Ec.keep b o hb e
 refine⟨h2,?_⟩
 have T:To O (l::O) H1 H2:=kp.to hl
 by_cases hlt:i<ds.length
 ·right
  have hd:ds[i]?=some ds[i]:=ψ hlt
  obtain⟨go,yl⟩:=Y.step (l::O) H2 T i _ hd
  refine⟨go,Nat.lt_of_le_of_lt hx (Z2 hlt (bz hsz)),λx H3 y=>?_⟩
  obtain⟨s3,rx⟩:=yl x H3 y
  rw[iu hd] at kc
  obtain⟨δ',ht,kc⟩:=cy (aq (show ok (GS G Hr) ((M.lift (t ds[i] δc)).thn _) _ from kc))
  refine⟨_,_,_,_,δc,δ',ds[i],l::O,Ec.same s3,rx,ht,λτ' H4 E4 s4=>?_⟩
  refine⟨_,δ',l::O,E4.ev,ah (pK (aq kc)) λb zb H5 s5=>?_⟩
  have E5:=E4.same s5
  have s25:=(s3.trans s4).trans s5
  dsimp only
  cases b with
  | false =>
   rw[if_neg ω] at zb ⊢
   exact⟨_,by omega,rfl,hlt,by omega,s25 _ _ h2,δ',ys,E5,ry.same s25,zb⟩
  | true =>
   rw[if_pos rfl] at zb ⊢
   refine⟨_,δ',l::O,E5.ev,qE (ah (pK (aq zb)) λy kz v H6 s6 rv=>?_)⟩
   have h6:H6 l=some (.lst xs):=s6 _ _ (s25 _ _ h2)
   have ts:To (l::O) (l::O) H6 (upd H6 l (.lst (xs++[v]))):=To.set h6 ο
   refine⟨h6,ds.length-(i+1),by omega,rfl,hlt,by rw[η];show xs.length+1<=i+1;omega,aK,δ',ys++[y],EC.put (E5.same s6) h6,(((ry.same s25).same s6).to ts).append (.cons (rv.to ts) .nil),?_⟩
   exact ah (aq kz) λrest q=>⟨by rw[W2];exact q.1,λxs7 H7 kp7 h7 r7=>q.2 xs7 H7 kp7 h7 (by rw[W2] at r7;exact r7)⟩
 ·left
  have e:i=ds.length:=by omega
  subst e
  rw[V6] at kc
  obtain⟨hf,kc⟩:=(show aN (ys++[])=true/\∀xs H3,Kp l H1 H3->H3 l=some (.lst xs)->Reps X.K [] H3 xs (ys++[])->Q (.ref l) H3 from kc)
  refine⟨Y.stop (l::O) H2 T,kc xs H2 kp h2 ?_⟩
  rw[Z4] at hf ⊢
  exact ry.flat hf
theorem wp(h:DefM X.prog X.w X.K X.mg X.base k nm m 1 F)(hr:Room k X.A)(ho:PD X G o f)
  (ht:eval (.Call (.Attribute o m apos) [] [] pos) X.env=(do
   let ov <- eval o X.env
   standAt apos.atName
   let (f,first) <- holding [ov] (getMethod ov m pl)
   callWith pos f first (backTo pos (starEach [] X.env)) (backToKw pos (keywordEach [] X.env))):=by rfl) :
  PD X G (.Call (.Attribute o m apos) [] [] pos) (dMe nm m (λds=>noX (F ds)) f ai):=by
 obtain⟨C,f0,fd,ps,hN,c,hm,F1,hb⟩:=h.ex
 obtain⟨t,p,ho⟩:=ho
 refine⟨_,si (pl:=pl) p c hm F1 hr hb .nil mx ht,λδ O σ H Q E k=>?_⟩
 refine ho δ O σ H _ E (ah (aq k) λx z v H1 s1 rx=>?_)
 cases hat:kW nm x with
 | none=>rw[hat] at z;exact z.elim
 | some r =>
  rw[hat] at z
  have z1:ok _ (if iZ m r=true then noX (F [x]) else none) _:=z
  clear z
  by_cases hf:iZ m r=true
  ·rw[if_pos hf] at z1
   obtain⟨a,C',dx,fs,es',rfl,rfl,hN',h1,hn1,hk,rr⟩:=kL rx hat
   have hC:C'=C:=by
    have:=hN'.symm.trans hN
    simp at this
    exact this
   subst hC
   exact⟨a,dx,fs,rfl,h1,jj hk hf,O,[_],rfl,(E.same s1).oo,.cons rx .nil,ah (nW z1) λd y v H2 s2 r2=>y v H2 (s1.trans s2) r2⟩
  ·rw[if_neg hf] at z1;exact z1.elim
end
end DL
namespace SL
open PyProof.Rows L2 DL
section
variable{X:Cx}{G:XD->Hp->Prop}
theorem pA{y:Str}{py spos:Pos}{iy:Nat}{c:DS->M Bool}{fi:DS->M (List D)}{f:DS->M D}{t:D->DS->Option DS}{cl:List (Str×Addr)}{fr:List (Nat×Str)}{tn:List Str}{elt iter tg:Expr}{ifs:List Expr}{scope:Scope}{pos:Pos}(hc:X.calm=true)
  (hkind:scope.kind=.function) (hcell:∀y∈scope.names,y.2≠.cell) (hclos:closureFor scope X.env=pure cl) (hsub:∀y c,cl.lookup y=some c->X.env.cells.lookup y=some c)
  (hhas:∀y∈(relabel scope X.env).names,(y.2=.cell\/y.2=.free)->∃c,cl.lookup y.1=some c) (hfr:∀p∈fr,X.N[p.1]?=some p.2/\X.env.kindOf p.2=some .cell/\(compEnvC scope cl 0 X.env).kindOf p.2=some .cell/\∃c,cl.lookup p.2=some c) (hnames:∀y∈scope.names,y.2=.local->scope.names.lookup y.1=some .local)
  (hi:PDI X G tg iter fi) (hg:∀C s3 H3 fp,PDG (aH X scope cl fr tn C s3 H3 fp) tg t) (hcs:∀C s3 H3 fp,o6 (aH X scope cl fr tn C s3 H3 fp) ifs c) (he:∀C s3 H3 fp,PD (aH X scope cl fr tn C s3 H3 fp) (λ_ _=>False) elt f)
  (hN:X.N.Nodup) (hiy:X.N[iy]?=some y) (hly:Loc X.env.scope y) (hs:∀x,foldedSetIterable iter X.env x=pure x:=by intro _;rfl)
  (hsw:swapsWith (.ListComp elt [⟨tg,iter,ifs,0⟩] scope pos) (some (.Name y py)) spos.line X.env=pure true:=by rfl) (hfy:X.fn y=true\/X.env.scope.names.lookup y=some .local:=by first | exact .inl rfl | exact .inr rfl | assumption) :
  SS X G (.Assign [.Name y py] (.ListComp elt [⟨tg,iter,ifs,0⟩] scope pos) spos) (dk iy (iN (bx tn.length (fr.map (·.1)) t fi c f))):=by
 obtain⟨wi,pi,hi⟩:=hi
 refine⟨_,xQ (g:=gD X.K t) (tc:=cD X.K c) (te:=tD X.K (λ_ _=>False) f) hc hkind hcell hclos hsub hhas hfr hnames pi (λC s3 H3 fp=>(hg C s3 H3 fp).can) (λC s3 H3 fp=>(hcs C s3 H3 fp).can) (λC s3 H3 fp=>(he C s3 H3 fp).can) hs hsw hN hiy hly hfy,λA δ μ O α σ H Dn E k=>?_⟩
 refine sZ hi (viewN 4 μ δ) A.R0 σ H _ E.viewN (ah (eL E.sr (ar (bf (ar k) λx μ h=>Er.go E.st h))) λd z=>?_)
 match d,z with
 | .list ds,z =>
  dsimp only at z
  by_cases hf:aN ds=true
  ·rw[if_pos hf] at z
   exact⟨ds,rfl,hf,λl xs H' s hl hx rx=>z (l::O) (α++[some l]) _ H' ((E.go (Go.adopt s hl) (E.sr.adopt s hl hx rx hf)).set (.h E.sr.at_new)) (Go.adopt s hl)⟩
  ·rw[if_neg hf] at z;exact z.elim
end
end SL
namespace CT
open L2 DL SL
noncomputable def ic:DS->M Out:=(bW (d2 oIs (d2 oIx (ac 0) (dC (.int 3))) (dC .none)))
noncomputable def aP:List D->M D:=run 1 ic
noncomputable def jp:DS->M Out:=(bW (dIf (jD (dB (d2 oEq (d2 oIx (ac 0) (dC (.int 0))) (d2 oIx (ac 0) (dC (.int 1))))) (dB (d2 oGt (d2 oIx (ac 0) (dC (.int 2))) (dC (.int 0))))) (d2 oIx (ac 0) (dC (.int 3))) (dC (.int 0))))
noncomputable def fz:List D->M D:=run 1 jp
noncomputable def j3:SL.SG:=(bA (dk 3 (cf (dCB cV (ae (ac 1) ai))))
  (bA (dk 4 (cf (dCB n0 (ae (bx 1 [] (tgN 0) (dc (ac 2)) (eG (dB (aI (λds=>noX (aP ds)) (ae (ac 0) ai)))) (d2 oIx (ac 0) (dC (.int 3)))) ai))))
  (bA (ez "Tree" "many" (aQ 0) (cf (dCB cV (ae (ac 2) ai))))
  (bA (ez "Tree" "rules" (aQ 0) (cf (gp (jW (gp (pO (ae (ac 2) ai))) (bx 2 [3] (dR 2 (aU (tgN 0) (aU (tgN 1) dS))) (kU (ae (ac 1) ai)) cH (gz (ae (ac 0) (ae (ac 2) (ae (d1 mR (ac 1)) (ae (dC .none) (ae (gz ai) ai)))))))))))
  (bA (ez "Tree" "bounds" (aQ 0) (iN (bx 1 [4] (tgN 0) (dc (d1 (aY "Tree" "rules") (ac 0))) cH (dIf (dB (aI (λds=>noX (aP ds)) (ae (ac 0) ai))) (d2 bg (ac 1) (dC (.int 1))) (d2 oIx (ac 0) (dC (.int 3)))))))
  (bA (ez "Tree" "flow" (aQ 0) (iN (bx 1 [] (tgN 0) (dc (d1 (aY "Tree" "rules") (ac 0))) cH (aI (λds=>noX (fz ds)) (ae (ac 0) ai)))))
  (bA (ez "Tree" "times" (aQ 0) (gX (jW (gp (pO (ae (ac 1) ai))) (gp (cr (ae (dC (.int 0)) ai))))))
  (bA (ez "Tree" "over" (aQ 0) (gX (jW (gp (jV (cr (ae (ac 3) ai)) (ac 3))) (gp (cr (ae (dC .none) ai))))))
  (bA (ez "Tree" "under" (aQ 0) (sCat (lR (kf gY (ae (ac 3) ai)) (cr ai)) (v7 (cx (gX (k6 (ae (ac 3) ai))) jh))))
  (bA (ez "Tree" "hooks" (aQ 0) (gX (jW (bx 1 [0] (tgN 0) (kf gY (ae (ac 3) ai)) cH (d2 bg (d1 (aY "Tree" "many") (ac 1)) (ac 0))) (gp (cr (ae (dC .none) ai))))))
  (bA (ez "Tree" "depths" (aQ 0) (gX (jW (gp (jV (cr (ae (dC (.int 1)) ai)) (ac 3))) (gp (cr (ae (dC (.int 0)) ai))))))
  (ez "Tree" "begin" (aQ 0) (cf (dC (.int 0)))))))))))))))
noncomputable def gW:List SL.Val->SL.Sto->SL.R (SL.Val×SL.Sto):=SL.kY 5 j3
noncomputable def iR:DS->M Out:=(bW (bx 1 [0] (tgN 0) (dc (ec (d1 (aY "Tree" "times") (ac 0)) ce (dW (d1 mR (dC (.int 1)))))) cH (d2 gm (ac 0) (d2 oIx (d1 (aY "Tree" "times") (ac 1)) (dC (.int 0))))))
noncomputable def gh:List D->M D:=run 1 iR
noncomputable def dr:DS->M Out:=(bW (ec (d1 (aY "Tree" "flow") (ac 0)) ce (dW (d1 (aY "Tree" "many") (ac 0)))))
noncomputable def bY:List D->M D:=run 1 dr
noncomputable def il:DS->M Out:=(aM (cv (d2 oIx (d1 (aY "Tree" "rules") (ac 0)) (ac 1)) (tgN 2))
  (bW (d2 bg (d2 gm (d2 oIx (ac 2) (dC (.int 2))) (d2 oIx (d1 (aY "Tree" "times") (ac 0)) (d2 oIx (ac 2) (dC (.int 1))))) (d2 oIx (d1 (aY "Tree" "times") (ac 0)) (d2 oIx (ac 2) (dC (.int 0)))))))
noncomputable def cp:List D->M D:=run 3 il
noncomputable def gy:DS->M Out:=(bW (dIf (dB (d2 oGt (ac 2) (dC (.int 0)))) (d2 oLt (d2 oIx (d1 (aY "Tree" "flow") (ac 0)) (ac 1)) (d2 oIx (d1 (aY "Tree" "bounds") (ac 0)) (ac 1))) (d2 oGt (d2 oIx (d1 (aY "Tree" "flow") (ac 0)) (ac 1)) (dC (.int 0)))))
noncomputable def dh:List D->M D:=run 3 gy
noncomputable def bo:DS->M Out:=(aM (cv (dMe "Tree" "lack_of" (λds=>noX (cp ds)) (ac 0) (ae (ac 5) ai)) (tgN 6))
  (gIf (jD (dB (d2 oGt (dCB t7 (ae (ac 6) ai)) (ac 4))) (dB (dMe "Tree" "is_wrong" (λds=>noX (dh ds)) (ac 0) (ae (ac 5) (ae (ac 6) ai))))) (aM (cv (ac 5) (tgN 3))
  (cv (dCB t7 (ae (ac 6) ai)) (tgN 4))) cA))
noncomputable def eS:DS->M Out:=(aM (cv (dC .none) (tgN 3))
  (aM (cv (dC (.int 0)) (tgN 4))
  (aM (eU (kf wa (ae (ac 1) (ae (ac 2) ai))) (tgN 5) bo)
  (bW (ac 3)))))
noncomputable def dq:List D->M D:=run 7 eS
noncomputable def cK:SL.SG:=(bA (dk 2 (bC (dCB oMin (ae (d2 bg (d1 (aY "Tree" "begin") (ac 0)) (dC (.int 50))) (ae (d1 (aY "Tree" "many") (ac 0)) ai)))))
  (bA (dk 3 (bC (dMe "Tree" "worst_rule" (λds=>noX (dq ds)) (ac 0) (ae (d1 (aY "Tree" "begin") (ac 0)) (ae (ac 2) ai)))))
  (bA (ez "Tree" "begin" (aQ 0) (bC (dIf (dB (d2 oLt (ac 2) (d1 (aY "Tree" "many") (ac 0)))) (ac 2) (dC (.int 0)))))
  (sIf (iC (dB (d2 eM (ac 3) (dC .none)))) (rV (aQ 3)) jO))))
noncomputable def eR:SL.SG:=(bA (rY (ae (d2 bg (d2 qF (d1 (aY "Tree" "many") (ac 0)) (dC (.int 50))) (dC (.int 1))) ai) (agN 1) cK)
  (rV (cf (dC .none))))
noncomputable def cq:List SL.Val->SL.Sto->SL.R (SL.Val×SL.Sto):=SL.kY 4 eR
noncomputable def cQ:DS->M Out:=(gIf (dB (d2 oGe (d2 oIx (d1 (aY "Tree" "depths") (ac 0)) (ac 1)) (d2 oIx (d1 (aY "Tree" "depths") (ac 0)) (ac 2)))) (cv (d2 oIx (d1 (aY "Tree" "over") (ac 0)) (ac 1)) (tgN 1)) (cv (d2 oIx (d1 (aY "Tree" "over") (ac 0)) (ac 2)) (tgN 2)))
noncomputable def ik:DS->M Out:=(aM (du (dB (d2 oNe (ac 1) (ac 2))) cQ)
  (bW (ac 1)))
noncomputable def fE:List D->M D:=run 3 ik
noncomputable def gS:DS->M Out:=(aM (jJ 3 (ac 1))
  (cv (d2 oIx (d1 (aY "Tree" "over") (ac 0)) (ac 1)) (tgN 1)))
noncomputable def lc:DS->M Out:=(aM (gC 3 (cr ai))
  (aM (du (dB (d2 oNe (ac 1) (ac 2))) gS)
  (lz 3)))
noncomputable def iz:List D->M D:=run 4 lc
noncomputable def fR:DS->M Out:=(bW (gz (ae (ac 1) (ae (d2 oIx (d1 (aY "Tree" "hooks") (ac 0)) (ac 1)) (ae (d2 oEq (d2 oIx (d2 oIx (d1 (aY "Tree" "rules") (ac 0)) (d2 oIx (d1 (aY "Tree" "hooks") (ac 0)) (ac 1))) (dC (.int 1))) (ac 1)) ai)))))
noncomputable def cU:List D->M D:=run 2 fR
noncomputable def ij:DS->M Out:=(bW (gz (ae (ac 1) (ae (d2 oIx (d1 (aY "Tree" "hooks") (ac 0)) (ac 1)) (ae (d2 oEq (d2 oIx (d2 oIx (d1 (aY "Tree" "rules") (ac 0)) (d2 oIx (d1 (aY "Tree" "hooks") (ac 0)) (ac 1))) (dC (.int 0))) (ac 1)) ai)))))
noncomputable def dI:List D->M D:=run 2 ij
noncomputable def jZ:DS->M Out:=(aM (cv (d2 oIx (ac 1) (dC (.int 1))) (tgN 2))
  (bW (dIf (dB (d2 oIx (ac 1) (dC (.int 2)))) (d2 gm (d2 oIx (d1 (aY "Tree" "bounds") (ac 0)) (ac 2)) (d2 oIx (d1 (aY "Tree" "flow") (ac 0)) (ac 2))) (d2 oIx (d1 (aY "Tree" "flow") (ac 0)) (ac 2)))))
noncomputable def cF:List D->M D:=run 3 jZ
noncomputable def fV:DS->M Out:=(aM (jJ 3 (ac 1))
  (cv (d2 oIx (d1 (aY "Tree" "over") (ac 0)) (ac 1)) (tgN 1)))
noncomputable def ig:DS->M Out:=(pV (gC 3 (cr ai))
  (pV (du (dB (d2 oNe (ac 1) (ac 2))) fV)
  (pW 3)))
noncomputable def fC:List D->M D:=run 4 ig
noncomputable def dE:SL.SG:=(bA (dk 1 (v6 (aQ 3)))
  (bA (nK (λi j=>i+j) (sAt "Tree" "times" (aQ 0)) (aQ 1) (aQ 2))
  (bA (jN (sAt "Tree" "depths" (aQ 0)) (aQ 1) (bC (d2 bg (d2 oIx (d1 (aY "Tree" "depths") (ac 0)) (d2 oIx (d1 (aY "Tree" "over") (ac 0)) (ac 1))) (dC (.int 1)))))
  (iX (xI (aQ 3) (sIx (sAt "Tree" "under" (aQ 0)) (aQ 1)))))))
noncomputable def jt:SL.SG:=(bA (dk 3 (gX (cr (ae (ac 1) ai))))
  (dZ (jg (dTr (ac 3))) dE))
noncomputable def gi:List SL.Val->SL.Sto->SL.R (SL.Val×SL.Sto):=SL.kY 4 jt
noncomputable def cI:SL.SG:=(bA (iX (v5 (sIx (sAt "Tree" "under" (aQ 0)) (bC (d2 oIx (d1 (aY "Tree" "over") (ac 0)) (ac 10)))) (aQ 10)))
  (bA (iX (v9 (sIx (sAt "Tree" "under" (aQ 0)) (bC (d2 oIx (ac 8) (ac 9)))) (aQ 10)))
  (bA (jN (sAt "Tree" "over" (aQ 0)) (aQ 10) (bC (d2 oIx (ac 8) (ac 9))))
  (jN (sAt "Tree" "hooks" (aQ 0)) (aQ 10) (bC (d2 oIx (ac 7) (ac 9)))))))
noncomputable def j4:SL.SG:=(bA (dk 4 (bC (d2 oIx (d1 (aY "Tree" "rules") (ac 0)) (ac 3))))
  (bA (dk 5 (bC (dMe "Tree" "lack_of" (λds=>noX (cp ds)) (ac 0) (ae (ac 3) ai))))
  (bA (dk 6 (iN (dMe "Tree" "way" (λds=>noX (fC ds)) (ac 0) (ae (ac 2) (ae (d2 oIx (d1 (aY "Tree" "over") (ac 0)) (ac 1)) ai)))))
  (bA (dk 7 (gX (jW (gp (cr (ae (ac 3) ai))) (bx 1 [0] (tgN 0) (dc (ac 6)) cH (d2 oIx (d1 (aY "Tree" "hooks") (ac 1)) (ac 0))))))
  (bA (dk 8 (gX (jW (gp (cr (ae (dIf (dB (d2 oEq (d2 oIx (ac 4) (dC (.int 0))) (ac 2))) (d2 oIx (ac 4) (dC (.int 1))) (d2 oIx (ac 4) (dC (.int 0)))) ai))) (ac 6))))
  (bA (iO true (mJ 2 (fv (agN 9) (fv (agN 10) mK))) (aQ 6) cI)
  (iX (lj "Tree" "shift" gi (aQ 0) (cx (aQ 2) (cx (cf (dIf (dB (d2 oEq (d2 oIx (ac 4) (dC (.int 1))) (ac 2))) (ac 5) (d1 mR (ac 5)))) jh))))))))))
noncomputable def dQ:List SL.Val->SL.Sto->SL.R (SL.Val×SL.Sto):=SL.kY 11 j4
noncomputable def ee:SL.SG:=(sIf (jg (dB (d2 oLt (dMe "Tree" "room" (λds=>noX (cF ds)) (ac 0) (ae (ac 11) ai)) (ac 9)))) (bA (dk 9 (bC (dMe "Tree" "room" (λds=>noX (cF ds)) (ac 0) (ae (ac 11) ai))))
  (dk 10 (cf (gz (ae (d2 oIx (ac 11) (dC (.int 0))) (ae (ac 4) ai)))))) jO)
noncomputable def ed:SL.SG:=(sIf (jg (dB (d2 wz (dMe "Tree" "room" (λds=>noX (cF ds)) (ac 0) (ae (ac 11) ai)) (ac 9)))) (bA (dk 9 (bC (dMe "Tree" "room" (λds=>noX (cF ds)) (ac 0) (ae (ac 11) ai))))
  (dk 10 (cf (gz (ae (d2 oIx (ac 11) (dC (.int 0))) (ae (ac 5) ai)))))) jO)
noncomputable def gf:SL.SG:=(nK (λi j=>i+j) (sAt "Tree" "flow" (aQ 0)) (cf (d2 oIx (ac 11) (dC (.int 1)))) (cf (dIf (dB (d2 oIx (ac 11) (dC (.int 2)))) (ac 9) (d1 mR (ac 9)))))
noncomputable def j0:SL.SG:=(bA (dk 2 (bC (d2 oIx (d1 (aY "Tree" "rules") (ac 0)) (ac 1))))
  (bA (dk 3 (bC (d2 oGt (dMe "Tree" "lack_of" (λds=>noX (cp ds)) (ac 0) (ae (ac 1) ai)) (dC (.int 0)))))
  (bA (dk 4 (cf (dIf (dB (ac 3)) (d2 oIx (ac 2) (dC (.int 0))) (d2 oIx (ac 2) (dC (.int 1))))))
  (bA (dk 5 (cf (dIf (dB (ac 3)) (d2 oIx (ac 2) (dC (.int 1))) (d2 oIx (ac 2) (dC (.int 0))))))
  (bA (dk 6 (bC (dMe "Tree" "meeting" (λds=>noX (fE ds)) (ac 0) (ae (ac 4) (ae (ac 5) ai)))))
  (bA (dk 7 (iN (bx 1 [0] (tgN 0) (dc (dMe "Tree" "way" (λds=>noX (iz ds)) (ac 0) (ae (ac 4) (ae (ac 6) ai)))) cH (dMe "Tree" "step_down" (λds=>noX (cU ds)) (ac 1) (ae (ac 0) ai)))))
  (bA (dk 8 (iN (bx 1 [0] (tgN 0) (dc (dMe "Tree" "way" (λds=>noX (iz ds)) (ac 0) (ae (ac 5) (ae (ac 6) ai)))) cH (dMe "Tree" "step_up" (λds=>noX (dI ds)) (ac 1) (ae (ac 0) ai)))))
  (bA (dk 9 (bC (d2 oIx (d1 (aY "Tree" "bounds") (ac 0)) (ac 1))))
  (bA (dk 10 (cf (dC .none)))
  (bA (iO false (agN 11) (aQ 7) ee)
  (bA (iO false (agN 11) (aQ 8) ed)
  (bA (iO false (agN 11) (gX (jW (gp (jW (gp (cr (ae (gz (ae (dC .none) (ae (ac 1) (ae (ac 3) ai)))) ai))) (ac 7))) (ac 8))) gf)
  (sIf (iC (dB (d2 eM (ac 10) (dC .none)))) (iX (lj "Tree" "hang" dQ (aQ 0) (cx (cf (d2 oIx (ac 10) (dC (.int 0)))) (cx (cf (d2 oIx (ac 10) (dC (.int 1)))) (cx (aQ 1) jh))))) jO)))))))))))))
noncomputable def gV:List SL.Val->SL.Sto->SL.R (SL.Val×SL.Sto):=SL.kY 12 j0
noncomputable def de:SL.SG:=(bA (iX (lj "Tree" "mend" gV (aQ 0) (cx (aQ 1) jh)))
  (dk 1 (lj "Tree" "wrong_rule" cq (aQ 0) jh)))
noncomputable def iS:SL.SG:=(bA (dk 1 (lj "Tree" "wrong_rule" cq (aQ 0) jh))
  (dZ (iC (dB (d2 eM (ac 1) (dC .none)))) de))
noncomputable def fG:List SL.Val->SL.Sto->SL.R (SL.Val×SL.Sto):=SL.kY 2 iS
noncomputable def oF:DS->M Out:=(bW (i9 (dIs "int" (ac 0)) (kS (dIs "bool" (ac 0)))))
noncomputable def dG:List D->M D:=run 1 oF
noncomputable def md:DS->M Out:=(bW (dCB wy (ae (dC (.int 0)) (ae (d2 gm (d2 oIx (ac 0) (dC (.int 2))) (d2 gm (d2 oIx (ac 1) (d2 oIx (ac 0) (dC (.int 1)))) (d2 oIx (ac 1) (d2 oIx (ac 0) (dC (.int 0)))))) ai))))
noncomputable def fW:List D->M D:=run 2 md
noncomputable def oG:DS->M Out:=(bW (bx 2 [1] (dR 2 (aU (tgN 0) (aU (tgN 1) dS))) (kU (ae (ac 0) ai)) (jD (dB (aI (λds=>noX (aP ds)) (ae (ac 1) ai))) (dB (d2 oGt (aI (λds=>noX (fW ds)) (ae (ac 1) (ae (ac 2) ai))) (dC (.int 0))))) (ac 0)))
noncomputable def kj:List D->M D:=run 2 oG
noncomputable def qR:DS->M Out:=(bW (dCB n0 (ae (bx 1 [1] (tgN 0) (dc (ac 0)) (eG (dB (aI (λds=>noX (aP ds)) (ae (ac 0) ai)))) (d2 oe (d2 oIx (ac 0) (dC (.int 3))) (aI (λds=>noX (fW ds)) (ae (ac 0) (ae (ac 1) ai))))) ai)))
noncomputable def nj:List D->M D:=run 2 qR
noncomputable def mE:DS->M Out:=(aM (gIf (dOr (eG (dB (dIs "list" (ac 1)))) (dB (d2 oNe (dCB cV (ae (ac 1) ai)) (d2 bg (ac 0) (dC (.int 1)))))) (bW (dC (.bool false))) cA)
  (bW (i9 (dCB su (ae (bx 1 [] (tgN 0) (dc (ac 1)) cH (aI (λds=>noX (dG ds)) (ae (ac 0) ai))) ai)) (d2 oEq (d2 oIx (ac 1) (dC (.int 0))) (dC (.int 0))))))
noncomputable def gq:List D->M D:=run 2 mE
noncomputable def fq:DS->M Out:=(cv (d2 oIx (d2 oIx (ac 0) (d2 oIx (ac 1) (ac 2))) (dC (.int 0))) (tgN 2))
noncomputable def fm:DS->M Out:=(aM (jJ 4 (d2 oIx (ac 1) (ac 5)))
  (cv (d2 oIx (d2 oIx (ac 0) (d2 oIx (ac 1) (ac 5))) (dC (.int 0))) (tgN 5)))
noncomputable def jo:DS->M Out:=(aM (eU (kf gY (ae (dCB cV (ae (ac 1) ai)) ai)) (tgN 3) fq)
  (aM (gC 4 (cr (ae (d2 oIx (ac 1) (ac 2)) ai)))
  (aM (cv (d2 oIx (d2 oIx (ac 0) (d2 oIx (ac 1) (ac 2))) (dC (.int 0))) (tgN 5))
  (aM (du (dB (d2 oNe (ac 5) (ac 2))) fm)
  (wM 4 (bW (dCB og (ae (ac 4) ai))))))))
noncomputable def fw:List D->M D:=run 6 jo
noncomputable def cO:SL.SG:=(sIf (iC (jD (dB (aI (λds=>noX (aP ds)) (ae (ac 5) ai))) (dB (d2 oGt (d2 bg (d2 oIx (ac 1) (d2 oIx (ac 5) (dC (.int 0)))) (d2 oIx (ac 5) (dC (.int 2)))) (d2 oIx (ac 1) (d2 oIx (ac 5) (dC (.int 1)))))))) (bA (pB 1 (cf (d2 oIx (ac 5) (dC (.int 1)))) (rW (d2 bg (d2 oIx (ac 1) (d2 oIx (ac 5) (dC (.int 0)))) (d2 oIx (ac 5) (dC (.int 2))))))
  (bA (pB 2 (cf (d2 oIx (ac 5) (dC (.int 1)))) (aQ 4))
  (dk 3 (cf (d2 oIx (ac 5) (dC (.int 1))))))) jO)
noncomputable def ib:SL.SG:=(bA (dk 3 (cf (dC .none)))
  (bA (v8 (kU (ae (ac 0) ai)) (mJ 2 (fv (agN 4) (fv (agN 5) mK))) cO)
  (rV (aQ 3))))
noncomputable def di:List SL.Val->SL.Sto->SL.R (SL.Val×SL.Sto):=SL.kY 6 ib
noncomputable def dz:SL.SG:=(bA (dk 5 (nJ di (cx (aQ 1) (cx (aQ 2) (cx (aQ 3) jh)))))
  (sIf (iC (dB (d2 oIs (ac 5) (dC .none)))) (nI (gz (ae (dC (.str "kept")) (ae (bx 1 [2] (tgN 0) (dc (ac 2)) cH (d2 gm (ac 0) (d2 oIx (ac 1) (dC (.int 0))))) ai)))) jO))
noncomputable def mf:SL.SG:=(bA (pD 2 (jV (cr (ae (dC (.int 0)) ai)) (d2 bg (ac 0) (dC (.int 1)))))
  (bA (pD 3 (jV (cr (ae (dC .none) ai)) (d2 bg (ac 0) (dC (.int 1)))))
  (bA (v8 (kf gY (ae (d2 bg (ac 0) (dC (.int 1))) ai)) (agN 4) dz)
  (nI (gz (ae (dC (.str "ring")) (ae (aI (λds=>noX (fw ds)) (ae (ac 1) (ae (ac 3) (ae (ac 5) ai)))) ai)))))))
noncomputable def eI:List SL.Val->SL.Sto->SL.R (SL.Val×SL.Sto):=SL.kY 6 mf
noncomputable def eP:SL.SG:=(bA (dk 2 (nJ eI (cx (aQ 0) (cx (aQ 1) jh))))
  (bA (sIf (iC (dB (d2 oEq (d2 oIx (ac 2) (dC (.int 0))) (dC (.str "ring"))))) (rV (aQ 2)) jO)
  (bA (dk 3 (sMk "Tree" gW (cx (cf (d2 oIx (ac 2) (dC (.int 1)))) (cx (aQ 1) jh))))
  (bA (iX (lj "Tree" "settle" fG (aQ 3) jh))
  (pC (gz (ae (dC (.str "timed")) (ae (dMe "Tree" "timing" (λds=>noX (gh ds)) (ac 3) ai) (ae (dMe "Tree" "flow_of_rules" (λds=>noX (bY ds)) (ac 3) ai) ai)))))))))
noncomputable def eu:List SL.Val->SL.Sto->SL.R (SL.Val×SL.Sto):=SL.kY 4 eP
noncomputable def cS:List D->M D:=SL.asD eu
noncomputable def i5:DS->M Out:=(aM (gIf (dOr (eG (dB (aI (λds=>noX (dG ds)) (ae (ac 1) ai)))) (dB (d2 oLt (ac 1) (dC (.int 0))))) (bW (dC (.bool false))) cA)
  (bW (uz (aI (λds=>noX (aP ds)) (ae (ac 0) ai)) (d2 wz (ac 1) (d2 oIx (ac 0) (dC (.int 3)))))))
noncomputable def cR:List D->M D:=run 2 i5
noncomputable def iL:DS->M Out:=(aM (mG 3 (λi j=>i-j) (d2 oIx (ac 4) (dC (.int 0))) (ac 5))
  (mG 3 (λi j=>i+j) (d2 oIx (ac 4) (dC (.int 1))) (ac 5)))
noncomputable def pU:DS->M Out:=(aM (gIf (dOr (eG (dB (dIs "list" (ac 2)))) (dB (d2 oNe (dCB cV (ae (ac 2) ai)) (dCB cV (ae (ac 1) ai))))) (bW (dC (.bool false))) cA)
  (aM (gIf (eG (dB (dCB su (ae (bx 2 [] (dR 2 (aU (tgN 0) (aU (tgN 1) dS))) (sW (ae (ac 1) (ae (ac 2) ai))) cH (aI (λds=>noX (cR ds)) (ae (ac 0) (ae (ac 1) ai)))) ai)))) (bW (dC (.bool false))) cA)
  (aM (gC 3 (jV (cr (ae (dC (.int 0)) ai)) (d2 bg (ac 0) (dC (.int 1)))))
  (aM (eU (sW (ae (ac 1) (ae (ac 2) ai))) (dR 2 (aU (tgN 4) (aU (tgN 5) dS))) iL)
  (wM 3 (bW (dCB su (ae (bx 1 [] (tgN 0) (dc (ac 3)) cH (d2 oEq (ac 0) (dC (.int 0)))) ai))))))))
noncomputable def jc:List D->M D:=run 6 pU
noncomputable def qQ:DS->M Out:=(bW (dCB n0 (ae (bx 2 [] (dR 2 (aU (tgN 0) (aU (tgN 1) dS))) (sW (ae (ac 0) (ae (ac 1) ai))) cH (d2 oe (d2 oIx (ac 0) (dC (.int 2))) (ac 1))) ai)))
noncomputable def ni:List D->M D:=run 2 qQ
noncomputable def pT:DS->M Out:=(aM (gIf (dOr (eG (dB (aI (λds=>noX (gq ds)) (ae (ac 0) (ae (ac 2) ai))))) (eG (dB (aI (λds=>noX (jc ds)) (ae (ac 0) (ae (ac 1) (ae (ac 3) ai))))))) (bW (dC (.bool false))) cA)
  (bW (i9 (d2 oEq (aI (λds=>noX (kj ds)) (ae (ac 1) (ae (ac 2) ai))) (iA ai)) (d2 oEq (aI (λds=>noX (ni ds)) (ae (ac 1) (ae (ac 3) ai))) (aI (λds=>noX (nj ds)) (ae (ac 1) (ae (ac 2) ai)))))))
noncomputable def dP:List D->M D:=run 4 pT
end CT
open L2 DL
open NumText
namespace TX
noncomputable def S(l:List Nat):Str:=⟨l.toArray⟩
theorem S_len(l:List Nat):(S l).length=l.length:=by unfold S;show l.toArray.size=_;simp
decreasing_by omega
end TX
namespace DL
section
theorem kC(h1:f δ=M.ret x)(h2:fl δ=M.ret lo)(h3:fh δ=M.ret hi)(h4:my lo hi x=some d):ec f fl fh δ=M.ret d:=by
 unfold ec;rw[h1,aD,h2,aD,h3,aD,h4];rfl
end
end DL
namespace TX
noncomputable def pre(c:Nat)(l:List Nat):List Nat:=l.takeWhile (· != c)
noncomputable def post(c:Nat)(l:List Nat):List Nat:=(l.dropWhile (· != c)).drop 1
end TX
open CT TX
namespace TX
theorem lenT(h:l.length<=1000):cV [.str (S l)]=some (.int ((l.length:Nat):Int)):=by
 show(if aL (S l).length=true then _ else _)=_
 rw[S_len,if_pos (ax (by omega))]
end TX
namespace DL
theorem jY(l:List Int):∀d∈l.map ε,d.canLay0=true/\d.depth<=5:=λd hd=>by
 obtain⟨i,_,rfl⟩:=W8.mp hd
 exact⟨rfl,X8 _⟩
section
theorem oK(h1:t d δ=some δ')(hc:c δ'=M.ret true)(h2:f δ'=M.ret y)(h3:bP t (nX c) (nX f) ds δ'=M.ret ys):bP t (nX c) (nX f) (d::ds) δ=M.ret (y::ys):=by
 show(M.lift (t d δ)).thn _=_
 rw[h1,l4,aD]
 show(noX (c δ')).thn _=_
 rw[hc]
 show(noX (f δ')).thn _=_
 rw[h2]
 show(bP _ _ _ _ _).thn _=_
 rw[h3]
 rfl
theorem oM(h1:t d δ=some δ')(hc:c δ'=M.ret false)(h3:bP t (nX c) (nX f) ds δ'=M.ret ys):bP t (nX c) (nX f) (d::ds) δ=M.ret ys:=by
 show(M.lift (t d δ)).thn _=_
 rw[h1,l4,aD]
 show(noX (c δ')).thn _=_
 rw[hc]
 exact h3
end
theorem bE{T:List Int}{i:Nat}(h:i<T.length):oIx (.list (T.map ε)) (.int (i:Int))=some (.int (T.getD i 0)):=by
 refine k9 (by omega) ?_
 rw[Y8,Λ,ψ h,Δ,ψ h]
 rfl
theorem ints_of(l:List Int):jl (l.map ε)=some l:=by
 induction l with
 | nil=>rfl
 | cons a r ih=>show(jl (r.map ε)).map (a :: ·)=_;rw[ih];rfl
theorem bh(h1:body d δ=M.ret (.nx δ'))(h2:im body ds δ'=r):im body (d::ds) δ=r:=by
 show(body d δ).thn _=_
 rw[h1]
 exact h2
section
theorem vG(h:δ[i]?=some (.ow ds))(h1:f δ=M.ret d)(h2:fi δ=M.ret (.int k))(h3:L2.ixN ds.length k=some j):oI i fi f δ=M.ret (.nx (δ.set i (.ow (ds.set j d)))):=by
 unfold oI
 rw[h]
 dsimp only
 rw[h1,aD,h2,aD]
 dsimp only
 rw[h3]
theorem vI(h0:δ[i]?=some (.ow ds))(h2:fi δ=M.ret (.int k))(h3:L2.ixN ds.length k=some j)(h4:ds[j]?=some (.int a))(h1:f δ=M.ret (.int n)):mG i h fi f δ=M.ret (.nx (δ.set i (.ow (ds.set j (.int (h a n)))))):=by
 unfold mG
 rw[h0]
 dsimp only
 rw[h2,aD]
 dsimp only
 rw[h3]
 dsimp only
 rw[h4]
 dsimp only
 rw[h1,aD]
end
theorem ev_orV_t(h1:f δ=M.ret (.bool true)):uz f g δ=M.ret (.bool true):=by unfold uz;rw[aC h1];rfl
theorem ev_orV_f(h1:f δ=M.ret (.bool false))(h2:g δ=M.ret d):uz f g δ=M.ret d:=by unfold uz;rw[aC h1,aD,if_neg ω];exact h2
end DL
namespace CT
noncomputable def jn(c:Nat):List (List Nat)->List Nat
 | []=>[]
 | [a]=>a
 | a::b::r=>a++c::jn c (b::r)
noncomputable def tot:List (List Nat)->Nat
 | []=>0
 | a::r=>a.length+1+tot r
theorem qh(a b:List (List Nat)):tot (a++b)=tot a+tot b:=by
 induction a with
 | nil=>simp [tot]
 | cons x a ih=>rw[List.cons_append,tot,tot,ih];omega
abbrev tx(l:List Nat):D:=.str (S l)
structure Rl where
 lo:Nat
 hi:Nat
 le:Int
 w:Option Int
 why:D
noncomputable def wD:Option Int->D
 | none=>.none
 | some w=>.int w
noncomputable def rl(r:Rl):D:=.tuple [.int (r.lo:Int),.int (r.hi:Int),.int r.le,wD r.w,r.why]
noncomputable def lk(T:List Int)(r:Rl):Int:=max 0 (r.le-(T.getD r.hi 0-T.getD r.lo 0))
def Pts(n:Nat)(rs:List Rl):Prop:=∀r∈rs,r.lo<n/\r.hi<n
theorem ku(r:Rl):aP [rl r]=M.ret (.bool r.w.isNone):=by
 refine aE ?_
 unfold ic
 refine aO (ag (x:=wD r.w) (y:=.none) (ag (aa rfl) aj rfl) aj ?_)
 cases r.w<;>rfl
noncomputable def brk(T:List Int):Nat->List Rl->List Int
 | _,[]=>[]
 | k,r::rs=>if r.w.isNone=true/\0<lk T r then (k:Int)::brk T (k+1) rs else brk T (k+1) rs
theorem kE:∀(n:Nat) (xs:List D) (i:Nat),(b5 n xs)[i]?=xs[i]?.map λx=>.tuple [.int ((n+i:Nat):Int),x]
 | n,[],i=>by simp [b5]
 | n,x::xs,0=>by simp [b5]
 | n,x::xs,i+1=>by
  rw[b5,List.getElem?_cons_succ,List.getElem?_cons_succ,kE (n+1) xs i,show n+1+i=n+(i+1) by omega]
end CT
namespace DL
theorem sR:∀a b:List Int,PyData.eqvAll (a.map ε) (b.map ε)=decide (a=b)
 | [],[]=>rfl
 | [],_::_=>by simp [PyData.eqvAll]
 | _::_,[]=>by simp [PyData.eqvAll]
 | x::a,y::b=>by
  have ih:=sR a b
  rw[Θ,Θ,PyData.eqvAll,ih,PyData.eqv]
  by_cases h1:x=y<;>by_cases h2:a=b<;>simp [h1,h2]
theorem wW(xs:List α)(n:Nat):lf xs none (some (n:Int))=xs.take n:=by
 unfold lf
 rw[HT.rX,HT.uT,List.drop_zero,Nat.sub_zero]
 rcases Nat.le_total n xs.length with h | h
 ·rw[Nat.min_eq_left h]
 ·rw[Nat.min_eq_right h,List.take_length,List.take_of_length_le h]
theorem wX(xs:List α)(n:Nat):lf xs (some (n:Int)) none=xs.drop n:=by
 unfold lf
 rw[HT.rX,HT.uT]
 rcases Nat.le_total n xs.length with h | h
 ·rw[Nat.min_eq_left h,List.take_of_length_le (by rw[List.length_drop];omega)]
 ·rw[Nat.min_eq_right h,List.drop_eq_nil_of_le (υ _),List.drop_eq_nil_of_le h,List.take_nil]
theorem tZ(l:List Int):n0 [.list (l.map ε)]=some (.int l.sum):=by
 show(jl (l.map ε)).map _=_
 rw[ints_of]
 rfl
noncomputable def mj:List Int->List Int->Bool
 | _,[]=>true
 | acc,a::l=>!(acc.any (·==a))&&mj (acc++[a]) l
end DL
namespace CT
noncomputable def loI(r:Rl):Int:=(r.lo:Int)
noncomputable def hiI(r:Rl):Int:=(r.hi:Int)
noncomputable def noW(r:Rl):Bool:=r.w.isNone
noncomputable def leI(r:Rl):Int:=r.le
noncomputable def xM(q:List Rl):Bool:=decide (q.map hiI=(q.map loI).drop 1++(q.map loI).take 1)&&mj [] (q.map loI)&&(q.all noW&&decide (0<(q.map leI).sum))
noncomputable def okE(n:Nat):D->Bool
 | .int i=>decide (0<=i)&&decide (i<(n:Int))
 | _=>false
noncomputable def r0:Rl:=⟨0,0,0,none,.none⟩
noncomputable def atR(rs:List Rl):D->Rl
 | .int i=>rs.getD i.toNat r0
 | _=>r0
noncomputable def pF(rs:List Rl)(ds:List D):Bool:=!ds.isEmpty&&(ds.all (okE rs.length)&&xM (ds.map (atR rs)))
structure KS where
 T:List Int
 Z:List (Option Nat)
 z:Option Nat
noncomputable def KS.t(s:KS)(v:Nat):Int:=s.T.getD v 0
noncomputable def stp(j:Nat)(r:Rl)(s:KS):KS :=
 if r.w=none/\s.t r.hi<s.t r.lo+r.le then ⟨s.T.set r.hi (s.t r.lo+r.le),s.Z.set r.hi (some j),some r.hi⟩ else s
noncomputable def iY:Nat->List Rl->KS->KS
 | _,[],s=>s
 | j,r::q,s=>iY (j+1) q (stp j r s)
noncomputable def fL(rs:List Rl):Nat->KS->Bool×KS
 | 0,s=>(false,s)
 | m+1,s=>if (iY 0 rs { s with z:=none }).z=none then (true,iY 0 rs { s with z:=none }) else fL rs m (iY 0 rs { s with z:=none })
noncomputable def oY(R k i j:Nat):Nat:=if j<i then k*R+j+1 else k*R+j+1-R
structure KInv(n:Nat)(rs:List Rl)(k i:Nat)(st:Nat->Nat)(s:KS):Prop where
 lT:s.T.length=n
 lZ:s.Z.length=n
 ev:∀v,st v<=k*rs.length+i
 zr:∀v,v<n->0<st v->∃j r,s.Z[v]?=some (some j)/\rs[j]?=some r/\r.w=none/\r.hi=v/\(s.t v<s.t r.lo+r.le\/(s.t v=s.t r.lo+r.le/\st r.lo<st v))/\st v<=st r.lo+rs.length
 ex:∀j r,rs[j]?=some r->r.w=none->st r.lo<oY rs.length k i j->s.t r.lo+r.le<=s.t r.hi
 zp:∀p,s.z=some p->p<n/\k*rs.length<st p
 zn:s.z=none->∀j r,j<i->rs[j]?=some r->r.w=none->s.t r.lo+r.le<=s.t r.hi
theorem getD_set{l:List Int}{i v:Nat}{x:Int}(h:i<l.length):(l.set i x).getD v 0=if v=i then x else l.getD v 0:=by
 rw[Δ,Δ,V5]
 by_cases e:i=v
 ·subst e;rw[if_pos rfl,if_pos h,if_pos rfl];rfl
 ·rw[if_neg e,if_neg (λz=>e z.symm)]
theorem stp_inv{n:Nat}{rs:List Rl}{k i:Nat}{st:Nat->Nat}{s:KS}{r:Rl}(hp:Pts n rs)(I:KInv n rs k i st s)(hr:rs[i]?=some r):∃st',KInv n rs k (i+1) st' (stp i r s):=by
 have hi:i<rs.length:=(ς.mp hr).1
 obtain⟨hlo,hhi⟩:=hp r (W4 hr)
 have hex:∀j,j≠i->oY rs.length k (i+1) j=oY rs.length k i j:=λj hj=>by
  unfold oY
  by_cases h:j<i
  ·rw[if_pos h,if_pos (by omega)]
  ·rw[if_neg h,if_neg (by omega)]
 unfold stp
 by_cases hc:r.w=none/\s.t r.hi<s.t r.lo+r.le
 ·rw[if_pos hc]
  obtain⟨hw,hlt⟩:=hc
  have hge:oY rs.length k i i<=st r.lo:=by
   apply Nat.le_of_not_lt
   intro z
   have:=I.ex i r hr hw z
   omega
  have hge2:k*rs.length+i+1<=st r.lo+rs.length:=by
   unfold oY at hge
   rw[if_neg (V4 i)] at hge
   omega
  obtain⟨s',hs'⟩:∃s':KS,s'=⟨s.T.set r.hi (s.t r.lo+r.le),s.Z.set r.hi (some i),some r.hi⟩:=⟨_,rfl⟩
  rw[<-hs']
  have ht:∀v,s'.t v=if v=r.hi then s.t r.lo+r.le else s.t v:=λv=>by
   rw[hs']
   exact getD_set (by rw[I.lT];exact hhi)
  have hZ:∀v,v≠r.hi->s'.Z[v]?=s.Z[v]?:=λv hv=>by
   rw[hs']
   show(s.Z.set r.hi (some i))[v]?=_
   rw[V5,if_neg (λz=>hv z.symm)]
  have hZ0:s'.Z[r.hi]?=some (some i):=by
   rw[hs']
   show(s.Z.set r.hi (some i))[r.hi]?=_
   rw[V5,if_pos rfl,if_pos (by rw[I.lZ];exact hhi)]
  have hst:∀v,st v<=k*rs.length+i:=I.ev
  refine⟨λv=>if v=r.hi then k*rs.length+i+1 else st v,⟨?_,?_,λv=>?_,λv hv h0=>?_,λj q hj hq hlt2=>?_,λp hz=>?_,λhz=>?_⟩⟩
  ·rw[hs'];show(s.T.set _ _).length=n;rw[Ω];exact I.lT
  ·rw[hs'];show(s.Z.set _ _).length=n;rw[Ω];exact I.lZ
  ·try dsimp only
   have:=hst v
   split<;>omega
  ·try dsimp only at h0 ⊢
   by_cases e:v=r.hi
   ·rw[e]
    refine⟨i,r,hZ0,hr,hw,rfl,?_,?_⟩
    ·rw[ht,ht,if_pos rfl]
     by_cases e2:r.lo=r.hi
     ·left
      rw[if_pos e2]
      rw[e2] at hlt ⊢
      omega
     ·right
      rw[if_neg e2,if_neg e2,if_pos rfl]
      have:=hst r.lo
      exact⟨rfl,by omega⟩
    ·rw[if_pos rfl]
     have:=hst r.lo
     split<;>omega
   ·rw[if_neg e] at h0 ⊢
    obtain⟨j,q,h1,h2,h3,h4,h5,h6⟩:=I.zr v hv h0
    refine⟨j,q,by rw[hZ v e];exact h1,h2,h3,h4,?_,?_⟩
    ·rw[ht,ht,if_neg e]
     by_cases e2:q.lo=r.hi
     ·left
      rw[if_pos e2]
      rw[e2] at h5
      omega
     ·rw[if_neg e2,if_neg e2]
      exact h5
    ·have:=hst q.lo
     split
     ·rename_i e2;rw[e2] at h6;have:=hst r.hi;omega
     ·exact h6
  ·try dsimp only at hlt2
   rw[ht,ht]
   by_cases e2:q.lo=r.hi
   ·rw[if_pos e2] at hlt2
    exfalso
    have:oY rs.length k (i+1) j<=k*rs.length+i+1:=by
     have hjl:j<rs.length:=(ς.mp hj).1
     unfold oY
     split<;>omega
    omega
   ·rw[if_neg e2] at hlt2 ⊢
    by_cases ej:j=i
    ·subst ej
     rw[hr] at hj
     cases hj
     rw[if_pos rfl]
     exact T7 _
    ·rw[hex j ej] at hlt2
     have:=I.ex j q hj hq hlt2
     by_cases e3:q.hi=r.hi
     ·rw[if_pos e3]
      rw[e3] at this
      omega
     ·rw[if_neg e3]
      exact this
  ·rw[hs'] at hz
   cases hz
   refine⟨hhi,?_⟩
   try dsimp only
   rw[if_pos rfl]
   omega
  ·rw[hs'] at hz
   cases hz
 ·rw[if_neg hc]
  have hkeep:r.w=none->s.t r.lo+r.le<=s.t r.hi:=λhw=>by
   apply Int.le_of_not_gt
   intro z
   exact hc ⟨hw,z⟩
  refine⟨st,I.lT,I.lZ,λv=>by have:=I.ev v;omega,I.zr,λj q hj hq hlt=>?_,I.zp,λhz j q hj hq hw=>?_⟩
  ·by_cases ej:j=i
   ·subst ej
    rw[hr] at hj
    cases hj
    exact hkeep hq
   ·rw[hex j ej] at hlt
    exact I.ex j q hj hq hlt
  ·by_cases ej:j=i
   ·subst ej
    rw[hr] at hq
    cases hq
    exact hkeep hw
   ·exact I.zn hz j q (by omega) hq hw
theorem sn(hp:Pts n rs):∀(q:List Rl) (i:Nat) (st:Nat->Nat) (s:KS),rs.drop i=q->KInv n rs k i st s->∃st',KInv n rs k (i+q.length) st' (iY i q s)
 | [],i,st,s,_,I=>⟨st,I⟩
 | r::q,i,st,s,hq,I=>by
  have hr:rs[i]?=some r:=by
   have:=congrArg List.head? hq
   rw[List.head?_drop] at this
   exact this
  have hq':rs.drop (i+1)=q:=by rw[<-List.drop_drop,hq];rfl
  obtain⟨st1,I1⟩:=stp_inv hp I hr
  obtain⟨st2,I2⟩:=sn hp q (i+1) st1 _ hq' I1
  refine⟨st2,?_⟩
  rw[Φ,show i+(q.length+1)=i+1+q.length by omega]
  exact I2
theorem KInv.next(I:KInv n rs k rs.length st s):KInv n rs (k+1) 0 st { s with z:=none }:=by
 have e:(k+1)*rs.length=k*rs.length+rs.length:=Nat.succ_mul _ _
 refine⟨I.lT,I.lZ,λv=>by have:=I.ev v;omega,I.zr,λj r hj hr hlt=>I.ex j r hj hr ?_,(λp h=>nomatch h),λ_ j r h=>absurd h (X6 j)⟩
 have hjl:j<rs.length:=(ς.mp hj).1
 unfold oY at hlt ⊢
 rw[if_pos hjl]
 rw[if_neg (X6 j)] at hlt
 omega
def kX(t:Nat->Int)(rs:List Rl):Prop:=∀r∈rs,r.w=none->t r.lo+r.le<=t r.hi
theorem sF(hp:Pts n rs):∀(m k:Nat) (st:Nat->Nat) (s:KS),KInv n rs k 0 st { s with z:=none }->∃b s',fL rs m s=(b,s')/\(b=true->s'.T.length=n/\kX s'.t rs)/\(b=false->(m=0/\s'=s)\/∃st' p,KInv n rs (k+m-1) rs.length st' s'/\s'.z=some p)
 | 0,k,st,s,I=>⟨false,s,rfl,λh=>(nomatch h),λ_=>.inl ⟨rfl,rfl⟩⟩
 | m+1,k,st,s,I=>by
  obtain⟨st1,I1⟩:=sn hp rs 0 st _ rfl I
  rw[Nat.zero_add] at I1
  rw[fL]
  obtain⟨s1,hs1⟩:∃s1,s1=iY 0 rs { s with z:=none }:=⟨_,rfl⟩
  rw[<-hs1] at I1 ⊢
  cases hz:s1.z with
  | none =>
   rw[if_pos rfl]
   refine⟨true,s1,rfl,λ_=>⟨I1.lT,λr hr hw=>?_⟩,λh=>(nomatch h)⟩
   obtain⟨j,hj⟩:=List.mem_iff_getElem?.mp hr
   exact I1.zn hz j r (ς.mp hj).1 hj hw
  | some p =>
   rw[if_neg (λz=>nomatch z)]
   obtain⟨b,s',h1,h2,h3⟩:=sF hp m (k+1) st1 s1 I1.next
   refine⟨b,s',h1,h2,λhb=>.inr ?_⟩
   rcases h3 hb with ⟨h4,h5⟩ | ⟨st',p',h4,h5⟩
   ·subst h4 h5
    exact⟨st1,p,by rw[show k+(0+1)-1=k by omega];exact I1,hz⟩
   ·exact⟨st',p',by rw[show k+(m+1)-1=k+1+m-1 by omega];exact h4,h5⟩
noncomputable def kP(rs:List Rl)(Z:List (Option Nat))(v:Nat):Nat:=match Z[v]? with
 | some (some j)=>match rs[j]? with
  | some r=>r.lo
  | none=>0
 | _=>0
noncomputable def ups(rs:List Rl)(Z:List (Option Nat)):Nat->Nat->Nat
 | 0,v=>v
 | i+1,v=>kP rs Z (ups rs Z i v)
theorem fY(rs:List Rl)(Z:List (Option Nat))(v:Nat)(i:Nat):∀j,ups rs Z (i+j) v=ups rs Z j (ups rs Z i v)
 | 0=>rfl
 | j+1=>by rw[<-Nat.add_assoc,ups,fY rs Z v i j,ups]
structure Raised(n:Nat)(rs:List Rl)(s:KS)(st:Nat->Nat)(v:Nat):Prop where
 lt:v<n
 ex:∃j r,s.Z[v]?=some (some j)/\rs[j]?=some r/\r.w=none/\r.hi=v/\kP rs s.Z v=r.lo/\(s.t v<s.t r.lo+r.le\/(s.t v=s.t r.lo+r.le/\st r.lo<st v))/\st v<=st r.lo+rs.length
theorem KInv.raised(I:KInv n rs k i st s)(hv:v<n)(h:0<st v):Raised n rs s st v:=by
 obtain⟨j,r,h1,h2,h3,h4,h5,h6⟩:=I.zr v hv h
 refine⟨hv,j,r,h1,h2,h3,h4,?_,h5,h6⟩
 unfold kP
 rw[h1]
 try dsimp only
 rw[h2]
theorem xS:∀(n:Nat) (f:Nat->Nat),(∀i,i<=n->f i<n)->∃a b,a<b/\b<=n/\f a=f b
 | 0,f,h=>absurd (h 0 (υ 0)) (X6 _)
 | n+1,f,h=>by
  by_cases hx:∃i,i<=n/\f i=f (n+1)
  ·obtain⟨i,h1,h2⟩:=hx
   exact⟨i,n+1,by omega,υ _,h2⟩
  ·
   obtain⟨a,b,h1,h2,h3⟩:=xS n (λi=>if f i=n then f (n+1) else f i) λi hi=>by
    have h1:=h i (by omega)
    have h2:=h (n+1) (υ _)
    have h3:f i≠f (n+1):=λz=>hx ⟨i,hi,z⟩
    try dsimp only
    split<;>omega
   refine⟨a,b,h1,by omega,?_⟩
   have ha:f a≠f (n+1):=λz=>hx ⟨a,by omega,z⟩
   have hb:f b≠f (n+1):=λz=>hx ⟨b,by omega,z⟩
   try dsimp only at h3
   split at h3<;>split at h3<;>omega
theorem ring_at(hp:Pts n rs)(I:KInv n rs k rs.length st s)(hz:s.z=some p)(hn:n<=k+1) :
  (∀i,i<n->Raised n rs s st (ups rs s.Z i p))/\∃c,0<c/\c<=n/\ups rs s.Z c (ups rs s.Z n p)=ups rs s.Z n p/\∀i,Raised n rs s st (ups rs s.Z i (ups rs s.Z n p)):=by
 obtain⟨h1,h2⟩:=I.zp p hz
 have hst:∀i,i<=k+1->(k+1-i)*rs.length<st (ups rs s.Z i p)+rs.length/\ups rs s.Z i p<n:=by
  intro i
  induction i with
  | zero =>
   intro _
   refine⟨?_,h1⟩
   show(k+1)*rs.length<st p+_
   rw[Nat.succ_mul]
   omega
  | succ i ih =>
   intro hi
   obtain⟨g1,g2⟩:=ih (by omega)
   have g3:0<st (ups rs s.Z i p):=by
    have:rs.length<=(k+1-i)*rs.length:=Nat.le_mul_of_pos_left _ (by omega)
    omega
   obtain⟨_,j,r,e1,e2,e3,e4,e5,e6,e7⟩:=I.raised g2 g3
   rw[ups,e5]
   refine⟨?_,(hp r (W4 e2)).1⟩
   have:(k+1-i)*rs.length=(k+1-(i+1))*rs.length+rs.length:=by
    rw[<-Nat.succ_mul]
    congr 1
    omega
   omega
 have hr:∀i,i<n->Raised n rs s st (ups rs s.Z i p):=λi hi=>by
  obtain⟨g1,g2⟩:=hst i (by omega)
  refine I.raised g2 ?_
  have:rs.length<=(k+1-i)*rs.length:=Nat.le_mul_of_pos_left _ (by omega)
  omega
 refine⟨hr,?_⟩
 obtain⟨a,b,hab,hbn,he⟩:=xS n (λi=>ups rs s.Z i p) λi hi=>(hst i (by omega)).2
 try dsimp only at he
 have e1:∀t,ups rs s.Z (a+t) p=ups rs s.Z (b+t) p:=λt=>by rw[fY,fY,he]
 have e2:ups rs s.Z (n-(b-a)) p=ups rs s.Z n p:=by
  have:=e1 (n-b)
  rw[show b+(n-b)=n by omega,show a+(n-b)=n-(b-a) by omega] at this
  exact this
 have e3:ups rs s.Z (b-a) (ups rs s.Z n p)=ups rs s.Z n p:=by
  have h:=fY rs s.Z p (n-(b-a)) (b-a)
  rw[e2,show n-(b-a)+(b-a)=n by omega] at h
  exact h.symm
 have e4:∀q,ups rs s.Z (q*(b-a)) (ups rs s.Z n p)=ups rs s.Z n p:=by
  intro q
  induction q with
  | zero=>rw[Nat.zero_mul];rfl
  | succ q ih=>rw[Nat.succ_mul,fY,ih,e3]
 refine⟨b-a,by omega,by omega,e3,λi=>?_⟩
 have hc:0<b-a:=by omega
 have e5:ups rs s.Z i (ups rs s.Z n p)=ups rs s.Z (i % (b-a)) (ups rs s.Z n p):=by
  have h:=fY rs s.Z (ups rs s.Z n p) ((b-a)*(i / (b-a))) (i % (b-a))
  rw[Nat.div_add_mod,Nat.mul_comm,e4] at h
  exact h
 rw[e5,<-e2,<-fY]
 have:=Nat.mod_lt i hc
 exact hr _ (by omega)
noncomputable def mO(rs:List Rl)(Z:List (Option Nat)):Nat->Nat->Int
 | 0,_=>0
 | i+1,v=>mO rs Z i v+(match Z[ups rs Z i v]? with | some (some j)=>(match rs[j]? with | some r=>r.le | none=>0) | _=>0)
theorem sum_pos(hr:∀i,Raised n rs s st (ups rs s.Z i q))(hm:0<m)(he:ups rs s.Z m q=q):0<mO rs s.Z m q:=by
 have main:∀i,(i=0/\mO rs s.Z i q=0)\/(s.t q<s.t (ups rs s.Z i q)+mO rs s.Z i q\/(s.t q=s.t (ups rs s.Z i q)+mO rs s.Z i q/\st (ups rs s.Z i q)<st q)):=by
  intro i
  induction i with
  | zero=>exact .inl ⟨rfl,rfl⟩
  | succ i ih =>
   obtain⟨_,j,r,e1,e2,e3,e4,e5,e6,e7⟩:=hr i
   refine .inr ?_
   have hs:mO rs s.Z (i+1) q=mO rs s.Z i q+r.le:=by
    rw[mO,e1]
    try dsimp only
    rw[e2]
   rw[hs,ups,e5]
   rcases ih with ⟨rfl,ih⟩ | ih
   ·rw[ih]
    have e6:s.t q<s.t r.lo+r.le\/(s.t q=s.t r.lo+r.le/\st r.lo<st q):=e6
    rcases e6 with e6 | e6
    ·left;omega
    ·right;exact⟨by omega,e6.2⟩
   ·rcases ih with ih | ih<;>rcases e6 with e6 | e6
    ·left;omega
    ·left;omega
    ·left;omega
    ·right;exact⟨by omega,by omega⟩
 rcases main m with ⟨h,_⟩ | h
 ·omega
 ·rw[he] at h
  omega
end CT
open SL
namespace CT
theorem ma{n i:Nat}(h:i<n):L2.ixN n (i:Int)=some i:=by
 unfold L2.ixN
 simp
 omega
noncomputable def zd:Option Nat->D
 | none=>.none
 | some j=>.int (j:Int)
noncomputable def tD(T:List Int):List Val:=(T.map ε).map Val.d
noncomputable def zD(Z:List (Option Nat)):List Val:=(Z.map zd).map Val.d
noncomputable def kst(s:KS):Sto:=[.lst (tD s.T),.lst (zD s.Z)]
theorem tD_set{T:List Int}{i:Nat}{x:Int}:(tD T).set i (.d (.int x))=tD (T.set i x):=by unfold tD;rw[U6,U6]
theorem zD_set{Z:List (Option Nat)}{i:Nat}{x:Option Nat}:(zD Z).set i (.d (zd x))=zD (Z.set i x):=by unfold zD;rw[U6,U6]
theorem kst_T(s:KS):v1 0 (kst s) (some (.h 0))=.vl (.list (s.T.map ε)):=v1_h (υ 0) rfl
theorem kst_Z(s:KS):v1 0 (kst s) (some (.h 1))=.vl (.list (s.Z.map zd)):=v1_h (X8 1) rfl
theorem view6{s:KS}{a b c d:Val->D}{RS z3:D}{x4 x5:D}:viewL 0 (kst s) [some (.d RS),some (.h 0),some (.h 1),some (.d z3),some (.d x4),some (.d x5)]=[.vl RS,.vl (.list (s.T.map ε)),.vl (.list (s.Z.map zd)),.vl z3,.vl x4,.vl x5]:=by
 show [Sl.vl RS,v1 0 (kst s) (some (.h 0)),v1 0 (kst s) (some (.h 1)),.vl z3,.vl x4,.vl x5]=_
 rw[kst_T,kst_Z]
theorem fQ(r:Rl):oIx (rl r) (.int 0)=some (.int (r.lo:Int)):=rfl
theorem eN(r:Rl):oIx (rl r) (.int 1)=some (.int (r.hi:Int)):=rfl
theorem k8(r:Rl):oIx (rl r) (.int 2)=some (.int r.le):=rfl
theorem gx(r:Rl):oIx (rl r) (.int 3)=some (wD r.w):=rfl
theorem tS{n:Nat}{r:Rl}(h1:r.lo<n)(h2:r.hi<n)(RS:D)(j:Nat)(s:KS)(lT:s.T.length=n)(lZ:s.Z.length=n)(N:Nat):cO N [some (.d RS),some (.h 0),some (.h 1),some (.d (zd s.z)),some (.d (.int (j:Int))),some (.d (rl r))] (kst s)=R.ret (.nx [some (.d RS),some (.h 0),some (.h 1),some (.d (zd (stp j r s).z)),some (.d (.int (j:Int))),some (.d (rl r))] (kst (stp j r s))):=by
 have g1:oIx (.list (s.T.map ε)) (.int (r.lo:Int))=some (.int (s.t r.lo)):=bE (by omega)
 have g2:oIx (.list (s.T.map ε)) (.int (r.hi:Int))=some (.int (s.t r.hi)):=bE (by omega)
 have hv:=view6 (s:=s) (a:=λ_=>.none) (b:=λ_=>.none) (c:=λ_=>.none) (d:=λ_=>.none) (RS:=RS) (z3:=zd s.z) (x4:=.int (j:Int)) (x5:=rl r)
 have hc:(jD (dB (aI (λds=>noX (aP ds)) (ae (ac 5) ai))) (dB (d2 oGt (d2 bg (d2 oIx (ac 1) (d2 oIx (ac 5) (dC (.int 0)))) (d2 oIx (ac 5) (dC (.int 2)))) (d2 oIx (ac 1) (d2 oIx (ac 5) (dC (.int 1))))))) (viewL 0 (kst s) [some (.d RS),some (.h 0),some (.h 1),some (.d (zd s.z)),some (.d (.int (j:Int))),some (.d (rl r))])=M.ret (r.w.isNone&&decide (s.t r.hi<s.t r.lo+r.le)):=by
  rw[hv]
  exact uo (aC (az (ad (aa rfl) af) (ku r))) (aC (ag (ag (ag (aa rfl) (ag (aa rfl) aj (fQ r)) g1) (ag (aa rfl) aj (k8 r)) cu) (ag (aa rfl) (ag (aa rfl) aj (eN r)) g2) mP))
 unfold cO stp
 by_cases hb:r.w=none/\s.t r.hi<s.t r.lo+r.le
 ·rw[if_pos hb]
  rw[hb.1,decide_eq_true hb.2] at hc
  refine iH (b:=true) (eh hc) (b7 rfl ?_)
  refine aB (vJ (k:=0) (j:=r.hi) (m:=(r.hi:Int)) (xs:=tD s.T) (v:=.d (.int (s.t r.lo+r.le))) (μ1:=kst s) (μ':=kst s) (es_lend (by rw[hv];exact ag (ag (aa rfl) (ag (aa rfl) aj (fQ r)) g1) (ag (aa rfl) aj (k8 r)) cu) rfl) rfl (bS (ag (aa rfl) aj (eN r))) rfl (by unfold tD;rw[θ,θ,lT];exact ma h2)) ?_
  refine aB (vJ (k:=1) (j:=r.hi) (m:=(r.hi:Int)) (xs:=zD s.Z) (v:=.d (.int (j:Int))) (aR rfl) rfl (bS (ag (aa rfl) aj (eN r))) rfl (by unfold zD;rw[θ,θ,lZ];exact ma h2)) ?_
  have hμ:((kst s).set 0 (Ob.lst ((tD s.T).set r.hi (Val.d (.int (s.t r.lo+r.le)))))).set 1 (Ob.lst ((zD s.Z).set r.hi (Val.d (.int (j:Int)))))=kst ⟨s.T.set r.hi (s.t r.lo+r.le),s.Z.set r.hi (some j),some r.hi⟩:=by
   show [Ob.lst ((tD s.T).set r.hi (Val.d (.int (s.t r.lo+r.le)))),Ob.lst ((zD s.Z).set r.hi (Val.d (zd (some j))))]=_
   rw[tD_set,zD_set]
   rfl
  rw[hμ]
  exact bw (bS (d:=.int (r.hi:Int)) (ag (aa rfl) aj (eN r)))
 ·rw[if_neg hb]
  have hf:(r.w.isNone&&decide (s.t r.hi<s.t r.lo+r.le))=false:=by
   cases e:r.w with
   | none=>rw[e] at hb;rw[decide_eq_false (λz=>hb ⟨rfl,z⟩)];rfl
   | some w=>rfl
  rw[hf] at hc
  exact iH (b:=false) (eh hc) (iF rfl rfl)
theorem uL:(stp j r s).T.length=s.T.length/\(stp j r s).Z.length=s.Z.length:=by
 unfold stp
 split
 ·exact⟨Ω,Ω⟩
 ·exact⟨rfl,rfl⟩
theorem sk:∀(q:List Rl) (j:Nat) (s:KS),(iY j q s).T.length=s.T.length/\(iY j q s).Z.length=s.Z.length
 | [],j,s=>⟨rfl,rfl⟩
 | r::q,j,s=>by
  obtain⟨h1,h2⟩:=sk q (j+1) (stp j r s)
  obtain⟨h3,h4⟩:=uL (j:=j) (r:=r) (s:=s)
  exact⟨h1.trans h3,h2.trans h4⟩
theorem xO{n:Nat}{rs:List Rl}(hp:Pts n rs)(s:KS)(lT:s.T.length=n)(lZ:s.Z.length=n):di [.d (.list (rs.map rl)),.h 0,.h 1] (kst s)=R.ret (.d (zd (iY 0 rs { s with z:=none }).z),kst (iY 0 rs { s with z:=none })):=by
 refine oO ?_
 unfold ib
 obtain⟨RS,hRS⟩:∃RS:D,RS=.list (rs.map rl):=⟨_,rfl⟩
 have main:∀(q:List Rl) (j:Nat) (s:KS) (x4 x5:Option Val),Pts n q->s.T.length=n->s.Z.length=n->∃y4 y5,iT (mJ 2 (fv (agN 4) (fv (agN 5) mK))) (cO 2) (b5 j (q.map rl)) [some (.d RS),some (.h 0),some (.h 1),some (.d (zd s.z)),x4,x5] (kst s)=R.ret (.nx [some (.d RS),some (.h 0),some (.h 1),some (.d (zd (iY j q s).z)),y4,y5] (kst (iY j q s))):=by
  intro q
  induction q with
  | nil=>intro j s x4 x5 _ _ _;exact⟨x4,x5,rfl⟩
  | cons r q ih =>
   intro j s x4 x5 hq l1 l2
   obtain⟨p1,p2⟩:=hq r ο
   obtain⟨s1,s2⟩:=uL (j:=j) (r:=r) (s:=s)
   obtain⟨y4,y5,hI⟩:=ih (j+1) (stp j r s) (some (.d (.int (j:Int)))) (some (.d (rl r))) (λa ha=>hq a (ι _ ha)) (s1.trans l1) (s2.trans l2)
   exact⟨y4,y5,ml (δ1:=[some (.d RS),some (.h 0),some (.h 1),some (.d (zd s.z)),some (.d (.int (j:Int))),some (.d (rl r))]) rfl (tS p1 p2 RS j s l1 l2 2) hI⟩
 obtain⟨y4,y5,hm⟩:=main rs 0 { s with z:=none } none none hp lT lZ
 rw[<-hRS]
 refine aB (bw (v:=.d .none) (bS (d:=.none) aj)) ?_
 refine aB (es_for (ds:=b5 0 (rs.map rl)) (j7 (ad (by rw[<-hRS];exact aa rfl) af)) hm) ?_
 exact qU (aR rfl)
noncomputable def vq(T:List Int):D:=.tuple [.str "kept",.list ((T.map λt=>t-T.getD 0 0).map ε)]
theorem vm(T:List Int)(T0:Int)(h0:0<T.length)(hT:T.getD 0 0=T0)(A:D)(hA:oIx A (.int 0)=some (.int T0)):∀(q:List Int) (x:Sl),bP (tgN 0) (nX cH) (nX (d2 gm (ac 0) (d2 oIx (ac 1) (dC (.int 0))))) (q.map ε) [x,.vl A]=M.ret ((q.map λt=>t-T0).map ε)
 | [],x=>rfl
 | t::q,x=>ck (δ':=[.vl (.int t),.vl A]) rfl (ag (aa rfl) (ag (aa rfl) aj hA) gA) (vm T T0 h0 hT A hA q _)
theorem i0{n:Nat}{rs:List Rl}(hp:Pts n rs)(h0:0<n)(hn:n<=1000000)(RS:D)(hRS:RS=.list (rs.map rl))(MN:D):∀(m:Nat) (a:Int) (s:KS) (x4:Option Val) (x5:Option Val),s.T.length=n->s.Z.length=n->∃y4,iT (agN 4) (dz 0) (b6 a m) [some (.d MN),some (.d RS),some (.h 0),some (.h 1),x4,x5] (kst s)=(if (fL rs m s).1=true then R.ret (.rt (.d (vq (fL rs m s).2.T)) []) else R.ret (.nx [some (.d MN),some (.d RS),some (.h 0),some (.h 1),y4,if m=0 then x5 else some (.d (zd (fL rs m s).2.z))] (kst (fL rs m s).2)))
 | 0,a,s,x4,x5,_,_=>⟨x4,rfl⟩
 | m+1,a,s,x4,x5,lT,lZ=>by
  obtain⟨s1,hs1⟩:∃s1,s1=iY 0 rs { s with z:=none }:=⟨_,rfl⟩
  have hr:=xO hp s lT lZ
  obtain⟨l1,l2⟩:=sk rs 0 { s with z:=none }
  rw[<-hs1] at l1 l2 hr
  have l1:s1.T.length=n:=l1.trans lT
  have l2:s1.Z.length=n:=l2.trans lZ
  rw[<-hRS] at hr
  have hrng:b6 a (m+1)=.int a::b6 (a+1) m:=by
   unfold b6
   rw[List.range_succ_eq_map,Θ,Y5]
   refine congr (congrArg _ (congrArg _ (by push_cast;omega))) (V8 λi _=>?_)
   show ε _=ε _
   congr 1
   push_cast
   omega
  rw[hrng,fL,<-hs1]
  have hv:viewL 0 (kst s1) [some (.d MN),some (.d RS),some (.h 0),some (.h 1),some (.d (.int a)),some (.d (zd s1.z))]=[.vl MN,.vl RS,.vl (.list (s1.T.map ε)),.vl (.list (s1.Z.map zd)),.vl (.int a),.vl (zd s1.z)]:=by
   show [Sl.vl MN,.vl RS,v1 0 (kst s1) (some (.h 0)),v1 0 (kst s1) (some (.h 1)),.vl (.int a),.vl (zd s1.z)]=_
   rw[kst_T,kst_Z]
  have hcall:dk 5 (nJ di (cx (aQ 1) (cx (aQ 2) (cx (aQ 3) jh)))) 0 [some (.d MN),some (.d RS),some (.h 0),some (.h 1),some (.d (.int a)),x5] (kst s)=R.ret (.nx [some (.d MN),some (.d RS),some (.h 0),some (.h 1),some (.d (.int a)),some (.d (zd s1.z))] (kst s1)):=bw (qW (cJ (aR rfl) (cJ (aR rfl) (cJ (aR rfl) ip))) hr)
  cases hz:s1.z with
  | none =>
   rw[if_pos rfl]
   refine⟨none,?_⟩
   rw[if_pos rfl]
   refine sL (δ1:=[some (.d MN),some (.d RS),some (.h 0),some (.h 1),some (.d (.int a)),x5]) rfl ?_
   unfold dz
   refine aB hcall ?_
   refine iH (b:=true) (eh (by rw[hv,hz];exact aC (ag (x:=.none) (aa rfl) aj rfl))) (b7 rfl ?_)
   have hA:oIx (.list (s1.T.map ε)) (.int 0)=some (.int (s1.T.getD 0 0)):=bE (T:=s1.T) (i:=0) (by omega)
   refine vK (d:=vq s1.T) rfl ?_
   rw[hv]
   exact eV (ad aj (ad (bO (ds:=s1.T.map ε) (cM (x:=.list (s1.T.map ε)) (aa rfl) rfl) (ax (by rw[θ];omega)) (vm s1.T _ (by omega) rfl (.list (s1.T.map ε)) hA s1.T .un)) af)) rfl
  | some p =>
   rw[if_neg (λz=>nomatch z)]
   obtain⟨y4,hI⟩:=i0 hp h0 hn RS hRS MN m (a+1) s1 (some (.d (.int a))) (some (.d (zd s1.z))) l1 l2
   refine⟨y4,?_⟩
   have hb:dz 0 [some (.d MN),some (.d RS),some (.h 0),some (.h 1),some (.d (.int a)),x5] (kst s)=R.ret (.nx [some (.d MN),some (.d RS),some (.h 0),some (.h 1),some (.d (.int a)),some (.d (zd s1.z))] (kst s1)):=by
    unfold dz
    refine aB hcall ?_
    exact iH (b:=false) (eh (by rw[hv,hz];exact aC (ag (x:=.int (p:Int)) (aa rfl) aj rfl))) (iF rfl rfl)
   rw[ml (δ1:=[some (.d MN),some (.d RS),some (.h 0),some (.h 1),some (.d (.int a)),x5]) rfl hb hI]
   by_cases hk:(fL rs m s1).1=true
   ·rw[if_pos hk,if_pos hk]
   ·rw[if_neg hk,if_neg hk,if_neg (Nat.succ_ne_zero m)]
    by_cases hm:m=0
    ·subst hm;rfl
    ·rw[if_neg hm]
noncomputable def ks0(n:Nat):KS:=⟨ρ n 0,ρ n none,none⟩
theorem mC(hp:Pts (m+1) rs)(hm:m<=1000)(hring:(fL rs (m+1) (ks0 (m+1))).1=false->fw [.list (rs.map rl),.list ((fL rs (m+1) (ks0 (m+1))).2.Z.map zd),zd (fL rs (m+1) (ks0 (m+1))).2.z]=M.ret x) :
  eI [.d (.int (m:Int)),.d (.list (rs.map rl))] []=R.ret (.d (if (fL rs (m+1) (ks0 (m+1))).1=true then vq (fL rs (m+1) (ks0 (m+1))).2.T else .tuple [.str "ring",x]),[]):=by
 obtain⟨RS,hRS⟩:∃RS:D,RS=.list (rs.map rl):=⟨_,rfl⟩
 obtain⟨y4,hl⟩:=i0 hp (by omega) (by omega) RS hRS (.int (m:Int)) (m+1) 0 (ks0 (m+1)) none none (by show(ρ _ _).length=_;rw[Z1]) (by show(ρ _ _).length=_;rw[Z1])
 rw[if_neg (Nat.succ_ne_zero m)] at hl
 have hmm:((m:Int)+1).toNat=m+1:=by omega
 have key:eI [.d (.int (m:Int)),.d RS] []=R.ret (.d (if (fL rs (m+1) (ks0 (m+1))).1=true then vq (fL rs (m+1) (ks0 (m+1))).2.T else .tuple [.str "ring",x]),[]):=by
  refine oO ?_
  unfold mf
  refine aB (vL (ds:=ρ (m+1) (.int 0)) (by rw[<-hmm];exact jx (bI (ad aj af) rfl) (ag (aa rfl) aj cu) (by omega) (by omega))) ?_
  refine aB (vL (ds:=ρ (m+1) .none) (by rw[<-hmm];exact jx (bI (ad aj af) rfl) (ag (aa rfl) aj cu) (by omega) (by omega))) ?_
  have hst:([Ob.lst ((ρ (m+1) (ε 0)).map Val.d)]++[Ob.lst ((ρ (m+1) PyData.none).map Val.d)]:Sto)=kst (ks0 (m+1)):=by
   unfold kst ks0 tD zD
   simp only[List.map_replicate]
   rfl
  have hrg:gY [.int ((m:Int)+1)]=some (b6 0 (m+1)):=by
   show(if b62 ((m:Int)+1)=true then some (b6 0 ((m:Int)+1).toNat) else none)=_
   rw[if_pos (by unfold b62;simp;omega),hmm]
  rw[<-hst] at hl
  have hfor:=es_for (g:=dz) (n:=0) (fi:=kf gY (ae (d2 bg (ac 0) (dC (.int 1))) ai)) (ds:=b6 0 (m+1)) (jv (ad (ag (aa rfl) aj cu) af) hrg) hl
  by_cases hk:(fL rs (m+1) (ks0 (m+1))).1=true
  ·rw[if_pos hk] at hfor ⊢
   exact qT hfor
  ·rw[if_neg hk] at hfor ⊢
   refine aB hfor ?_
   obtain⟨s1,hs1⟩:∃s1,s1=(fL rs (m+1) (ks0 (m+1))).2:=⟨_,rfl⟩
   have hr:=hring (by simpa using hk)
   rw[<-hs1,<-hRS] at hr
   rw[<-hs1]
   refine vK (d:=.tuple [.str "ring",x]) rfl ?_
   have hv:∃z4,viewL 0 (kst s1) [some (.d (.int (m:Int))),some (.d RS),some (.h 0),some (.h 1),y4,some (.d (zd s1.z))]=[.vl (.int (m:Int)),.vl RS,.vl (.list (s1.T.map ε)),.vl (.list (s1.Z.map zd)),z4,.vl (zd s1.z)]:=by
    refine⟨v1 0 (kst s1) y4,?_⟩
    show [Sl.vl (.int (m:Int)),.vl RS,v1 0 (kst s1) (some (.h 0)),v1 0 (kst s1) (some (.h 1)),v1 0 (kst s1) y4,.vl (zd s1.z)]=_
    rw[kst_T,kst_Z]
   obtain⟨z4,hv⟩:=hv
   rw[show([]:Sto).length=0 from rfl,hv]
   exact eV (ad aj (ad (az (ad (aa rfl) (ad (aa rfl) (ad (aa rfl) af))) hr) af)) rfl
 rw[<-hRS]
 exact key
noncomputable def zj(Z:List (Option Nat))(v:Nat):Nat:=match Z[v]? with
 | some (some j)=>j
 | _=>0
section
variable{n:Nat}{rs:List Rl}{s:KS}{st:Nat->Nat}
theorem Raised.zix(h:Raised n rs s st v):oIx (.list (s.Z.map zd)) (.int (v:Int))=some (.int (zj s.Z v:Int)):=by
 obtain⟨_,j,r,e1,_⟩:=h
 refine k9 (by omega) ?_
 rw[Y8,Λ,e1]
 unfold zj
 rw[e1]
 rfl
theorem Raised.rix(h:Raised n rs s st v):∃r,oIx (.list (rs.map rl)) (.int (zj s.Z v:Int))=some (rl r)/\rs[zj s.Z v]?=some r/\r.w=none/\r.hi=v/\r.lo=kP rs s.Z v:=by
 obtain⟨_,j,r,e1,e2,e3,e4,e5,_⟩:=h
 have hz:zj s.Z v=j:=by unfold zj;rw[e1]
 rw[hz]
 refine⟨r,k9 (by omega) ?_,e2,e3,e4,e5.symm⟩
 rw[Y8,Λ,e2]
 rfl
noncomputable def rgl(rs:List Rl)(Z:List (Option Nat))(q:Nat):Nat->List Int
 | 0=>[]
 | k+1=>(zj Z (ups rs Z k q):Int)::rgl rs Z q k
theorem mW(q:Nat):∀k,(rgl rs s.Z q k).length=k
 | 0=>rfl
 | k+1=>by rw[rgl,Φ,mW q k]
theorem min_ex(P:Nat->Prop):∀c,0<c->P c->∃m,0<m/\m<=c/\P m/\∀i,0<i->i<m->¬P i:=by
 intro c
 induction c using Nat.strongRecOn with
 | ind c ih =>
  intro h0 hP
  by_cases hx:∃i,0<i/\i<c/\P i
  ·obtain⟨i,h1,h2,h3⟩:=hx
   obtain⟨m,a,b,c1,d⟩:=ih i h2 h1 h3
   exact⟨m,a,by omega,c1,d⟩
  ·exact⟨c,h0,υ c,hP,λi h1 h2 h3=>hx ⟨i,h1,h2,h3⟩⟩
theorem above_ev(hn:s.Z.length=n)(hn1:n<=1001)(hr1:∀i,i<n->Raised n rs s st (ups rs s.Z i p))(hq:q=ups rs s.Z n p)(hr:∀i,Raised n rs s st (ups rs s.Z i q))(hm:0<m)(hmn:m<=n)(he:ups rs s.Z m q=q)(hmin:∀i,0<i->i<m->ups rs s.Z i q≠q) :
  fw [.list (rs.map rl),.list (s.Z.map zd),.int (p:Int)]=M.ret (.list ((rgl rs s.Z q m).map ε)):=by
 have hlen:cV [.list (s.Z.map zd)]=some (.int (n:Int)):=by rw[eA,θ,hn]
 have zix:∀{v:Nat},Raised n rs s st v->oIx (.list (s.Z.map zd)) (.int (v:Int))=some (.int (zj s.Z v:Int)):=λh=>h.zix
 have rix:∀{v:Nat},Raised n rs s st v->∃r,oIx (.list (rs.map rl)) (.int (zj s.Z v:Int))=some (rl r)/\r.lo=kP rs s.Z v:=λh=>let ⟨r,a,_,_,_,b⟩:=h.rix;⟨r,a,b⟩
 obtain⟨RS,hRS⟩:∃RS:D,RS=.list (rs.map rl):=⟨_,rfl⟩
 obtain⟨ZL,hZL⟩:∃ZL:D,ZL=.list (s.Z.map zd):=⟨_,rfl⟩
 rw[<-hRS] at rix ⊢
 rw[<-hZL] at zix hlen ⊢
 have low:∀{v k:Nat} {δ:DS},Raised n rs s st v->δ[0]?=some (.vl RS)->δ[1]?=some (.vl ZL)->δ[k]?=some (.vl (.int (v:Int)))->d2 oIx (d2 oIx (ac 0) (d2 oIx (ac 1) (ac k))) (dC (.int 0)) δ=M.ret (.int (kP rs s.Z v:Int)):=λ{v k δ} h h0 h1 h2=>by
  obtain⟨r,g1,g2⟩:=rix h
  rw[<-g2]
  exact ag (ag (aa h0) (ag (aa h1) (aa h2) (zix h)) g1) aj (fQ r)
 have loop:∀(j:Nat) (v:Nat) (a:Int) (x3:Sl),(∀i,i<j->Raised n rs s st (ups rs s.Z i v))->∃y3,im (cn (tgN 3) fq) (b6 a j) [.vl RS,.vl ZL,.vl (.int (v:Int)),x3,.un,.un]=M.ret (.nx [.vl RS,.vl ZL,.vl (.int (ups rs s.Z j v:Int)),y3,.un,.un]):=by
  intro j
  induction j with
  | zero=>intro v a x3 _;exact⟨x3,rfl⟩
  | succ j ih =>
   intro v a x3 h
   have hrng:b6 a (j+1)=.int a::b6 (a+1) j:=by
    unfold b6
    rw[List.range_succ_eq_map,Θ,Y5]
    refine congr (congrArg _ (congrArg _ (by push_cast;omega))) (V8 λi _=>?_)
    show ε _=ε _
    congr 1
    push_cast
    omega
   have hv:=h 0 (Nat.succ_pos j)
   have hu:∀i,ups rs s.Z (i+1) v=ups rs s.Z i (kP rs s.Z v):=λi=>by rw[show i+1=1+i by omega,fY];rfl
   obtain⟨y3,hI⟩:=ih (kP rs s.Z v) (a+1) (.vl (.int a)) λi hi=>by rw[<-hu];exact h (i+1) (by omega)
   refine⟨y3,?_⟩
   rw[hrng,hu]
   refine bh (cB (δ':=[.vl RS,.vl ZL,.vl (.int (v:Int)),.vl (.int a),.un,.un]) rfl ?_) hI
   unfold fq
   exact bi (low hv rfl rfl rfl)
 have wl:∀(d i:Nat) (x3:Sl),i+1+d=m->du (dB (d2 oNe (ac 5) (ac 2))) fm [.vl RS,.vl ZL,.vl (.int (q:Int)),x3,.ow ((rgl rs s.Z q (i+1)).reverse.map ε),.vl (.int (ups rs s.Z (i+1) q:Int))]=M.ret (.nx [.vl RS,.vl ZL,.vl (.int (q:Int)),x3,.ow ((rgl rs s.Z q m).reverse.map ε),.vl (.int (q:Int))]):=by
  intro d
  induction d with
  | zero =>
   intro i x3 hi
   rw[show i+1=m by omega,he]
   exact ld (aC (ag (aa rfl) (aa rfl) (by rw[jI,decide_eq_true rfl];rfl)))
  | succ d ih =>
   intro i x3 hi
   have hne:=hmin (i+1) (by omega) (by omega)
   have hR:=hr (i+1)
   refine ju (δ':=[.vl RS,.vl ZL,.vl (.int (q:Int)),x3,.ow ((rgl rs s.Z q (i+2)).reverse.map ε),.vl (.int (ups rs s.Z (i+2) q:Int))]) (aC (ag (aa rfl) (aa rfl) (by rw[jI,decide_eq_false (by omega)];rfl))) ?_ (ih (i+1) x3 (by omega))
   unfold fm
   have hz:rgl rs s.Z q (i+2)=(zj s.Z (ups rs s.Z (i+1) q):Int)::rgl rs s.Z q (i+1):=rfl
   rw[hz,T4,Y4]
   refine aA (iU (ds:=(rgl rs s.Z q (i+1)).reverse.map ε) (d:=.int (zj s.Z (ups rs s.Z (i+1) q):Int)) rfl (ag (aa rfl) (aa rfl) (zix hR)) (ax (by rw[θ,List.length_reverse,mW];omega))) ?_
   exact bi (low hR rfl rfl rfl)
 have hrg:gY [.int (n:Int)]=some (b6 0 n):=by
  show(if b62 (n:Int)=true then some (b6 0 (n:Int).toNat) else none)=_
  rw[if_pos (by unfold b62;simp;omega),Y8]
 obtain⟨y3,hl⟩:=loop n p 0 .un hr1
 rw[<-hq] at hl
 refine aE ?_
 unfold jo
 have hR0:=hr 0
 refine aA (cY (ds:=b6 0 n) (jv (ad (bt (ad (aa rfl) af) hlen) af) hrg) hl) ?_
 refine aA (f8 (ds:=[.int (zj s.Z q:Int)]) (bI (ad (ag (aa rfl) (aa rfl) (zix hR0)) af) rfl)) ?_
 refine aA (bi (d:=.int (kP rs s.Z q:Int)) (low hR0 rfl rfl rfl)) ?_
 refine aA (wl (m-1) 0 y3 (by omega)) ?_
 refine um (aO (bt (ad (aa rfl) af) ?_))
 show some (Ψ (List.reverse _))=_
 rw[List.map_reverse,List.reverse_reverse]
noncomputable def rlA(rs:List Rl)(Z:List (Option Nat))(v:Nat):Rl:=atR rs (.int (zj Z v:Int))
theorem lS(h:Raised n rs s st v):okE rs.length (.int (zj s.Z v:Int))=true/\(rlA rs s.Z v).w=none/\(rlA rs s.Z v).hi=v/\(rlA rs s.Z v).lo=kP rs s.Z v/\rs[zj s.Z v]?=some (rlA rs s.Z v):=by
 obtain⟨r,_,h2,h3,h4,h5⟩:=h.rix
 have hlt:zj s.Z v<rs.length:=(ς.mp h2).1
 have e:rlA rs s.Z v=r:=by
  show(rs.getD (zj s.Z v:Int).toNat r0)=r
  rw[Y8,Δ,h2]
  rfl
 refine⟨?_,by rw[e];exact h3,by rw[e];exact h4,by rw[e];exact h5,by rw[e];exact h2⟩
 unfold okE
 simp
 omega
noncomputable def dnR(rs:List Rl)(Z:List (Option Nat))(q:Nat):Nat->List Rl
 | 0=>[]
 | k+1=>rlA rs Z (ups rs Z k q)::dnR rs Z q k
theorem dn_map(q:Nat):∀k,((rgl rs s.Z q k).map ε).map (atR rs)=dnR rs s.Z q k
 | 0=>rfl
 | k+1=>by rw[rgl,Θ,Θ,dn_map q k];rfl
theorem sT(hr:∀i,Raised n rs s st (ups rs s.Z i q)):∀k,(ups rs s.Z k q:Int)::(dnR rs s.Z q k).map hiI=(dnR rs s.Z q k).map loI++[(q:Int)]
 | 0=>rfl
 | k+1=>by
  obtain⟨_,_,h3,h4,_⟩:=lS (hr k)
  have ih:=sT hr k
  rw[dnR,Θ,Θ,List.cons_append]
  have e1:hiI (rlA rs s.Z (ups rs s.Z k q))=(ups rs s.Z k q:Int):=by unfold hiI;rw[h3]
  have e2:loI (rlA rs s.Z (ups rs s.Z k q))=(ups rs s.Z (k+1) q:Int):=by unfold loI;rw[h4];rfl
  rw[e1,e2,ih]
theorem sU(hr:∀i,Raised n rs s st (ups rs s.Z i q))(hd:∀a b,0<a->a<b->b<=m->ups rs s.Z a q≠ups rs s.Z b q):∀(k:Nat) (acc:List Int),k<=m->(∀x∈acc,∃b,k<b/\b<=m/\x=(ups rs s.Z b q:Int))->mj acc ((dnR rs s.Z q k).map loI)=true
 | 0,acc,_,_=>rfl
 | k+1,acc,hk,h=>by
  obtain⟨_,_,h3,h4,_⟩:=lS (hr k)
  have e2:loI (rlA rs s.Z (ups rs s.Z k q))=(ups rs s.Z (k+1) q:Int):=by unfold loI;rw[h4];rfl
  rw[dnR,Θ,e2,mj,Z5]
  refine⟨?_,sU hr hd k _ (by omega) λx hx=>?_⟩
  ·rw[Bool.not_eq_true',List.any_eq_false]
   intro x hx z
   obtain⟨b,b1,b2,rfl⟩:=h x hx
   have z:(ups rs s.Z b q:Int)=(ups rs s.Z (k+1) q:Int):=by simpa using z
   exact hd (k+1) b (by omega) b1 b2 (by omega)
  ·rcases Z7.mp hx with hx | hx
   ·obtain⟨b,b1,b2,b3⟩:=h x hx
    exact⟨b,by omega,b2,b3⟩
   ·rw[W9] at hx
    exact⟨k+1,by omega,hk,hx⟩
theorem dn_sum(hr:∀i,Raised n rs s st (ups rs s.Z i q)):∀k,((dnR rs s.Z q k).map leI).sum=mO rs s.Z k q
 | 0=>rfl
 | k+1=>by
  obtain⟨_,j,r,e1,e2,_⟩:=hr k
  have hz:zj s.Z (ups rs s.Z k q)=j:=by unfold zj;rw[e1]
  have h5:=(lS (hr k)).2.2.2.2
  rw[hz,e2] at h5
  have hs:mO rs s.Z (k+1) q=mO rs s.Z k q+r.le:=by
   rw[mO,e1]
   try dsimp only
   rw[e2]
  rw[dnR,Θ,V3,dn_sum hr k,hs,Int.add_comm]
  congr 1
  unfold leI
  rw[<-Option.some.inj h5]
theorem dn_now(hr:∀i,Raised n rs s st (ups rs s.Z i q)):∀k,(dnR rs s.Z q k).all noW=true
 | 0=>rfl
 | k+1=>by
  rw[dnR,U9,dn_now hr k,Bool.and_true]
  unfold noW
  rw[(lS (hr k)).2.1]
  rfl
theorem ok_all(hr:∀i,Raised n rs s st (ups rs s.Z i q)):∀k,((rgl rs s.Z q k).map ε).all (okE rs.length)=true
 | 0=>rfl
 | k+1=>by rw[rgl,Θ,U9,ok_all hr k,(lS (hr k)).1];rfl
theorem wb(hr:∀i,Raised n rs s st (ups rs s.Z i q))(hm:0<m)(he:ups rs s.Z m q=q)(hmin:∀i,0<i->i<m->ups rs s.Z i q≠q):pF rs ((rgl rs s.Z q m).map ε)=true:=by
 obtain⟨k,rfl⟩:∃k,m=k+1:=⟨m-1,by omega⟩
 have hd:∀a b,0<a->a<b->b<=k+1->ups rs s.Z a q≠ups rs s.Z b q:=λa b h0 h1 h2 z=>by
  refine hmin (a+(k+1-b)) (by omega) (by omega) ?_
  rw[fY,z,<-fY,show b+(k+1-b)=k+1 by omega,he]
 unfold pF xM
 rw[dn_map,ok_all hr,dn_now hr,dn_sum hr,sU hr hd (k+1) [] (υ _) (λx hx=>nomatch hx),decide_eq_true (sum_pos hr hm he)]
 have hrd:=sT hr (k+1)
 rw[he] at hrd
 have e2:(dnR rs s.Z q (k+1)).map loI=(q:Int)::(dnR rs s.Z q k).map loI:=by
  rw[dnR,Θ]
  congr 1
  unfold loI
  rw[(lS (hr k)).2.2.2.1]
  show((ups rs s.Z (k+1) q:Nat):Int)=_
  rw[he]
 rw[e2] at hrd
 rw[List.cons_append] at hrd
 have h4:=(List.cons.inj hrd).2
 rw[e2,h4]
 have:decide ((dnR rs s.Z q k).map loI++[(q:Int)]=List.drop 1 ((q:Int)::(dnR rs s.Z q k).map loI)++List.take 1 ((q:Int)::(dnR rs s.Z q k).map loI))=true:=decide_eq_true rfl
 rw[this]
 rfl
end
theorem oX(hp:Pts (m+1) rs)(hm:m<=1000):(∃T:List Int,eI [.d (.int (m:Int)),.d (.list (rs.map rl))] []=R.ret (.d (.tuple [.str "kept",.list (T.map ε)]),[])/\T.length=m+1/\T.getD 0 0=0/\kX (λv=>T.getD v 0) rs)\/(∃L:List Int,eI [.d (.int (m:Int)),.d (.list (rs.map rl))] []=R.ret (.d (.tuple [.str "ring",.list (L.map ε)]),[])/\0<L.length/\L.length<=m+1/\pF rs (L.map ε)=true):=by
 have I0:KInv (m+1) rs 0 0 (λ_=>0) { ks0 (m+1) with z:=none }:=by
  refine⟨by show(ρ _ _).length=_;rw[Z1],by show(ρ _ _).length=_;rw[Z1],λv=>X8 _,λv _ h=>absurd h (V4 0),λj r hj _ h=>?_,(λp h=>nomatch h),λ_ j r h=>absurd h (X6 j)⟩
  have hjl:j<rs.length:=(ς.mp hj).1
  unfold oY at h
  rw[if_neg (X6 j)] at h
  omega
 obtain⟨b,s',h1,h2,h3⟩:=sF hp (m+1) 0 (λ_=>0) (ks0 (m+1)) I0
 cases b with
 | true =>
  left
  obtain⟨g1,g2⟩:=h2 rfl
  have hk:=mC (x:=.none) hp hm (λz=>by rw[h1] at z;cases z)
  rw[h1] at hk
  refine⟨s'.T.map λt=>t-s'.T.getD 0 0,hk,by rw[θ];exact g1,?_,λr hr hw=>?_⟩
  ·rw[Δ,Λ]
   have:s'.T[0]?=some (s'.T.getD 0 0):=by rw[Δ,ψ (by omega)];rfl
   rw[this]
   show s'.T.getD 0 0-s'.T.getD 0 0=0
   omega
  ·have h:=g2 r hr hw
   obtain⟨p1,p2⟩:=hp r hr
   have hg:∀v,v<m+1->(s'.T.map λt=>t-s'.T.getD 0 0).getD v 0=s'.t v-s'.T.getD 0 0:=λv hv=>by
    unfold KS.t
    generalize s'.T.getD 0 0=c
    rw[Δ,Λ,Δ,ψ (show v<s'.T.length by omega)]
    rfl
   show(s'.T.map λt=>t-s'.T.getD 0 0).getD r.lo 0+r.le<=(s'.T.map λt=>t-s'.T.getD 0 0).getD r.hi 0
   rw[hg _ p1,hg _ p2]
   omega
 | false =>
  right
  rcases h3 rfl with ⟨h4,_⟩ | ⟨st,p,I,hz⟩
  ·omega
  ·rw[show 0+(m+1)-1=m by omega] at I
   obtain⟨hr1,c,c0,c1,c2,hr⟩:=ring_at hp I hz (υ _)
   obtain⟨mm,m0,m1,m2,m3⟩:=min_ex (λi=>ups rs s'.Z i (ups rs s'.Z (m+1) p)=ups rs s'.Z (m+1) p) c c0 c2
   have ha:=above_ev I.lZ (by omega) hr1 rfl hr m0 (by omega) m2 m3
   have hk:=mC (x:=.list ((rgl rs s'.Z (ups rs s'.Z (m+1) p) mm).map ε)) hp hm (λ_=>by rw[h1,show(false,s').2=s' from rfl,hz];exact ha)
   rw[h1] at hk
   exact⟨_,hk,by rw[mW];exact m0,by rw[mW];omega,wb hr m0 m2 m3⟩
end CT
namespace TR
noncomputable def upN(f:Nat->Nat):Nat->Nat->Nat
 | 0,p=>p
 | k+1,p=>upN f k (f p)
noncomputable def ay(f:Nat->Nat):Nat->Nat->List Nat
 | 0,_=>[]
 | k+1,p=>p::ay f k (f p)
noncomputable def put(f:Nat->α)(i:Nat)(x:α):Nat->α:=λj=>if j=i then x else f j
theorem bj:put f i x i=x:=if_pos rfl
theorem bD(h:j≠i):put f i x j=f j:=if_neg h
noncomputable def sm:Nat->(Nat->Int)->Int
 | 0,_=>0
 | k+1,f=>sm k f+f k
theorem bN:∀{k:Nat},(∀j,j<k->f j=g j)->sm k f=sm k g
 | 0,_=>rfl
 | k+1,h=>by rw[sm,sm,bN λj hj=>h j (by omega),h k (by omega)]
theorem rT:∀{k:Nat},(∀j,j<k->f j<=g j)->sm k f<=sm k g
 | 0,_=>T7 _
 | k+1,h=>by
  have h1:=rT (k:=k) λj hj=>h j (by omega)
  have h2:=h k (by omega)
  rw[sm,sm];omega
theorem sm_lt:∀{k:Nat},(∀j,j<k->f j<=g j)->i<k->f i<g i->sm k f<sm k g
 | 0,_,h,_=>absurd h (X6 _)
 | k+1,h,hi,hl=>by
  have h2:=h k (by omega)
  rw[sm,sm]
  by_cases e:i=k
  ·subst e
   have h1:=rT (k:=i) λj hj=>h j (by omega)
   omega
  ·have h1:=sm_lt (k:=k) (λj hj=>h j (by omega)) (by omega) hl
   omega
theorem qt(f g:Nat->Int):∀k,sm k (λj=>f j+g j)=sm k f+sm k g
 | 0=>rfl
 | k+1=>by rw[sm,sm,sm,qt f g k];omega
theorem xD(f g:Nat->Int):∀k,sm k (λj=>f j-g j)=sm k f-sm k g
 | 0=>rfl
 | k+1=>by rw[sm,sm,sm,xD f g k];omega
theorem tL(c:Int)(f:Nat->Int):∀k,sm k (λj=>c*f j)=c*sm k f
 | 0=>(U8 c).symm
 | k+1=>by rw[sm,sm,tL c f k,Int.mul_add]
theorem xF:∀{k:Nat},(∀j,j<k->0<=f j)->0<=sm k f
 | 0,_=>T7 _
 | k+1,h=>by
  have h1:=xF (k:=k) λj hj=>h j (by omega)
  have h2:=h k (by omega)
  rw[sm];omega
theorem tK:∀{k i:Nat},(∀j,j<k->0<=f j)->i<k->f i<=sm k f
 | 0,_,_,h=>absurd h (X6 _)
 | k+1,i,h,hi=>by
  have h2:=h k (by omega)
  rw[sm]
  by_cases e:i=k
  ·subst e
   have h1:=xF (k:=i) λj hj=>h j (by omega)
   omega
  ·have h1:=tK (k:=k) (i:=i) (λj hj=>h j (by omega)) (by omega)
   omega
theorem xE{f c:Nat->Int}{i:Nat}{x:Int}:∀{k:Nat},i<k->sm k (λj=>put f i (f i+x) j*c j)=sm k (λj=>f j*c j)+x*c i
 | 0,h=>absurd h (X6 _)
 | k+1,h=>by
  rw[sm,sm]
  by_cases e:i=k
  ·subst e
   rw[bj,bN (g:=λj=>f j*c j) λj hj=>by rw[bD (by omega)],Int.add_mul]
   omega
  ·rw[xE (k:=k) (by omega),bD (λz=>e z.symm)]
   omega
theorem mU{g:Nat->Int}{i:Nat}:∀{k:Nat},i<k->sm k (λj=>if i=j then g j else 0)=g i
 | 0,h=>absurd h (X6 _)
 | k+1,h=>by
  rw[sm]
  by_cases e:i=k
  ·subst e
   rw[if_pos rfl,bN (g:=λ_=>0) λj hj=>if_neg (by omega)]
   have:∀k,sm k (λ_=>0)=0:=λk=>by
    induction k with
    | zero=>rfl
    | succ k ih=>rw[sm,ih];rfl
   rw[this];omega
  ·rw[mU (k:=k) (by omega),if_neg e];omega
theorem kl:∀k,sm k (λ_=>0)=0
 | 0=>rfl
 | k+1=>by rw[sm,kl k];rfl
theorem uO(f:Nat->Nat->Int)(n:Nat):∀k,sm k (λj=>sm n (f j))=sm n (λp=>sm k (λj=>f j p))
 | 0=>(kl n).symm
 | k+1=>by
  rw[sm,uO f n k,<-qt]
  rfl
structure Net where
 n:Nat
 m:Nat
 lo:Nat->Nat
 hi:Nat->Nat
 ln:Nat->Int
 bd:Nat->Int
structure Tree(n:Nat)(ov dp:Nat->Nat):Prop where
 o:ov n=n
 r:dp n=0
 d:∀p,p<n->ov p<=n/\dp p=dp (ov p)+1
section
theorem li(i:Nat):∀(j p:Nat),upN ov (j+i) p=upN ov i (upN ov j p)
 | 0,p=>by rw[Nat.zero_add];rfl
 | j+1,p=>by rw[show j+1+i=(j+i)+1 by omega];exact li i j (ov p)
theorem d5(j p:Nat):upN ov (j+1) p=ov (upN ov j p):=li 1 j p
theorem Tree.pos(T:Tree n ov dp){p:Nat}(h:p<=n)(h0:0<dp p):p<n:=by
 rcases Y6 p n with z | z
 ·exact z
 ·have:p=n:=by omega
  subst this
  rw[T.r] at h0;omega
theorem Tree.le(T:Tree n ov dp)(h:p<=n):ov p<=n:=by
 rcases Y6 p n with z | z
 ·exact(T.d p z).1
 ·rw[show p=n by omega,T.o];exact υ _
theorem Tree.up(T:Tree n ov dp):∀(k:Nat) {p:Nat},p<=n->k<=dp p->upN ov k p<=n/\dp (upN ov k p)+k=dp p
 | 0,p,h,_=>⟨h,rfl⟩
 | k+1,p,h,hk=>by
  have hp:=T.pos h (by omega)
  obtain⟨h1,h2⟩:=T.d p hp
  obtain⟨h3,h4⟩:=T.up k h1 (by omega)
  exact⟨h3,by rw[upN];omega⟩
theorem Tree.ups(T:Tree n ov dp):∀(k:Nat) {p:Nat},p<=n->upN ov k p<=n/\dp (upN ov k p)<=dp p
 | 0,p,h=>⟨h,υ _⟩
 | k+1,p,h=>by
  obtain⟨h3,h4⟩:=T.ups k (T.le h)
  rcases Y6 p n with z | z
  ·have:=(T.d p z).2
   exact⟨h3,by rw[upN];omega⟩
  ·have e:p=n:=by omega
   subst e
   rw[T.o] at h3 h4
   exact⟨by rw[upN,T.o];exact h3,by rw[upN,T.o];exact h4⟩
theorem qf:∀{k p x:Nat},x∈ay ov k p->∃j,j<k/\x=upN ov j p
 | 0,p,x,h=>by cases h
 | k+1,p,x,h=>by
  rcases Γ.mp h with rfl | h
  ·exact⟨0,by omega,rfl⟩
  ·obtain⟨j,h1,h2⟩:=qf h
   exact⟨j+1,by omega,h2⟩
theorem eg:∀{k j p:Nat},j<k->upN ov j p∈ay ov k p
 | 0,_,_,h=>absurd h (X6 _)
 | k+1,0,p,_=>ο
 | k+1,j+1,p,h=>ι _ (eg (by omega))
theorem Tree.inway(T:Tree n ov dp){k p x:Nat}(hp:p<=n)(hk:k<=dp p)(h:x∈ay ov k p):x<n/\dp x<=dp p/\(x=p\/dp x<dp p)/\dp p<dp x+k:=by
 obtain⟨j,h1,rfl⟩:=qf h
 obtain⟨h2,h3⟩:=T.up j hp (by omega)
 refine⟨T.pos h2 (by omega),by omega,?_,by omega⟩
 rcases Nat.eq_zero_or_pos j with rfl | z
 ·exact .inl rfl
 ·exact .inr (by omega)
theorem Tree.way_nd(T:Tree n ov dp):∀{k p:Nat},p<=n->k<=dp p->(ay ov k p).Nodup
 | 0,_,_,_=>List.nodup_nil
 | k+1,p,hp,hk=>by
  obtain⟨h1,h2⟩:=T.d p (T.pos hp (by omega))
  refine W5.mpr ⟨λh=>?_,T.way_nd h1 (by omega)⟩
  have:=(T.inway h1 (by omega) h).2.1
  omega
theorem je:∀(k p:Nat),(ay ov k p).length=k
 | 0,_=>rfl
 | k+1,p=>by rw[ay,Φ,je]
theorem uH:∀(i j p:Nat),ay ov (i+j) p=ay ov i p++ay ov j (upN ov i p)
 | 0,j,p=>by rw[Nat.zero_add];rfl
 | i+1,j,p=>by rw[show i+1+j=(i+j)+1 by omega,ay,uH i j (ov p)];rfl
theorem fX:∀{k x:Nat},p∉ay ov k x->ay (put ov p q) k x=ay ov k x
 | 0,_,_=>rfl
 | k+1,x,h=>by
  have hx:x≠p:=λz=>h (z▸ο)
  rw[ay,ay,bD hx,fX λz=>h (ι _ z)]
theorem qg:∀{i x:Nat},(∀j,j<i->upN ov j x≠p)->upN (put ov p q) i x=upN ov i x
 | 0,_,_=>rfl
 | i+1,x,h=>by
  have hx:x≠p:=h 0 (by omega)
  rw[upN,upN,bD hx,qg λj hj=>h (j+1) (by omega)]
theorem Tree.hang(T:Tree n ov dp)(hp:p<n)(hq:q<=n)(hc:∀i,upN ov i q≠p):∃dp',Tree n (put ov p q) dp'/\∀x,(∀i,upN ov i x≠p)->dp' x=dp x:=by
 refine⟨λx=>open Classical in if ∃i,upN ov i x=p then dp x+dp q+1-dp p else dp x,⟨?_,?_,λx hx=>?_⟩,λx h=>if_neg λ⟨i,z⟩=>h i z⟩
 ·rw[bD (by omega)];exact T.o
 ·have:∀i,upN ov i n=n:=λi=>by
   induction i with
   | zero=>rfl
   | succ i ih=>rw[d5,ih,T.o]
  try dsimp only
  rw[if_neg λ⟨i,z⟩=>by rw[this] at z;omega]
  exact T.r
 ·obtain⟨h1,h2⟩:=T.d x hx
  by_cases e:x=p
  ·subst e
   rw[bj]
   refine⟨hq,?_⟩
   try dsimp only
   rw[if_pos ⟨0,rfl⟩,if_neg λ⟨i,z⟩=>hc i z]
   omega
  ·rw[bD e]
   refine⟨h1,?_⟩
   try dsimp only
   by_cases hs:∃i,upN ov i (ov x)=p
   ·have hx2:∃i,upN ov i x=p:=hs.elim λi z=>⟨i+1,z⟩
    rw[if_pos hs,if_pos hx2]
    obtain⟨i,z⟩:=hs
    have:=(T.ups i h1).2
    rw[z] at this
    omega
   ·have hx2:¬∃i,upN ov i x=p:=λ⟨i,z⟩=>by
     cases i with
     | zero=>exact e z
     | succ i=>exact hs ⟨i,z⟩
    rw[if_neg hs,if_neg hx2]
    exact h2
inductive Meet(ov dp:Nat->Nat):Nat->Nat->Nat->Prop
 | done (p:Nat):Meet ov dp p p p
 | one {p q t:Nat} (h:p≠q) (hd:dp q<=dp p) (m:Meet ov dp (ov p) q t):Meet ov dp p q t
 | two {p q t:Nat} (h:p≠q) (hd:dp p<dp q) (m:Meet ov dp p (ov q) t):Meet ov dp p q t
theorem Tree.meet(T:Tree n ov dp):∀(k p q:Nat),dp p+dp q<=k->p<=n->q<=n->∃t,Meet ov dp p q t
 | k,p,q,hk,hp,hq=>by
  by_cases e:p=q
  ·subst e;exact⟨p,.done p⟩
  ·rcases Y6 (dp p) (dp q) with hd | hd
   ·obtain⟨h1,h2⟩:=T.d q (T.pos hq (by omega))
    cases k with
    | zero=>omega
    | succ k =>
     obtain⟨t,m⟩:=T.meet k p (ov q) (by omega) hp h1
     exact⟨t,.two e hd m⟩
   ·have hpn:p<n:=by
     rcases Y6 p n with z | z
     ·exact z
     ·have:p=n:=by omega
      subst this
      rw[T.r] at hd
      rcases Y6 q p with z | z
      ·have:=(T.d q z).2;omega
      ·omega
    obtain⟨h1,h2⟩:=T.d p hpn
    cases k with
    | zero=>omega
    | succ k =>
     obtain⟨t,m⟩:=T.meet k (ov p) q (by omega) h1 hq
     exact⟨t,.one e hd m⟩
structure Met(ov dp:Nat->Nat)(p q t a b:Nat):Prop where
 la:a<=dp p
 lb:b<=dp q
 ta:upN ov a p=t
 tb:upN ov b q=t
 dj:∀x,x∈ay ov a p->x∉ay ov b q
theorem Tree.met(T:Tree n ov dp)(m:Meet ov dp p q t)(hp:p<=n)(hq:q<=n):∃a b,Met ov dp p q t a b:=by
 induction m with
 | done p=>exact⟨0,0,X8 _,X8 _,rfl,rfl,λ_ h=>by cases h⟩
 | @one p q t h hd m ih =>
  have hpn:p<n:=by
   rcases Y6 p n with z | z
   ·exact z
   ·have:p=n:=by omega
    subst this
    rw[T.r] at hd
    rcases Y6 q p with z | z
    ·have:=(T.d q z).2;omega
    ·omega
  obtain⟨h1,h2⟩:=T.d p hpn
  obtain⟨a,b,M⟩:=ih h1 hq
  refine⟨a+1,b,by have:=M.la;omega,M.lb,M.ta,M.tb,λx hx=>?_⟩
  rcases Γ.mp hx with rfl | hx
  ·intro z
   obtain⟨_,_,z3,_⟩:=T.inway hq M.lb z
   rcases z3 with z3 | z3
   ·exact h z3
   ·omega
  ·exact M.dj x hx
 | @two p q t h hd m ih =>
  obtain⟨h1,h2⟩:=T.d q (T.pos hq (by omega))
  obtain⟨a,b,M⟩:=ih hp h1
  refine⟨a,b+1,M.la,by have:=M.lb;omega,M.ta,M.tb,λx hx z=>?_⟩
  rcases Γ.mp z with rfl | z
  ·have:=(T.inway hp M.la hx).2.1
   omega
  ·exact M.dj x hx z
end
noncomputable def sg(a:Int)(b:Bool):Int:=if b=true then a else -a
noncomputable def push(a:Int):List (Nat×Bool)->(Nat->Int)->Nat->Int
 | [],f=>f
 | (k,b)::L,f=>push a L (put f k (f k+sg a b))
theorem nQ:∀{L:List (Nat×Bool)} {f:Nat->Int} {k:Nat},k∉L.map (·.1)->push a L f k=f k
 | [],_,_,_=>rfl
 | (i,b)::L,f,k,h=>by
  rw[Θ,Γ,not_or] at h
  rw[push,nQ h.2,bD h.1]
theorem mX:∀{L:List (Nat×Bool)} {f:Nat->Int} {k:Nat} {b:Bool},(L.map (·.1)).Nodup->(k,b)∈L->push a L f k=f k+sg a b
 | (i,c)::L,f,k,b,hn,h=>by
  rw[Θ,W5] at hn
  rcases Γ.mp h with h | h
  ·cases h
   rw[push,nQ hn.1,bj]
  ·have hk:k≠i:=λz=>hn.1 (z▸(List.mem_map_of_mem (f:=Prod.fst) h:k∈L.map (·.1)))
   rw[push,mX hn.2 h,bD hk]
noncomputable def tot(c:Nat->Int):List (Nat×Bool)->Int
 | []=>0
 | (k,b)::L=>sg (c k) b+tot c L
theorem qh(c:Nat->Int):∀(L M:List (Nat×Bool)),tot c (L++M)=tot c L+tot c M
 | [],M=>by rw[List.nil_append,tot];omega
 | (k,b)::L,M=>by rw[List.cons_append,tot,tot,qh c L M];omega
theorem qv:∀{L:List (Nat×Bool)} {f:Nat->Int},(∀s∈L,s.1<m)->sm m (λj=>push a L f j*c j)=sm m (λj=>f j*c j)+a*tot c L
 | [],f,_=>by rw[tot,U8,Int.add_zero];rfl
 | (k,b)::L,f,h=>by
  have h1:=qv (a:=a) (c:=c) (L:=L) (f:=put f k (f k+sg a b)) λs hs=>h s (ι _ hs)
  have h2:=xE (f:=f) (c:=c) (i:=k) (x:=sg a b) (show k<m from h (k,b) ο)
  have h3:a*(sg (c k) b+tot c L)=sg a b*c k+a*tot c L:=by
   rw[Int.mul_add]
   unfold sg
   cases b with
   | true=>rfl
   | false=>rw[if_neg ω,if_neg ω,Int.mul_neg,Int.neg_mul]
  show sm m (λj=>push a L (put f k (f k+sg a b)) j*c j)=_
  rw[h1,h2,tot,h3]
  omega
def Jn(N:Net)(k p q:Nat):Prop:=(N.lo k=p/\N.hi k=q)\/(N.hi k=p/\N.lo k=q)
theorem Jn.symm{N:Net}{k p q:Nat}(h:Jn N k p q):Jn N k q p:=h.elim (λz=>.inr ⟨z.2,z.1⟩) λz=>.inl ⟨z.2,z.1⟩
noncomputable def dnS(N:Net)(hk:Nat->Nat)(q:Nat):Nat×Bool:=(hk q,decide (N.hi (hk q)=q))
noncomputable def upS(N:Net)(hk:Nat->Nat)(q:Nat):Nat×Bool:=(hk q,decide (N.lo (hk q)=q))
section
variable{N:Net}{ov dp hk:Nat->Nat}
theorem xq{c π:Nat->Int}:∀{k p:Nat},(∀q∈ay ov k p,Jn N (hk q) q (ov q)/\q≠ov q/\c (hk q)=π (N.hi (hk q))-π (N.lo (hk q)))->tot c ((ay ov k p).map (dnS N hk))=π p-π (upN ov k p)
 | 0,p,_=>by rw[upN];show(0:Int)=_;omega
 | k+1,p,h=>by
  obtain⟨h1,h2,h3⟩:=h p ο
  have ih:=xq (c:=c) (π:=π) (k:=k) (p:=ov p) λq hq=>h q (ι _ hq)
  show sg (c (hk p)) (decide (N.hi (hk p)=p))+tot c _=_
  rw[ih,upN,h3]
  rcases h1 with ⟨z1,z2⟩ | ⟨z1,z2⟩
  ·rw[decide_eq_false (by rw[z2];exact λz=>h2 z.symm),z1,z2]
   unfold sg
   rw[if_neg ω];omega
  ·rw[decide_eq_true z1,z1,z2]
   unfold sg
   rw[if_pos rfl];omega
theorem xo{c π:Nat->Int}:∀{k p:Nat},(∀q∈ay ov k p,Jn N (hk q) q (ov q)/\q≠ov q/\c (hk q)=π (N.hi (hk q))-π (N.lo (hk q)))->tot c ((ay ov k p).map (upS N hk))=π (upN ov k p)-π p
 | 0,p,_=>by rw[upN];show(0:Int)=_;omega
 | k+1,p,h=>by
  obtain⟨h1,h2,h3⟩:=h p ο
  have ih:=xo (c:=c) (π:=π) (k:=k) (p:=ov p) λq hq=>h q (ι _ hq)
  show sg (c (hk p)) (decide (N.lo (hk p)=p))+tot c _=_
  rw[ih,upN,h3]
  rcases h1 with ⟨z1,z2⟩ | ⟨z1,z2⟩
  ·rw[decide_eq_true z1,z1,z2]
   unfold sg
   rw[if_pos rfl];omega
  ·rw[decide_eq_false (by rw[z2];exact λz=>h2 z.symm),z1,z2]
   unfold sg
   rw[if_neg ω];omega
end
noncomputable def room(N:Net)(fl:Nat->Int)(k p:Nat):Int:=if N.lo k=p then N.bd k-fl k else fl k
section
variable{N:Net}{fl fl':Nat->Int}{k p:Nat}{a:Int}{b:Bool}
theorem nM(hb:b=decide (N.lo k=p))(h:fl' k=fl k+sg a b):room N fl' k p=room N fl k p-a:=by
 unfold room
 rw[h,hb]
 unfold sg
 by_cases e:N.lo k=p
 ·rw[if_pos e,if_pos e,decide_eq_true e,if_pos rfl];omega
 ·rw[if_neg e,if_neg e,decide_eq_false e,if_neg ω];omega
theorem nN(hb:b=!decide (N.lo k=p))(h:fl' k=fl k+sg a b):room N fl' k p=room N fl k p+a:=by
 unfold room
 rw[h,hb]
 unfold sg
 by_cases e:N.lo k=p
 ·rw[if_pos e,if_pos e,decide_eq_true e,Bool.not_true,if_neg ω];omega
 ·rw[if_neg e,if_neg e,decide_eq_false e,Bool.not_false,if_pos rfl]
theorem room_nn(h:0<=fl k/\fl k<=N.bd k):0<=room N fl k p/\room N fl k p<=N.bd k:=by
 unfold room
 split<;>omega
theorem uV(h:fl' k=fl k):room N fl' k p=room N fl k p:=by unfold room;rw[h]
theorem uB(hb:b=decide (N.lo k=p))(h:fl' k=fl k+sg a b)(h0:0<=fl k/\fl k<=N.bd k)(ha:0<=a)(hr:a<=room N fl k p):0<=fl' k/\fl' k<=N.bd k:=by
 unfold room at hr
 rw[h,hb]
 unfold sg
 by_cases e:N.lo k=p
 ·rw[if_pos e] at hr;rw[decide_eq_true e,if_pos rfl];omega
 ·rw[if_neg e] at hr;rw[decide_eq_false e,if_neg ω];omega
end
noncomputable def chD(rm:Nat->Int):List Nat->Int->Option Nat->Int×Option Nat
 | [],a,l=>(a,l)
 | q::L,a,l=>if rm q<a then chD rm L (rm q) (some q) else chD rm L a l
noncomputable def chU(rm:Nat->Int):List Nat->Int->Option Nat->Int×Option Nat
 | [],a,l=>(a,l)
 | q::L,a,l=>if rm q<=a then chU rm L (rm q) (some q) else chU rm L a l
theorem uA(rm:Nat->Int):∀(L:List Nat) (a:Int) (l:Option Nat),(chD rm L a l=(a,l)/\∀q∈L,a<=rm q)\/(∃x L1 L2,L=L1++x::L2/\chD rm L a l=(rm x,some x)/\rm x<a/\(∀q∈L1,rm x<rm q)/\∀q∈L2,rm x<=rm q)
 | [],a,l=>.inl ⟨rfl,λ_ h=>by cases h⟩
 | q::L,a,l=>by
  unfold chD
  by_cases h:rm q<a
  ·rw[if_pos h]
   rcases uA rm L (rm q) (some q) with ⟨h1,h2⟩ | ⟨x,L1,L2,h1,h2,h3,h4,h5⟩
   ·exact .inr ⟨q,[],L,rfl,h1,h,(λ_ z=>by cases z),h2⟩
   ·refine .inr ⟨x,q::L1,L2,by rw[h1];rfl,h2,by omega,λy hy=>?_,h5⟩
    rcases Γ.mp hy with rfl | hy
    ·exact h3
    ·exact h4 y hy
  ·rw[if_neg h]
   rcases uA rm L a l with ⟨h1,h2⟩ | ⟨x,L1,L2,h1,h2,h3,h4,h5⟩
   ·refine .inl ⟨h1,λy hy=>?_⟩
    rcases Γ.mp hy with rfl | hy
    ·omega
    ·exact h2 y hy
   ·refine .inr ⟨x,q::L1,L2,by rw[h1];rfl,h2,h3,λy hy=>?_,h5⟩
    rcases Γ.mp hy with rfl | hy
    ·omega
    ·exact h4 y hy
theorem q0(rm:Nat->Int):∀(L:List Nat) (a:Int) (l:Option Nat),(chU rm L a l=(a,l)/\∀q∈L,a<rm q)\/(∃x L1 L2,L=L1++x::L2/\chU rm L a l=(rm x,some x)/\rm x<=a/\(∀q∈L1,rm x<=rm q)/\∀q∈L2,rm x<rm q)
 | [],a,l=>.inl ⟨rfl,λ_ h=>by cases h⟩
 | q::L,a,l=>by
  unfold chU
  by_cases h:rm q<=a
  ·rw[if_pos h]
   rcases q0 rm L (rm q) (some q) with ⟨h1,h2⟩ | ⟨x,L1,L2,h1,h2,h3,h4,h5⟩
   ·exact .inr ⟨q,[],L,rfl,h1,h,(λ_ z=>by cases z),h2⟩
   ·refine .inr ⟨x,q::L1,L2,by rw[h1];rfl,h2,by omega,λy hy=>?_,h5⟩
    rcases Γ.mp hy with rfl | hy
    ·exact h3
    ·exact h4 y hy
  ·rw[if_neg h]
   rcases q0 rm L a l with ⟨h1,h2⟩ | ⟨x,L1,L2,h1,h2,h3,h4,h5⟩
   ·refine .inl ⟨h1,λy hy=>?_⟩
    rcases Γ.mp hy with rfl | hy
    ·omega
    ·exact h2 y hy
   ·refine .inr ⟨x,q::L1,L2,by rw[h1];rfl,h2,h3,λy hy=>?_,h5⟩
    rcases Γ.mp hy with rfl | hy
    ·omega
    ·exact h4 y hy
def Und(n:Nat)(ov:Nat->Nat)(un:Nat->List Nat):Prop:=∀q,q<=n->(un q).Nodup/\∀p,p∈un q↔p<n/\ov p=q
noncomputable def reU(un:Nat->List Nat)(o p q:Nat):Nat->List Nat:=put (put un o ((un o).erase p)) q (put un o ((un o).erase p) q++[p])
theorem Und.re(U:Und n ov un)(hp:p<n)(ho:ov p<=n)(hq:q<=n):Und n (put ov p q) (reU un (ov p) p q):=by
 have h0:∀x,x<=n->(put un (ov p) ((un (ov p)).erase p) x).Nodup/\∀y,y∈put un (ov p) ((un (ov p)).erase p) x↔y≠p/\y<n/\ov y=x:=λx hx=>by
  obtain⟨u1,u2⟩:=U x hx
  by_cases e:x=ov p
  ·subst e
   rw[bj]
   refine⟨u1.erase p,λy=>?_⟩
   rw[u1.mem_erase_iff,u2]
  ·rw[bD e]
   refine⟨u1,λy=>?_⟩
   rw[u2]
   exact⟨λz=>⟨λw=>e (by rw[<-z.2,w]),z⟩,λz=>z.2⟩
 intro x hx
 unfold reU
 obtain⟨g1,g2⟩:=h0 x hx
 by_cases e:x=q
 ·subst e
  rw[bj]
  refine⟨List.nodup_append.mpr ⟨g1,W5.mpr ⟨(λh=>by cases h),List.nodup_nil⟩,λa ha b hb=>?_⟩,λy=>?_⟩
  ·rw[W9] at hb
   rw[hb]
   exact((g2 a).mp ha).1
  ·rw[Z7,W9,g2]
   by_cases ey:y=p
   ·subst ey
    rw[bj]
    exact⟨λ_=>⟨hp,rfl⟩,λ_=>.inr rfl⟩
   ·rw[bD ey]
    exact⟨λz=>z.elim (λw=>w.2) λw=>absurd w ey,λz=>.inl ⟨ey,z⟩⟩
 ·rw[bD e]
  refine⟨g1,λy=>?_⟩
  rw[g2]
  by_cases ey:y=p
  ·subst ey
   rw[bj]
   exact⟨λz=>absurd rfl z.1,λz=>absurd z.2.symm e⟩
  ·rw[bD ey]
   exact⟨λz=>z.2,λz=>⟨ey,z⟩⟩
structure Tr where
 ov:Nat->Nat
 hk:Nat->Nat
 un:Nat->List Nat
noncomputable def Tr.re(s:Tr)(p q r:Nat):Tr:=⟨put s.ov p q,put s.hk p r,reU s.un (s.ov p) p q⟩
noncomputable def fI:Nat->Nat->Nat->Nat->Tr->Tr
 | 0,_,_,_,s=>s
 | j+1,p,q,r,s=>fI j (s.ov p) p (s.hk p) (s.re p q r)
structure Rv(N:Net)(j p q r:Nat)(s:Tr):Prop where
 tr:∃dp,Tree N.n s.ov dp/\j<=dp p
 lp:p<=N.n
 lq:q<=N.n
 cl:∀i,upN s.ov i q∉ay s.ov j p
 un:Und N.n s.ov s.un
 jn:∀x,x<N.n->s.hk x<N.m/\Jn N (s.hk x) x (s.ov x)
 rm:r<N.m
 rj:0<j->Jn N r p q
section
variable{N:Net}
theorem Rv.p_lt(R:Rv N (j+1) p q r s):p<N.n:=by
 obtain⟨dp,T,h⟩:=R.tr
 exact T.pos R.lp (by omega)
theorem Rv.not_in(R:Rv N (j+1) p q r s):p∉ay s.ov j (s.ov p):=λz=>by
 obtain⟨dp,T,h⟩:=R.tr
 obtain⟨h1,h2⟩:=T.d p R.p_lt
 have:=(T.inway h1 (by omega) z).2.1
 omega
theorem Rv.next(R:Rv N (j+1) p q r s):Rv N j (s.ov p) p (s.hk p) (s.re p q r):=by
 have hp:=R.p_lt
 have hno:=R.not_in
 obtain⟨dp,T,hj⟩:=R.tr
 obtain⟨h1,h2⟩:=T.d p hp
 have hc:∀i,upN s.ov i q≠p:=λi z=>R.cl i (by rw[z];exact ο)
 obtain⟨dp',T',hd⟩:=T.hang hp R.lq hc
 have hw:ay (put s.ov p q) j (s.ov p)=ay s.ov j (s.ov p):=fX hno
 refine⟨⟨dp',T',?_⟩,h1,W7 hp,λi=>?_,R.un.re hp h1 R.lq,λx hx=>?_,(R.jn p hp).1,λ_=>(R.jn p hp).2.symm⟩
 ·rw[hd _ λi z=>?_]
  ·omega
  ·have:=(T.ups i h1).2
   rw[z] at this
   omega
 ·show upN (put s.ov p q) i p∉ay (put s.ov p q) j (s.ov p)
  rw[hw]
  cases i with
  | zero=>exact hno
  | succ i =>
   rw[upN,bj,qg λk _=>hc k]
   exact λz=>R.cl i (ι _ z)
 ·show put s.hk p r x<N.m/\Jn N (put s.hk p r x) x (put s.ov p q x)
  by_cases e:x=p
  ·subst e
   rw[bj,bj]
   exact⟨R.rm,R.rj (by omega)⟩
  ·rw[bD e,bD e]
   exact R.jn x hx
theorem Rv.fin:∀{j p q r:Nat} {s:Tr},Rv N j p q r s->∃p' q' r',Rv N 0 p' q' r' (fI j p q r s)
 | 0,p,q,r,s,R=>⟨p,q,r,R⟩
 | j+1,p,q,r,s,R=>R.next.fin
theorem Rv.out:∀{j p q r:Nat} {s:Tr},Rv N j p q r s->∀x,x∉ay s.ov j p->(fI j p q r s).ov x=s.ov x/\(fI j p q r s).hk x=s.hk x
 | 0,p,q,r,s,R,x,_=>⟨rfl,rfl⟩
 | j+1,p,q,r,s,R,x,h=>by
  have hx:x≠p:=λz=>h (z▸ο)
  have hw:ay (put s.ov p q) j (s.ov p)=ay s.ov j (s.ov p):=fX R.not_in
  obtain⟨h1,h2⟩:=R.next.out x (by show x∉ay (put s.ov p q) j (s.ov p);rw[hw];exact λz=>h (ι _ z))
  exact⟨h1.trans (bD hx),h2.trans (bD hx)⟩
theorem Rv.sf:∀{j p q r:Nat} {s:Tr},Rv N j p q r s->(∀x,x<N.n->x∉ay s.ov j p->0<room N fl (s.hk x) x)->(0<j->0<room N fl r p)->(∀i,i+1<j->0<room N fl (s.hk (upN s.ov i p)) (upN s.ov (i+1) p))->∀x,x<N.n->0<room N fl ((fI j p q r s).hk x) x
 | 0,p,q,r,s,R,h1,_,_,x,hx=>h1 x hx λz=>by cases z
 | j+1,p,q,r,s,R,h1,h2,h3,x,hx=>by
  have hw:ay (put s.ov p q) j (s.ov p)=ay s.ov j (s.ov p):=fX R.not_in
  have hu:∀i,i<j->upN (put s.ov p q) i (s.ov p)=upN s.ov i (s.ov p):=λi hi=>qg λk hk z=>R.not_in (by have w:=eg (ov:=s.ov) (p:=s.ov p) (show k<j by omega);rw[z] at w;exact w)
  refine R.next.sf (fl:=fl) (λy hy hny=>?_) (λhj=>?_) (λi hi=>?_) x hx
  ·have hny:y∉ay s.ov j (s.ov p):=by rw[<-hw];exact hny
   show 0<room N fl (put s.hk p r y) y
   by_cases e:y=p
   ·subst e;rw[bj];exact h2 (by omega)
   ·rw[bD e]
    exact h1 y hy λz=>(Γ.mp z).elim e hny
  ·exact h3 0 (by omega)
  ·show 0<room N fl (put s.hk p r (upN (put s.ov p q) i (s.ov p))) (upN (put s.ov p q) (i+1) (s.ov p))
   rw[hu i (by omega),hu (i+1) (by omega),bD λz=>R.not_in (by have w:=eg (ov:=s.ov) (p:=s.ov p) (show i<j by omega);rw[z] at w;exact w)]
   exact h3 (i+1) (by omega)
theorem Rv.keep:∀{j p q r:Nat} {s:Tr},Rv N j p q r s->∀k,(k=r\/∃x,x<N.n/\s.hk x=k)->(k=(if j=0 then r else s.hk (upN s.ov (j-1) p)))\/∃x,x<N.n/\(fI j p q r s).hk x=k
 | 0,p,q,r,s,R,k,h=>by
  rw[if_pos rfl]
  exact h
 | j+1,p,q,r,s,R,k,h=>by
  have hp:=R.p_lt
  have hu:∀i,i<j->upN (put s.ov p q) i (s.ov p)=upN s.ov i (s.ov p):=λi hi=>qg λk hk z=>R.not_in (by have w:=eg (ov:=s.ov) (p:=s.ov p) (show k<j by omega);rw[z] at w;exact w)
  have h':k=s.hk p\/∃x,x<N.n/\put s.hk p r x=k:=by
   rcases h with rfl | ⟨x,hx,rfl⟩
   ·exact .inr ⟨p,hp,bj⟩
   ·by_cases e:x=p
    ·subst e;exact .inl rfl
    ·exact .inr ⟨x,hx,bD e⟩
  rcases R.next.keep k h' with z | z
  ·left
   rw[if_neg (Nat.succ_ne_zero j),z]
   by_cases e:j=0
   ·subst e;rfl
   ·rw[if_neg e]
    show put s.hk p r (upN (put s.ov p q) (j-1) (s.ov p))=s.hk (upN s.ov (j+1-1) p)
    rw[hu (j-1) (by omega),bD λz=>R.not_in (by have w:=eg (ov:=s.ov) (p:=s.ov p) (show j-1<j by omega);rw[z] at w;exact w),show j+1-1=(j-1)+1 by omega]
    rfl
  ·exact .inr z
theorem Rv.all{Z:Nat->Prop}{p0:Nat}:∀{j p q r:Nat} {s:Tr},Rv N j p q r s->(∀x,x<N.n->x≠p0->Z (s.hk x))->p≠p0\/0<j->(p0∉ay s.ov j p)->Z r->∀x,x<N.n->x≠p0->Z ((fI j p q r s).hk x)
 | 0,p,q,r,s,R,h,_,_,_,x,hx,hne=>h x hx hne
 | j+1,p,q,r,s,R,h,_,hn,hr,x,hx,hne=>by
  have hp0:p≠p0:=λz=>hn (z▸ο)
  have hw:ay (put s.ov p q) j (s.ov p)=ay s.ov j (s.ov p):=fX R.not_in
  have hn':p0∉ay (put s.ov p q) j (s.ov p):=by rw[hw];exact λz=>hn (ι _ z)
  have hh:∀x,x<N.n->x≠p0->Z (put s.hk p r x):=λx hx hne=>by
   by_cases e:x=p
   ·subst e;rw[bj];exact hr
   ·rw[bD e];exact h x hx hne
  have hz:Z (s.hk p):=h p R.p_lt hp0
  cases j with
  | zero=>exact hh x hx hne
  | succ j=>exact R.next.all (Z:=Z) (p0:=p0) hh (.inr (by omega)) hn' hz x hx hne
end
structure St where
 fl:Nat->Int
 tm:Nat->Int
 t:Tr
 dp:Nat->Nat
noncomputable def lack(N:Net)(tm:Nat->Int)(k:Nat):Int:=N.ln k-tm (N.hi k)+tm (N.lo k)
noncomputable def inc(N:Net)(p k:Nat):Int:=(if N.hi k=p then 1 else 0)-(if N.lo k=p then 1 else 0)
structure Inv(N:Net)(s:St):Prop where
 tr:Tree N.n s.t.ov s.dp
 un:Und N.n s.t.ov s.t.un
 jn:∀p,p<N.n->s.t.hk p<N.m/\Jn N (s.t.hk p) p (s.t.ov p)
 lk:∀p,p<N.n->lack N s.tm (s.t.hk p)=0
 bb:∀k,k<N.m->0<=s.fl k/\s.fl k<=N.bd k
 nb:∀k,k<N.m->(∀p,p<N.n->s.t.hk p≠k)->s.fl k=0\/s.fl k=N.bd k
 cs:∀p,sm N.m (λk=>s.fl k*inc N p k)=0
 sf:∀p,p<N.n->0<room N s.fl (s.t.hk p) p
 sl:∀k,k<N.m->N.lo k=N.hi k->(0<N.ln k->s.fl k=N.bd k)/\(N.ln k<=0->s.fl k=0)
 rt:s.tm N.n=0
def Wr(N:Net)(s:St)(k:Nat):Prop:=k<N.m/\((0<lack N s.tm k/\s.fl k<N.bd k)\/(lack N s.tm k<0/\0<s.fl k))
noncomputable def more(N:Net)(s:St)(k:Nat):Bool:=decide (0<lack N s.tm k)
noncomputable def tl(N:Net)(s:St)(k:Nat):Nat:=if more N s k=true then N.lo k else N.hi k
noncomputable def hd(N:Net)(s:St)(k:Nat):Nat:=if more N s k=true then N.hi k else N.lo k
noncomputable def wo(N:Net)(fl:Nat->Int):Int:=sm N.m (λk=>fl k*N.ln k)
structure En(N:Net)(s:St)(k:Nat):Prop where
 km:k<N.m
 ne:tl N s k≠hd N s k
 jn:Jn N k (tl N s k) (hd N s k)
 mo:more N s k=decide (N.lo k=tl N s k)
 rt:room N s.fl k (tl N s k)=N.bd k
 rh:room N s.fl k (hd N s k)=0
 bp:0<N.bd k
 nh:∀p,p<N.n->s.t.hk p≠k
 ga:0<sg (N.ln k) (more N s k)-(s.tm (hd N s k)-s.tm (tl N s k))
 dt:(if N.hi k=tl N s k then lack N s.tm k else-lack N s.tm k)<0
theorem Inv.en(I:Inv N s)(w:Wr N s k):En N s k:=by
 obtain⟨km,w⟩:=w
 have nh:∀p,p<N.n->s.t.hk p≠k:=λp hp z=>by
  have:=I.lk p hp
  rw[z] at this
  omega
 have ne:N.lo k≠N.hi k:=λz=>by
  obtain⟨h1,h2⟩:=I.sl k km z
  unfold lack at w
  rw[z] at w
  rcases w with w | w
  ·have:=h1 (by omega);omega
  ·have:=h2 (by omega);omega
 have hb:=I.bb k km
 have hn:=I.nb k km nh
 rcases w with ⟨w1,w2⟩ | ⟨w1,w2⟩
 ·have hm:more N s k=true:=decide_eq_true w1
  have ht:tl N s k=N.lo k:=if_pos hm
  have hh:hd N s k=N.hi k:=if_pos hm
  refine⟨km,by rw[ht,hh];exact ne,.inl ⟨ht.symm,hh.symm⟩,by rw[hm,ht,decide_eq_true rfl],?_,?_,by omega,nh,?_,?_⟩
  ·rw[ht];unfold room;rw[if_pos rfl];omega
  ·rw[hh];unfold room;rw[if_neg ne];omega
  ·rw[hm,ht,hh];unfold sg lack at *;rw[if_pos rfl];omega
  ·rw[ht,if_neg (λz=>ne z.symm)];omega
 ·have hm:more N s k=false:=decide_eq_false (by omega)
  have ht:tl N s k=N.hi k:=if_neg (by rw[hm];exact ω)
  have hh:hd N s k=N.lo k:=if_neg (by rw[hm];exact ω)
  refine⟨km,by rw[ht,hh];exact λz=>ne z.symm,.inr ⟨ht.symm,hh.symm⟩,by rw[hm,ht,decide_eq_false ne],?_,?_,by omega,nh,?_,?_⟩
  ·rw[ht];unfold room;rw[if_neg ne];omega
  ·rw[hh];unfold room;rw[if_pos rfl];omega
  ·rw[hm,ht,hh];unfold sg lack at *;rw[if_neg ω];omega
  ·rw[ht,if_pos rfl];omega
theorem pN:∀{L:List Nat},L.Nodup->(∀x∈L,∀y∈L,f x=f y->x=y)->(L.map f).Nodup
 | [],_,_=>List.nodup_nil
 | x::L,h,hi=>by
  obtain⟨h1,h2⟩:=W5.mp h
  refine W5.mpr ⟨λz=>?_,pN h2 λa ha b hb=>hi a (ι _ ha) b (ι _ hb)⟩
  obtain⟨y,hy,e⟩:=W8.mp z
  have:=hi y (ι _ hy) x ο e
  exact h1 (this▸hy)
section
variable{N:Net}{s:St}
theorem Inv.ne(I:Inv N s)(h:p<N.n):p≠s.t.ov p:=λz=>by
 have:=(I.tr.d p h).2
 rw[<-z] at this
 omega
theorem Inv.inj(I:Inv N s)(hp:p<N.n)(hq:q<N.n)(e:s.t.hk p=s.t.hk q):p=q:=by
 have h1:=(I.jn p hp).2
 have h2:=(I.jn q hq).2
 rw[e] at h1
 have d1:=(I.tr.d p hp).2
 have d2:=(I.tr.d q hq).2
 rcases h1 with ⟨a,b⟩ | ⟨a,b⟩<;>rcases h2 with ⟨c,d⟩ | ⟨c,d⟩
 ·exact a.symm.trans c
 ·rw[<-a.symm.trans d] at d2;rw[<-b.symm.trans c] at d2;omega
 ·rw[<-a.symm.trans d] at d2;rw[<-b.symm.trans c] at d2;omega
 ·exact a.symm.trans c
noncomputable def ring(N:Net)(s:St)(k a b:Nat):List (Nat×Bool):=(k,more N s k)::((ay s.t.ov a (tl N s k)).map (dnS N s.t.hk)++(ay s.t.ov b (hd N s k)).map (upS N s.t.hk))
noncomputable def rmD(N:Net)(s:St)(q:Nat):Int:=room N s.fl (s.t.hk q) (s.t.ov q)
noncomputable def rmU(N:Net)(s:St)(q:Nat):Int:=room N s.fl (s.t.hk q) q
structure Pv(N:Net)(s:St)(k a b:Nat)(A:Int)(fl:Nat->Int):Prop where
 kt:room N fl k (tl N s k)=N.bd k-A
 kh:room N fl k (hd N s k)=A
 d:∀q∈ay s.t.ov a (tl N s k),room N fl (s.t.hk q) q=rmU N s q+A/\room N fl (s.t.hk q) (s.t.ov q)=rmD N s q-A
 u:∀q∈ay s.t.ov b (hd N s k),room N fl (s.t.hk q) q=rmU N s q-A/\room N fl (s.t.hk q) (s.t.ov q)=rmD N s q+A
 o:∀j,j≠k->(∀q∈ay s.t.ov a (tl N s k),s.t.hk q≠j)->(∀q∈ay s.t.ov b (hd N s k),s.t.hk q≠j)->fl j=s.fl j
 bb:∀j,j<N.m->0<=fl j/\fl j<=N.bd j
 cs:∀p,sm N.m (λk=>fl k*inc N p k)=0
 sl:∀k,k<N.m->N.lo k=N.hi k->(0<N.ln k->fl k=N.bd k)/\(N.ln k<=0->fl k=0)
 wo:wo N fl=wo N s.fl+A*(sg (N.ln k) (more N s k)-(s.tm (hd N s k)-s.tm (tl N s k)))
theorem Inv.pv(I:Inv N s)(e:En N s k)(ht:tl N s k<=N.n)(hh:hd N s k<=N.n)(M:Met s.t.ov s.dp (tl N s k) (hd N s k) t a b)(A0:0<=A)(A1:A<=N.bd k)(A2:∀q∈ay s.t.ov a (tl N s k),A<=rmD N s q)(A3:∀q∈ay s.t.ov b (hd N s k),A<=rmU N s q):Pv N s k a b A (push A (ring N s k a b) s.fl):=by
 have hD:∀q∈ay s.t.ov a (tl N s k),q<N.n:=λq hq=>(I.tr.inway ht M.la hq).1
 have hU:∀q∈ay s.t.ov b (hd N s k),q<N.n:=λq hq=>(I.tr.inway hh M.lb hq).1
 have hfst:(ring N s k a b).map (·.1)=k::(ay s.t.ov a (tl N s k)++ay s.t.ov b (hd N s k)).map s.t.hk:=by
  unfold ring
  rw[Θ,Y4,Y5,Y5,Y4]
  rfl
 have hmem:∀q∈ay s.t.ov a (tl N s k)++ay s.t.ov b (hd N s k),q<N.n:=λq hq=>(Z7.mp hq).elim (hD q) (hU q)
 have hnd:((ring N s k a b).map (·.1)).Nodup:=by
  rw[hfst]
  refine W5.mpr ⟨λz=>?_,pN (List.nodup_append.mpr ⟨I.tr.way_nd ht M.la,I.tr.way_nd hh M.lb,λx hx y hy z=>M.dj x hx (z▸hy)⟩) λx hx y hy z=>I.inj (hmem x hx) (hmem y hy) z⟩
  obtain⟨y,hy,z⟩:=W8.mp z
  exact e.nh y (hmem y hy) z
 have fk:push A (ring N s k a b) s.fl k=s.fl k+sg A (more N s k):=mX hnd ο
 have fd:∀q∈ay s.t.ov a (tl N s k),push A (ring N s k a b) s.fl (s.t.hk q)=s.fl (s.t.hk q)+sg A (decide (N.hi (s.t.hk q)=q)):=λq hq=>mX hnd (ι _ (Z7.mpr (.inl (List.mem_map_of_mem (f:=dnS N s.t.hk) hq))))
 have fu:∀q∈ay s.t.ov b (hd N s k),push A (ring N s k a b) s.fl (s.t.hk q)=s.fl (s.t.hk q)+sg A (decide (N.lo (s.t.hk q)=q)):=λq hq=>mX hnd (ι _ (Z7.mpr (.inr (List.mem_map_of_mem (f:=upS N s.t.hk) hq))))
 have fo:∀j,j≠k->(∀q∈ay s.t.ov a (tl N s k),s.t.hk q≠j)->(∀q∈ay s.t.ov b (hd N s k),s.t.hk q≠j)->push A (ring N s k a b) s.fl j=s.fl j:=λj h1 h2 h3=>by
  refine nQ ?_
  rw[hfst]
  intro z
  rcases Γ.mp z with z | z
  ·exact h1 z
  ·obtain⟨y,hy,z⟩:=W8.mp z
   exact(Z7.mp hy).elim (λw=>h2 y w z) λw=>h3 y w z
 have xd:∀q,q<N.n->decide (N.hi (s.t.hk q)=q)=!decide (N.lo (s.t.hk q)=q)/\decide (N.hi (s.t.hk q)=q)=decide (N.lo (s.t.hk q)=s.t.ov q)/\decide (N.lo (s.t.hk q)=q)=!decide (N.lo (s.t.hk q)=s.t.ov q):=λq hq=>by
  have hne:=I.ne hq
  rcases (I.jn q hq).2 with ⟨a,b⟩ | ⟨a,b⟩
  ·rw[a,b,decide_eq_true (rfl:q=q),decide_eq_false (λz=>hne z.symm),decide_eq_false hne];exact⟨rfl,rfl,rfl⟩
  ·rw[a,b,decide_eq_true (rfl:q=q),decide_eq_false (λz=>hne z.symm),decide_eq_true (rfl:s.t.ov q=s.t.ov q)];exact⟨rfl,rfl,rfl⟩
 have mh:more N s k=!decide (N.lo k=hd N s k):=by
  rw[e.mo]
  rcases e.jn with ⟨a,b⟩ | ⟨a,b⟩
  ·rw[a,decide_eq_true rfl,decide_eq_false e.ne];rfl
  ·rw[b,decide_eq_false (λz=>e.ne z.symm),decide_eq_true rfl];rfl
 have hL:∀x∈ring N s k a b,x.1<N.m:=λx hx=>by
  rcases Γ.mp hx with rfl | hx
  ·exact e.km
  ·rcases Z7.mp hx with hx | hx
   ·obtain⟨q,hq,rfl⟩:=W8.mp hx
    exact(I.jn q (hD q hq)).1
   ·obtain⟨q,hq,rfl⟩:=W8.mp hx
    exact(I.jn q (hU q hq)).1
 have pot:∀(c π:Nat->Int),(∀q,q<N.n->c (s.t.hk q)=π (N.hi (s.t.hk q))-π (N.lo (s.t.hk q)))->tot c (ring N s k a b)=sg (c k) (more N s k)-(π (hd N s k)-π (tl N s k)):=λc π h=>by
  have h1:=xq (N:=N) (hk:=s.t.hk) (c:=c) (π:=π) (k:=a) (p:=tl N s k) λq hq=>⟨(I.jn q (hD q hq)).2,I.ne (hD q hq),h q (hD q hq)⟩
  have h2:=xo (N:=N) (hk:=s.t.hk) (c:=c) (π:=π) (k:=b) (p:=hd N s k) λq hq=>⟨(I.jn q (hU q hq)).2,I.ne (hU q hq),h q (hU q hq)⟩
  rw[M.ta] at h1
  rw[M.tb] at h2
  unfold ring
  rw[tot,qh,h1,h2]
  omega
 refine⟨?_,?_,λq hq=>⟨nN (xd q (hD q hq)).1 (fd q hq),nM (xd q (hD q hq)).2.1 (fd q hq)⟩,λq hq=>⟨nM rfl (fu q hq),nN (xd q (hU q hq)).2.2 (fu q hq)⟩,fo,λj hj=>?_,λp=>?_,λj hj hl=>?_,?_⟩
 ·rw[nM e.mo fk,e.rt]
 ·rw[nN mh fk,e.rh];omega
 ·by_cases h1:j=k
  ·subst h1
   exact uB e.mo fk (I.bb j hj) A0 (by rw[e.rt];exact A1)
  ·by_cases h2:∃q∈ay s.t.ov a (tl N s k),s.t.hk q=j
   ·obtain⟨q,hq,rfl⟩:=h2
    exact uB (xd q (hD q hq)).2.1 (fd q hq) (I.bb _ hj) A0 (A2 q hq)
   ·by_cases h3:∃q∈ay s.t.ov b (hd N s k),s.t.hk q=j
    ·obtain⟨q,hq,rfl⟩:=h3
     exact uB rfl (fu q hq) (I.bb _ hj) A0 (A3 q hq)
    ·rw[fo j h1 (λq hq z=>h2 ⟨q,hq,z⟩) λq hq z=>h3 ⟨q,hq,z⟩]
     exact I.bb j hj
 ·rw[qv hL,I.cs p,pot (inc N p) (λx=>if x=p then 1 else 0) λq _=>rfl]
  have:sg (inc N p k) (more N s k)=(if hd N s k=p then 1 else 0)-(if tl N s k=p then 1 else 0):=by
   unfold inc hd tl sg
   cases more N s k with
   | true=>rw[if_pos rfl,if_pos rfl,if_pos rfl]
   | false=>rw[if_neg ω,if_neg ω,if_neg ω];omega
  rw[this,Int.sub_self,U8]
  rfl
 ·have:push A (ring N s k a b) s.fl j=s.fl j:=fo j (λz=>by
    subst z
    rcases e.jn with ⟨a,b⟩ | ⟨a,b⟩
    ·exact e.ne (a.symm.trans (hl.trans b))
    ·exact e.ne (a.symm.trans (hl.symm.trans b))) (λq hq z=>by
    rcases (I.jn q (hD q hq)).2 with ⟨a,b⟩ | ⟨a,b⟩
    ·rw[z] at a b;exact I.ne (hD q hq) (a.symm.trans (hl.trans b))
    ·rw[z] at a b;exact I.ne (hD q hq) (a.symm.trans (hl.symm.trans b))) (λq hq z=>by
    rcases (I.jn q (hU q hq)).2 with ⟨a,b⟩ | ⟨a,b⟩
    ·rw[z] at a b;exact I.ne (hU q hq) (a.symm.trans (hl.trans b))
    ·rw[z] at a b;exact I.ne (hU q hq) (a.symm.trans (hl.symm.trans b)))
  rw[this]
  exact I.sl j hj hl
 ·unfold TR.wo
  rw[qv hL,pot N.ln s.tm λq hq=>?_]
  have:=I.lk q hq
  unfold lack at this
  omega
theorem Inv.flip(I:Inv N s)(e:En N s k)(ht:tl N s k<=N.n)(hh:hd N s k<=N.n)(M:Met s.t.ov s.dp (tl N s k) (hd N s k) t a b)(P:Pv N s k a b (N.bd k) fl)(A3:∀q∈ay s.t.ov b (hd N s k),N.bd k<rmU N s q):Inv N { s with fl:=fl }:=by
 refine⟨I.tr,I.un,I.jn,I.lk,P.bb,λj hj hn=>?_,P.cs,λp hp=>?_,P.sl,I.rt⟩
 ·by_cases h:j=k
  ·subst h
   have h1:=P.kt
   have h2:=P.kh
   show fl j=0\/fl j=N.bd j
   unfold room at h1 h2
   have h3:=e.ne
   rcases e.jn with ⟨z1,z2⟩ | ⟨z1,z2⟩
   ·rw[if_pos z1] at h1;omega
   ·rw[if_neg (by rw[z2];exact λz=>h3 z.symm)] at h1;omega
  ·show fl j=0\/fl j=N.bd j
   rw[P.o j h (λq hq=>hn q (I.tr.inway ht M.la hq).1) λq hq=>hn q (I.tr.inway hh M.lb hq).1]
   exact I.nb j hj hn
 ·show 0<room N fl (s.t.hk p) p
  have h0:=I.sf p hp
  have hb:=e.bp
  by_cases h1:p∈ay s.t.ov a (tl N s k)
  ·rw[(P.d p h1).1];unfold rmU;omega
  ·by_cases h2:p∈ay s.t.ov b (hd N s k)
   ·rw[(P.u p h2).1];have:=A3 p h2;omega
   ·rw[uV (P.o _ (e.nh p hp) (λq hq z=>h1 (I.inj (I.tr.inway ht M.la hq).1 hp z▸hq)) λq hq z=>h2 (I.inj (I.tr.inway hh M.lb hq).1 hp z▸hq))]
    exact h0
def sub(ov:Nat->Nat)(p x:Nat):Prop:=∃i,upN ov i x=p
open Classical in
noncomputable def shf(ov:Nat->Nat)(p:Nat)(δ:Int)(tm:Nat->Int):Nat->Int:=λx=>if sub ov p x then tm x+δ else tm x
structure Hg(N:Net)(s:St)(k i p q:Nat)(fl:Nat->Int):Prop where
 km:k<N.m
 nh:∀x,x<N.n->s.t.hk x≠k
 jn:Jn N k p q
 pn:p<=N.n
 qn:q<=N.n
 id:i<s.dp p
 cl:∀j,upN s.t.ov j q∉ay s.t.ov (i+1) p
 bb:∀j,j<N.m->0<=fl j/\fl j<=N.bd j
 cs:∀p,sm N.m (λk=>fl k*inc N p k)=0
 sl:∀k,k<N.m->N.lo k=N.hi k->(0<N.ln k->fl k=N.bd k)/\(N.ln k<=0->fl k=0)
 nb:∀j,j<N.m->j≠k->(∀x,x<N.n->s.t.hk x≠j)->fl j=0\/fl j=N.bd j
 nx:fl (s.t.hk (upN s.t.ov i p))=0\/fl (s.t.hk (upN s.t.ov i p))=N.bd (s.t.hk (upN s.t.ov i p))
 s1:∀x,x<N.n->x∉ay s.t.ov (i+1) p->0<room N fl (s.t.hk x) x
 s2:0<room N fl k p
 s3:∀j,j<i->0<room N fl (s.t.hk (upN s.t.ov j p)) (upN s.t.ov (j+1) p)
noncomputable def dlt(N:Net)(s:St)(k p:Nat):Int:=if N.hi k=p then lack N s.tm k else-lack N s.tm k
theorem Hg.rv{k i p q:Nat}{fl:Nat->Int}(I:Inv N s)(h:Hg N s k i p q fl):Rv N (i+1) p q k s.t :=
 ⟨⟨s.dp,I.tr,h.id⟩,h.pn,h.qn,h.cl,I.un,I.jn,h.km,λ_=>h.jn⟩
theorem Hg.inv{k i p q:Nat}{fl:Nat->Int}(I:Inv N s)(h:Hg N s k i p q fl):∃dp,Tree N.n (fI (i+1) p q k s.t).ov dp/\Und N.n (fI (i+1) p q k s.t).ov (fI (i+1) p q k s.t).un/\Inv N ⟨fl,shf (fI (i+1) p q k s.t).ov p (dlt N s k p) s.tm,fI (i+1) p q k s.t,dp⟩/\p<N.n:=by
 have R:=h.rv I
 have hp:=R.p_lt
 obtain⟨p',q',r',RF⟩:=R.fin
 obtain⟨dp,T,_⟩:=RF.tr
 obtain⟨o1,o2⟩:=R.next.out p (by
  show p∉ay (put s.t.ov p q) i (s.t.ov p)
  rw[fX R.not_in]
  exact R.not_in)
 have o1:(fI (i+1) p q k s.t).ov p=q:=o1.trans bj
 have o2:(fI (i+1) p q k s.t).hk p=k:=o2.trans bj
 have hal:∀x,x<N.n->x≠p->lack N s.tm ((fI (i+1) p q k s.t).hk x)=0:=λx hx hne=>by
  have hh:∀x,x<N.n->x≠p->lack N s.tm ((s.t.re p q k).hk x)=0:=λx hx hne=>by
   show lack N s.tm (put s.t.hk p k x)=0
   rw[bD hne]
   exact I.lk x hx
  cases i with
  | zero=>exact hh x hx hne
  | succ i =>
   exact R.next.all (Z:=λj=>lack N s.tm j=0) (p0:=p) hh (.inr (by omega)) (by
    show p∉ay (put s.t.ov p q) (i+1) (s.t.ov p)
    rw[fX R.not_in]
    exact R.not_in) (I.lk p hp) x hx hne
 have hkeep:=R.keep
 have hsf:=R.sf (fl:=fl) h.s1 (λ_=>h.s2) (λj hj=>h.s3 j (by omega))
 rw[if_neg (Nat.succ_ne_zero i),Nat.add_sub_cancel] at hkeep
 have hjn:=RF.jn
 have hun:=RF.un
 generalize hu:fI (i+1) p q k s.t=u at *
 refine⟨dp,T,hun,⟨T,hun,hjn,λx hx=>?_,h.bb,λj hj hn=>?_,h.cs,hsf,h.sl,?_⟩,hp⟩
 ·show lack N (shf u.ov p (dlt N s k p) s.tm) (u.hk x)=0
  have nq:¬sub u.ov p q:=λ⟨i,z⟩=>by
   have h1:=(T.ups i (h.qn)).2
   have h2:=(T.d p hp).2
   rw[z] at h1
   rw[o1] at h2
   omega
  by_cases e:x=p
  ·subst e
   rw[o2]
   have hs:sub u.ov x x:=⟨0,rfl⟩
   have hne:x≠q:=λz=>nq (z▸hs)
   unfold lack shf dlt
   rcases h.jn with ⟨z1,z2⟩ | ⟨z1,z2⟩
   ·rw[z1,z2,if_neg nq,if_pos hs,if_neg (λz=>hne z.symm)]
    unfold lack
    rw[z1,z2]
    omega
   ·rw[z1,z2,if_pos hs,if_neg nq,if_pos rfl]
    unfold lack
    rw[z1,z2]
    omega
  ·have h1:=hal x hx e
   have hiff:sub u.ov p x↔sub u.ov p (u.ov x):=⟨λ⟨i,z⟩=>by
    cases i with
    | zero=>exact absurd z e
    | succ i=>exact⟨i,z⟩,λ⟨i,z⟩=>⟨i+1,z⟩⟩
   unfold lack shf at *
   by_cases hs:sub u.ov p x
   ·have hs2:=hiff.mp hs
    rcases (hjn x hx).2 with ⟨z1,z2⟩ | ⟨z1,z2⟩
    ·rw[z1,z2] at h1 ⊢;rw[if_pos hs,if_pos hs2];omega
    ·rw[z1,z2] at h1 ⊢;rw[if_pos hs,if_pos hs2];omega
   ·have hs2:¬sub u.ov p (u.ov x):=λz=>hs (hiff.mpr z)
    rcases (hjn x hx).2 with ⟨z1,z2⟩ | ⟨z1,z2⟩
    ·rw[z1,z2] at h1 ⊢;rw[if_neg hs,if_neg hs2];omega
    ·rw[z1,z2] at h1 ⊢;rw[if_neg hs,if_neg hs2];omega
 ·show fl j=0\/fl j=N.bd j
  by_cases e1:j=k
  ·exact absurd (o2.trans e1.symm) (hn p hp)
  ·by_cases e2:∃x,x<N.n/\s.t.hk x=j
   ·rcases hkeep j (.inr e2) with z | ⟨x,hx,z⟩
    ·rw[z];exact h.nx
    ·exact absurd z (hn x hx)
   ·exact h.nb j hj e1 λx hx z=>e2 ⟨x,hx,z⟩
 ·show shf u.ov p (dlt N s k p) s.tm N.n=0
  have hr:∀i,upN u.ov i N.n=N.n:=λi=>by
   induction i with
   | zero=>rfl
   | succ i ih=>rw[d5,ih,T.o]
  have hs:¬sub u.ov p N.n:=λ⟨i,z⟩=>by
   rw[hr] at z
   omega
  unfold shf
  rw[if_neg hs]
  exact I.rt
end
section
variable{N:Net}{s:St}
theorem pd(h:ay ov k p=L1++x::L2):L1.length<k/\x=upN ov L1.length p/\L1=ay ov L1.length p/\L2=ay ov (k-L1.length-1) (upN ov (L1.length+1) p):=by
 have hl:=congrArg List.length h
 rw[je,η,Φ] at hl
 have hk:k=L1.length+((k-L1.length-1)+1):=by omega
 rw[hk,uH] at h
 obtain⟨h1,h2⟩:=List.append_inj h (je _ _)
 rw[ay,List.cons.injEq] at h2
 exact⟨by omega,h2.1.symm,h1.symm,by rw[<-h2.2,d5]⟩
theorem pE(h:room N fl k p=0):fl k=0\/fl k=N.bd k:=by
 unfold room at h
 split at h
 ·exact .inr (by omega)
 ·exact .inl h
theorem Inv.clear(I:Inv N s)(hp:p<=N.n)(hq:q<=N.n)(M:Met s.t.ov s.dp p q t a b):(∀j,upN s.t.ov j q∉ay s.t.ov a p)/\∀j,upN s.t.ov j p∉ay s.t.ov b q:=by
 have h1:=I.tr.up a hp M.la
 have h2:=I.tr.up b hq M.lb
 rw[M.ta] at h1
 rw[M.tb] at h2
 constructor
 ·intro j z
  obtain⟨z1,z2,z3,z4⟩:=I.tr.inway hp M.la z
  rcases Y6 j b with hj | hj
  ·exact M.dj _ z (eg hj)
  ·have:=(I.tr.ups (j-b) h2.1).2
   rw[<-M.tb,<-li,show b+(j-b)=j by omega,M.tb] at this
   omega
 ·intro j z
  obtain⟨z1,z2,z3,z4⟩:=I.tr.inway hq M.lb z
  rcases Y6 j a with hj | hj
  ·exact M.dj _ (eg hj) z
  ·have:=(I.tr.ups (j-a) h1.1).2
   rw[<-M.ta,<-li,show a+(j-a)=j by omega,M.ta] at this
   omega
theorem qe(h:i<=k)(hx:x∈ay ov i p):x∈ay ov k p:=by
 obtain⟨j,h1,rfl⟩:=qf hx
 exact eg (by omega)
theorem Inv.mend(I:Inv N s)(w:Wr N s k)(ht:tl N s k<=N.n)(hh:hd N s k<=N.n)(M:Met s.t.ov s.dp (tl N s k) (hd N s k) t a b) :
  (chD (rmD N s) (ay s.t.ov a (tl N s k)) (N.bd k) none=(N.bd k,none)/\chU (rmU N s) (ay s.t.ov b (hd N s k)) (N.bd k) none=(N.bd k,none)/\Inv N { s with fl:=push (N.bd k) (ring N s k a b) s.fl }/\wo N s.fl<wo N (push (N.bd k) (ring N s k a b) s.fl)) \/
  (∃i A,i<a/\chD (rmD N s) (ay s.t.ov a (tl N s k)) (N.bd k) none=(A,some (upN s.t.ov i (tl N s k)))/\chU (rmU N s) (ay s.t.ov b (hd N s k)) A none=(A,none)/\Hg N s k i (tl N s k) (hd N s k) (push A (ring N s k a b) s.fl)/\wo N s.fl<=wo N (push A (ring N s k a b) s.fl)/\dlt N s k (tl N s k)<0) \/
  (∃i A A1 l1,i<b/\chD (rmD N s) (ay s.t.ov a (tl N s k)) (N.bd k) none=(A1,l1)/\chU (rmU N s) (ay s.t.ov b (hd N s k)) A1 none=(A,some (upN s.t.ov i (hd N s k)))/\Hg N s k i (hd N s k) (tl N s k) (push A (ring N s k a b) s.fl)/\wo N s.fl<wo N (push A (ring N s k a b) s.fl)):=by
 have e:=I.en w
 have hD:∀q∈ay s.t.ov a (tl N s k),q<N.n:=λq hq=>(I.tr.inway ht M.la hq).1
 have hU:∀q∈ay s.t.ov b (hd N s k),q<N.n:=λq hq=>(I.tr.inway hh M.lb hq).1
 have dn0:∀q,q<N.n->0<=rmD N s q:=λq hq=>(room_nn (I.bb _ (I.jn q hq).1)).1
 have up0:∀q,q<N.n->0<rmU N s q:=λq hq=>I.sf q hq
 have hbp:=e.bp
 have hga:=e.ga
 obtain⟨cl1,cl2⟩:=I.clear ht hh M
 have oth:∀{A:Int} {fl:Nat->Int},Pv N s k a b A fl->∀x,x<N.n->x∉ay s.t.ov a (tl N s k)->x∉ay s.t.ov b (hd N s k)->0<room N fl (s.t.hk x) x:=λ{A fl} P x hx h1 h2=>by
  rw[uV (P.o _ (e.nh x hx) (λq hq z=>h1 (I.inj (hD q hq) hx z▸hq)) λq hq z=>h2 (I.inj (hU q hq) hx z▸hq))]
  exact I.sf x hx
 have onb:∀{A:Int} {fl:Nat->Int},Pv N s k a b A fl->∀j,j<N.m->j≠k->(∀x,x<N.n->s.t.hk x≠j)->fl j=0\/fl j=N.bd j:=λ{A fl} P j hj hk hn=>by
  rw[P.o j hk (λq hq=>hn q (hD q hq)) λq hq=>hn q (hU q hq)]
  exact I.nb j hj hn
 have up_case:∀(A1:Int) (l1:Option Nat) (x:Nat) (L1 L2:List Nat),0<=A1->A1<=N.bd k->(∀q∈ay s.t.ov a (tl N s k),A1<=rmD N s q)->ay s.t.ov b (hd N s k)=L1++x::L2->rmU N s x<=A1->(∀q∈L1,rmU N s x<=rmU N s q)->(∀q∈L2,rmU N s x<rmU N s q)->∃i,i<b/\x=upN s.t.ov i (hd N s k)/\Hg N s k i (hd N s k) (tl N s k) (push (rmU N s x) (ring N s k a b) s.fl)/\wo N s.fl<wo N (push (rmU N s x) (ring N s k a b) s.fl):=by
  intro A1 l1 x L1 L2 h0 h1 h2 hs h3 h4 h5
  obtain⟨g1,g2,g3,g4⟩:=pd hs
  have hxU:x∈ay s.t.ov b (hd N s k):=by rw[hs];exact Z7.mpr (.inr ο)
  have hx0:=up0 x (hU x hxU)
  have P:=I.pv e ht hh M (A:=rmU N s x) (by omega) (by omega) (λq hq=>by have:=h2 q hq;omega) (λq hq=>by
   rw[hs] at hq
   rcases Z7.mp hq with hq | hq
   ·exact h4 q hq
   ·rcases Γ.mp hq with rfl | hq
    ·exact T7 _
    ·exact Int.le_of_lt (h5 q hq))
  refine⟨L1.length,g1,g2,⟨e.km,e.nh,e.jn.symm,hh,ht,by have:=M.lb;omega,λj z=>cl2 j (qe (by omega) z),P.bb,P.cs,P.sl,onb P,?_,λy hy hny=>?_,by rw[P.kh];exact hx0,λj hj=>?_⟩,?_⟩
  ·rw[<-g2]
   exact pE (p:=x) (by rw[(P.u x hxU).1];omega)
  ·by_cases y1:y∈ay s.t.ov a (tl N s k)
   ·rw[(P.d y y1).1];have:=up0 y hy;omega
   ·by_cases y2:y∈ay s.t.ov b (hd N s k)
    ·rw[(P.u y y2).1]
     have y3:=y2
     rw[hs] at y3
     rcases Z7.mp y3 with y3 | y3
     ·rw[g3] at y3;exact absurd (qe (by omega) y3) hny
     ·rcases Γ.mp y3 with rfl | y3
      ·exact absurd (by rw[g2];exact eg (by omega)) hny
      ·have:=h5 y y3;omega
    ·exact oth P y hy y1 y2
  ·have hy:upN s.t.ov j (hd N s k)∈ay s.t.ov b (hd N s k):=eg (by omega)
   rw[d5,(P.u _ hy).2]
   have:=dn0 _ (hU _ hy)
   omega
  ·rw[P.wo]
   have:=Int.mul_pos hx0 hga
   omega
 rcases uA (rmD N s) (ay s.t.ov a (tl N s k)) (N.bd k) none with ⟨c1,c2⟩ | ⟨x,L1,L2,c1,c2,c3,c4,c5⟩
 ·rcases q0 (rmU N s) (ay s.t.ov b (hd N s k)) (N.bd k) none with ⟨u1,u2⟩ | ⟨x,L1,L2,u1,u2,u3,u4,u5⟩
  ·have P:=I.pv e ht hh M (A:=N.bd k) (by omega) (by omega) c2 (λq hq=>Int.le_of_lt (u2 q hq))
   refine .inl ⟨c1,u1,I.flip e ht hh M P u2,?_⟩
   rw[P.wo]
   have:=Int.mul_pos hbp hga
   omega
  ·obtain⟨i,h1,h2,h3,h4⟩:=up_case (N.bd k) none x L1 L2 (by omega) (by omega) c2 u1 u3 u4 u5
   exact .inr (.inr ⟨i,_,_,_,h1,c1,by rw[u2,<-h2],h3,h4⟩)
 ·have hxD:x∈ay s.t.ov a (tl N s k):=by rw[c1];exact Z7.mpr (.inr ο)
  have hx0:=dn0 x (hD x hxD)
  have hle:∀q∈ay s.t.ov a (tl N s k),rmD N s x<=rmD N s q:=λq hq=>by
   rw[c1] at hq
   rcases Z7.mp hq with hq | hq
   ·exact Int.le_of_lt (c4 q hq)
   ·rcases Γ.mp hq with rfl | hq
    ·exact T7 _
    ·exact c5 q hq
  rcases q0 (rmU N s) (ay s.t.ov b (hd N s k)) (rmD N s x) none with ⟨u1,u2⟩ | ⟨y,Y1,Y2,u1,u2,u3,u4,u5⟩
  ·obtain⟨g1,g2,g3,g4⟩:=pd c1
   have P:=I.pv e ht hh M (A:=rmD N s x) hx0 (by omega) hle (λq hq=>Int.le_of_lt (u2 q hq))
   refine .inr (.inl ⟨L1.length,_,g1,by rw[c2,<-g2],u1,⟨e.km,e.nh,e.jn,ht,hh,by have:=M.la;omega,λj z=>cl1 j (qe (by omega) z),P.bb,P.cs,P.sl,onb P,?_,λy hy hny=>?_,by rw[P.kt];omega,λj hj=>?_⟩,?_,e.dt⟩)
   ·rw[<-g2]
    exact pE (p:=s.t.ov x) (by rw[(P.d x hxD).2];omega)
   ·by_cases y1:y∈ay s.t.ov a (tl N s k)
    ·rw[(P.d y y1).1];have:=up0 y hy;omega
    ·by_cases y2:y∈ay s.t.ov b (hd N s k)
     ·rw[(P.u y y2).1];have:=u2 y y2;omega
     ·exact oth P y hy y1 y2
   ·have hy1:upN s.t.ov j (tl N s k)∈L1:=by rw[g3];exact eg hj
    have hy:upN s.t.ov j (tl N s k)∈ay s.t.ov a (tl N s k):=eg (by omega)
    rw[d5,(P.d _ hy).2]
    have:=c4 _ hy1
    omega
   ·rw[P.wo]
    have:=Int.mul_nonneg hx0 (Int.le_of_lt hga)
    omega
  ·obtain⟨i,h1,h2,h3,h4⟩:=up_case (rmD N s x) (some x) y Y1 Y2 hx0 (by omega) hle u1 u3 u4 u5
   exact .inr (.inr ⟨i,_,_,_,h1,c2,by rw[u2,<-h2],h3,h4⟩)
noncomputable def ab(i:Int):Int:=if 0<=i then i else -i
noncomputable def Wm(N:Net):Int:=sm N.m (λk=>N.bd k*ab (N.ln k))
noncomputable def Cm(N:Net):Int:=sm N.m (λk=>ab (N.ln k))
theorem vV(i:Int):0<=ab i/\i<=ab i /\ -i<=ab i:=by unfold ab;split<;>omega
theorem Inv.wo_le(I:Inv N s):wo N s.fl<=Wm N:=rT λk hk=>by
 obtain⟨h1,h2⟩:=I.bb k hk
 obtain⟨a1,a2,_⟩:=vV (N.ln k)
 exact Int.le_trans (Int.mul_le_mul_of_nonneg_left a2 h1) (Int.mul_le_mul_of_nonneg_right h2 a1)
theorem Inv.tm_ge(I:Inv N s):∀(d p:Nat),p<=N.n->s.dp p=d->-((d:Int)*Cm N)<=s.tm p
 | 0,p,hp,hd=>by
  have:p=N.n:=by
   rcases Y6 p N.n with z | z
   ·have:=(I.tr.d p z).2;omega
   ·omega
  rw[this,I.rt]
  have:((0:Nat):Int)*Cm N=0:=Int.zero_mul _
  omega
 | d+1,p,hp,hd=>by
  have hpn:=I.tr.pos hp (by omega)
  obtain⟨h1,h2⟩:=I.tr.d p hpn
  have ih:=I.tm_ge d (s.t.ov p) h1 (by omega)
  have hl:=I.lk p hpn
  obtain⟨j1,j2⟩:=I.jn p hpn
  obtain⟨a1,a2,a3⟩:=vV (N.ln (s.t.hk p))
  have hc:ab (N.ln (s.t.hk p))<=Cm N:=tK (f:=λk=>ab (N.ln k)) (λj _=>(vV _).1) j1
  have he:((d+1:Nat):Int)*Cm N=(d:Int)*Cm N+Cm N:=by rw[Int.natCast_succ,Int.add_mul,Int.one_mul]
  unfold lack at hl
  rcases j2 with ⟨z1,z2⟩ | ⟨z1,z2⟩
  ·rw[z1,z2] at hl;omega
  ·rw[z1,z2] at hl;omega
theorem jT:∀(n:Nat) (L:List Nat),L.Nodup->(∀x∈L,x<n)->L.length<=n
 | 0,L,_,h=>by
  cases L with
  | nil=>exact υ _
  | cons x L=>exact absurd (h x ο) (X6 _)
 | n+1,L,hn,h=>by
  have h1:=jT n (L.erase n) (hn.erase n) λx hx=>by
   obtain⟨z1,z2⟩:=hn.mem_erase_iff.mp hx
   have:=h x z2
   omega
  have:=List.length_erase_of_mem (a:=n) (l:=L)
  by_cases hm:n∈L
  ·have:=this hm;omega
  ·rw[List.erase_of_not_mem hm] at h1;omega
theorem Tree.dp_le{n:Nat}{ov dp:Nat->Nat}(T:Tree n ov dp){p:Nat}(hp:p<=n):dp p<=n:=by
 have:=jT n (ay ov (dp p) p) (T.way_nd hp (υ _)) λx hx=>(T.inway hp (υ _) hx).1
 rwa[je] at this
noncomputable def lw(N:Net):Int:=-((N.n:Int)*Cm N)
theorem Inv.tm_lw(I:Inv N s)(hp:p<=N.n):lw N<=s.tm p:=by
 have h1:=I.tm_ge (s.dp p) p hp rfl
 have h2:=I.tr.dp_le hp
 have h3:0<=Cm N:=xF λj _=>(vV _).1
 have:=Int.mul_le_mul_of_nonneg_right (show((s.dp p:Nat):Int)<=(N.n:Int) by omega) h3
 unfold lw
 omega
noncomputable def m1(N:Net)(s:St):Nat:=(Wm N-wo N s.fl).toNat
noncomputable def m2(N:Net)(s:St):Nat:=(sm N.n s.tm-sm N.n (λ_=>lw N)).toNat
def xf(N:Net)(s' s:St):Prop:=m1 N s'<m1 N s\/(m1 N s'=m1 N s/\m2 N s'<m2 N s)
theorem qI(I':Inv N s')(h:wo N s.fl<wo N s'.fl):xf N s' s:=by
 have:=I'.wo_le
 exact .inl (by unfold m1;omega)
theorem less_tm(I':Inv N s')(h:wo N s.fl<=wo N s'.fl)(ht:sm N.n s'.tm<sm N.n s.tm):xf N s' s:=by
 have h1:=I'.wo_le
 have h2:sm N.n (λ_=>lw N)<=sm N.n s'.tm:=rT λj hj=>I'.tm_lw (by omega)
 rcases Int.lt_or_eq_of_le h with z | z
 ·exact qI I' z
 ·exact .inr ⟨by unfold m1;rw[z],by unfold m2;omega⟩
theorem shf_lt{ov:Nat->Nat}{p:Nat}{δ:Int}{tm:Nat->Int}(hp:p<N.n)(hd:δ<0):sm N.n (shf ov p δ tm)<sm N.n tm:=by
 refine sm_lt (i:=p) (λj _=>?_) hp ?_
 ·unfold shf
  split<;>omega
 ·unfold shf
  rw[if_pos ⟨0,rfl⟩]
  omega
theorem less_wf(N:Net):WellFounded (λs' s=>xf N s' s):=by
 refine Subrelation.wf (r:=InvImage (Prod.Lex (· < ·) (· < ·)) λs=>(m1 N s,m2 N s)) (λ{a b} h=>?_) (InvImage.wf _ (Prod.lex Nat.lt_wfRel Nat.lt_wfRel).wf)
 rcases h with h | ⟨h1,h2⟩
 ·exact Prod.Lex.left _ _ h
 ·show Prod.Lex (· < ·) (· < ·) (m1 N a,m2 N a) (m1 N b,m2 N b)
  rw[h1]
  exact Prod.Lex.right _ h2
end
theorem nE(f:Nat->Int)(m:Nat):∀n,sm (m+n) f=sm m f+sm n (λp=>f (m+p))
 | 0=>by rw[Nat.add_zero];show _=_+0;omega
 | n+1=>by rw[<-Nat.add_assoc,sm,nE f m n,sm];omega
structure Nw(N:Net)(m:Nat)(must:Nat->Bool)(tt:Int)(T:Nat->Int):Prop where
 mm:N.m=m+N.n
 lo:∀k,k<m->N.lo k<N.n
 hi:∀k,k<m->N.hi k<N.n
 tl:∀p,p<N.n->N.lo (m+p)=p/\N.hi (m+p)=N.n
 ts:sm m (λk=>if must k=true then 0 else N.bd k)=tt
 mb:∀k,k<m->must k=true->N.bd k=tt+1
 kp:∀k,k<m->must k=true->N.ln k<=T (N.hi k)-T (N.lo k)
structure Good(N:Net)(m:Nat)(must:Nat->Bool)(s:St):Prop where
 bb:∀k,k<m->0<=s.fl k/\(must k=false->s.fl k<=N.bd k)
 cs:∀p,p<N.n->sm m (λk=>s.fl k*inc N p k)=0
 mu:∀k,k<m->must k=true->lack N s.tm k<=0
 eq:sm m (λk=>s.fl k*N.ln k)=sm m (λk=>if must k=true then 0 else N.bd k*max 0 (lack N s.tm k))
section
theorem xT{π:Nat->Int}{n a b:Nat}(ha:a<n)(hb:b<n):sm n (λp=>π p*((if a=p then 1 else 0)-(if b=p then 1 else 0)))=π a-π b:=by
 rw[bN (g:=λp=>(if a=p then π p else 0)-(if b=p then π p else 0)) λp _=>?_,xD,mU ha,mU hb]
 rw[Int.mul_sub]
 split<;>split<;>omega
theorem Inv.ends(I:Inv N s)(W:Nw N m must tt T)(h:∀k,k<m->¬Wr N s k):Good N m must s:=by
 have hm:∀k,k<m->k<N.m:=λk hk=>by rw[W.mm];omega
 have h0:∀p,p<N.n->s.fl (m+p)=0:=by
  have c:=I.cs N.n
  rw[W.mm,nE,bN (k:=m) (g:=λ_=>0) λk hk=>?_,kl,bN (k:=N.n) (g:=λp=>s.fl (m+p)) λp hp=>?_] at c
  ·intro p hp
   have h1:=tK (f:=λp=>s.fl (m+p)) (k:=N.n) (i:=p) (λj hj=>(I.bb (m+j) (by rw[W.mm];omega)).1) hp
   have h2:=(I.bb (m+p) (by rw[W.mm];omega)).1
   try dsimp only at h1
   omega
  ·obtain⟨z1,z2⟩:=W.tl p hp
   unfold inc
   rw[z1,z2,if_pos rfl,if_neg (by omega)]
   omega
  ·have z1:=W.lo k hk
   have z2:=W.hi k hk
   unfold inc
   rw[if_neg (by omega),if_neg (by omega)]
   omega
 have cs:∀p,p<N.n->sm m (λk=>s.fl k*inc N p k)=0:=λp hp=>by
  have c:=I.cs p
  rw[W.mm,nE,bN (k:=N.n) (g:=λ_=>0) λq hq=>?_,kl] at c
  ·omega
  ·rw[h0 q hq,Int.zero_mul]
 have pot:∀π:Nat->Int,sm m (λk=>s.fl k*(π (N.hi k)-π (N.lo k)))=0:=λπ=>by
  rw[bN (g:=λk=>sm N.n (λp=>π p*(s.fl k*inc N p k))) λk hk=>?_,uO,bN (g:=λ_=>0) λp hp=>?_,kl]
  ·rw[tL,cs p hp,U8]
  ·rw[<-xT (π:=π) (W.hi k hk) (W.lo k hk),<-tL]
   refine bN λp _=>?_
   unfold inc
   rw[<-Int.mul_assoc,<-Int.mul_assoc,Int.mul_comm (π p)]
 have bb:=λk hk=>I.bb k (hm k hk)
 have wr:∀k,k<m->(0<lack N s.tm k->s.fl k=N.bd k)/\(lack N s.tm k<0->s.fl k=0):=λk hk=>by
  have h1:=h k hk
  have h2:=bb k hk
  refine⟨λz=>?_,λz=>?_⟩
  ·rcases Int.lt_or_eq_of_le h2.2 with w | w
   ·exact absurd ⟨hm k hk,.inl ⟨z,w⟩⟩ h1
   ·exact w
  ·rcases Int.lt_or_eq_of_le h2.1 with w | w
   ·exact absurd ⟨hm k hk,.inr ⟨z,w⟩⟩ h1
   ·exact w.symm
 have mk:∀k,k<m->must k=true->lack N s.tm k<=0:=λk hk hmu=>by
  apply Int.not_lt.mp
  intro hl
  have hfl:=(wr k hk).1 hl
  rw[W.mb k hk hmu] at hfl
  have hk1:=W.kp k hk hmu
  obtain⟨d,hd⟩:∃d:Nat->Int,d=λp=>s.tm p-T p:=⟨_,rfl⟩
  have hdd:∀p,d p=s.tm p-T p:=λp=>by rw[hd]
  have hc:=pot (λp=>if d (N.lo k)<=d p then 1 else 0)
  have hle:sm m (λj=>s.fl j*((if d (N.lo k)<=d (N.hi j) then 1 else 0)-(if d (N.lo k)<=d (N.lo j) then 1 else 0)))<=sm m (λj=>(if must j=true then 0 else N.bd j)+(if k=j then -(tt+1) else 0)):=by
   refine rT λj hj=>?_
   have hbj:=bb j hj
   by_cases e:k=j
   ·subst e
    rw[if_pos (T7 _),if_pos hmu,if_pos rfl,hfl]
    have:¬d (N.lo k)<=d (N.hi k):=by
     rw[hdd,hdd]
     unfold lack at hl
     omega
    rw[if_neg this]
    omega
   ·rw[if_neg e]
    by_cases hmj:must j=true
    ·rw[if_pos hmj]
     have hj1:=W.kp j hj hmj
     have hj2:=(wr j hj).2
     by_cases q1:d (N.lo k)<=d (N.hi j)
     ·rw[if_pos q1]
      by_cases q2:d (N.lo k)<=d (N.lo j)
      ·rw[if_pos q2];omega
      ·rw[if_neg q2]
       have:s.fl j=0:=hj2 (by
        rw[hdd,hdd] at q1 q2
        unfold lack
        omega)
       rw[this]
       omega
     ·rw[if_neg q1]
      split<;>omega
    ·rw[if_neg hmj]
     split<;>split<;>omega
  rw[hc,qt,W.ts,mU hk] at hle
  omega
 refine⟨λk hk=>⟨(bb k hk).1,λ_=>(bb k hk).2⟩,cs,mk,?_⟩
 have hz:=pot s.tm
 have:sm m (λk=>s.fl k*N.ln k)=sm m (λk=>s.fl k*lack N s.tm k)+sm m (λk=>s.fl k*(s.tm (N.hi k)-s.tm (N.lo k))):=by
  rw[<-qt]
  refine bN λk _=>?_
  rw[<-Int.mul_add]
  congr 1
  unfold lack
  omega
 rw[this,hz,Int.add_zero]
 refine bN λk hk=>?_
 obtain⟨w1,w2⟩:=wr k hk
 by_cases hmk:must k=true
 ·rw[if_pos hmk]
  have:=mk k hk hmk
  rcases Int.lt_or_eq_of_le this with z | z
  ·rw[w2 z,Int.zero_mul]
  ·rw[z,U8]
 ·rw[if_neg hmk]
  rcases Int.lt_trichotomy (lack N s.tm k) 0 with z | z | z
  ·rw[w2 z,Int.zero_mul,Int.max_eq_left (by omega),U8]
  ·rw[z,U8,Int.max_eq_left (by omega),U8]
  ·rw[w1 z,Int.max_eq_right (by omega)]
end
section
variable{n:Nat}{ov dp:Nat->Nat}{un:Nat->List Nat}
theorem Tree.root(T:Tree n ov dp)(hx:x<=n)(h:dp x<=i):upN ov i x=n:=by
 obtain⟨h1,h2⟩:=T.up (dp x) hx (υ _)
 have hr:∀j,upN ov j n=n:=λj=>by
  induction j with
  | zero=>rfl
  | succ j ih=>rw[d5,ih,T.o]
 have hy:upN ov (dp x) x=n:=by
  rcases Y6 (upN ov (dp x) x) n with z | z
  ·have:=(T.d _ z).2;omega
  ·omega
 rw[show i=dp x+(i-dp x) by omega,li,hy,hr]
theorem Tree.sub_dep(T:Tree n ov dp)(hx:x<=n)(hc:c<n)(h:upN ov i x=c):dp c+i=dp x:=by
 rcases Y6 i (dp x) with z | z
 ·have:=(T.up i hx (by omega)).2
  rw[h] at this
  exact this
 ·rw[T.root hx z] at h;omega
theorem Tree.sub_disj(T:Tree n ov dp){x c d:Nat}(hx:x<=n)(hc:c<n)(hd:d<n)(e:dp c=dp d)(h1:sub ov c x)(h2:sub ov d x):c=d:=by
 obtain⟨i,h1⟩:=h1
 obtain⟨j,h2⟩:=h2
 have a:=T.sub_dep hx hc h1
 have b:=T.sub_dep hx hd h2
 have:i=j:=by omega
 subst this
 exact h1.symm.trans h2
theorem Tree.sub_iff(T:Tree n ov dp)(U:Und n ov un)(hp:p<n)(hx:x<=n):sub ov p x↔x=p\/∃c∈un p,sub ov c x:=by
 constructor
 ·rintro⟨i,h⟩
  cases i with
  | zero=>exact .inl h
  | succ i =>
   rw[d5] at h
   have hle:=(T.ups i hx).1
   have hlt:upN ov i x<n:=by
    rcases Y6 (upN ov i x) n with z | z
    ·exact z
    ·rw[show upN ov i x=n by omega,T.o] at h;omega
   exact .inr ⟨_,((U p (by omega)).2 _).mpr ⟨hlt,h⟩,i,rfl⟩
 ·rintro(rfl | ⟨c,hc,i,h⟩)
  ·exact⟨0,rfl⟩
  ·exact⟨i+1,by rw[d5,h];exact(((U p (by omega)).2 c).mp hc).2⟩
end
section
theorem Rv.down:∀{j p q r:Nat} {t:Tr},Rv N j p q r t->∀y∈ay t.ov j p,∃i,upN (fI j p q r t).ov i y=q
 | 0,_,_,_,_,_,y,hy=>by cases hy
 | j+1,p,q,r,t,R,y,hy=>by
  have hw:ay (put t.ov p q) j (t.ov p)=ay t.ov j (t.ov p):=fX R.not_in
  have hp:(fI (j+1) p q r t).ov p=q:=(R.next.out p (by show p∉ay (put t.ov p q) j (t.ov p);rw[hw];exact R.not_in)).1.trans bj
  rcases Γ.mp hy with rfl | hy
  ·exact⟨1,hp⟩
  ·obtain⟨i,hi⟩:=R.next.down y (by show y∈ay (put t.ov p q) j (t.ov p);rw[hw];exact hy)
   refine⟨i+1,?_⟩
   rw[d5]
   show(fI (j+1) p q r t).ov (upN (fI j (t.ov p) p (t.hk p) (t.re p q r)).ov i y)=q
   rw[hi]
   exact hp
theorem Hg.dep{k i p q:Nat}{fl:Nat->Int}(I:Inv N s)(h:Hg N s k i p q fl){d:Nat->Nat}(T:Tree N.n (fI (i+1) p q k s.t).ov d):∀(m x:Nat),s.dp x=m->x<=N.n->¬sub (fI (i+1) p q k s.t).ov p x->s.dp x=d x:=by
 have R:=h.rv I
 have hw:ay (put s.t.ov p q) i (s.t.ov p)=ay s.t.ov i (s.t.ov p):=fX R.not_in
 have hdn:∀y∈ay s.t.ov (i+1) p,sub (fI (i+1) p q k s.t).ov p y:=λy hy=>by
  rcases Γ.mp hy with rfl | hy
  ·exact⟨0,rfl⟩
  ·exact R.next.down y (by show y∈ay (put s.t.ov p q) i (s.t.ov p);rw[hw];exact hy)
 intro m
 induction m with
 | zero =>
  intro x hm hx _
  have:x=N.n:=by
   rcases Y6 x N.n with z | z
   ·have:=(I.tr.d x z).2;omega
   ·omega
  rw[this,T.r,I.tr.r]
 | succ m ih =>
  intro x hm hx hs
  have hxn:=I.tr.pos hx (by omega)
  obtain⟨o1,o2⟩:=I.tr.d x hxn
  have ho:=(R.out x λz=>hs (hdn x z)).1
  have e:=ih (s.t.ov x) (by omega) o1 λ⟨j,z⟩=>hs ⟨j+1,by rw[upN,ho];exact z⟩
  have:=(T.d x hxn).2
  rw[ho] at this
  omega
end
end TR
namespace SL
section
variable{f fo fi fe:aw->Sto->R (Val×Sto)}{fa:aw->Sto->R (List Val×Sto)}{fc:aw->Sto->R (Bool×Sto)}{g:SG}{δ δ':aw}{μ μ' μ1 μ2 μ3:Sto}{v:Val}{n:Nat}
theorem aZ{k:Nat}{x:D}:lvN k μ (.d x)=some x:=by cases k<;>rfl
theorem ak{i:Nat}{x:Val}{d:D}(h:δ[i]?=some (some x))(h2:lvN 4 μ x=some d):ac i (viewN 4 μ δ)=M.ret d:=by
 refine aa ?_
 unfold viewN
 rw[Λ,h]
 show some (match lvN 4 μ x with | some d=>Sl.vl d | none=>.un)=_
 rw[h2]
theorem uP{i:Nat}{x:Val}{d:D}(h:δ[i]?=some (some x))(h2:lvN 4 μ x=some d):DL.jL (viewN 4 μ δ) i=.vl d:=by
 unfold DL.jL viewN
 rw[Λ,h]
 have h3:v1N 4 μ (some x)=.vl d:=by
  show(match lvN 4 μ x with | some d=>Sl.vl d | none=>.un)=_
  rw[h2]
 rw[Option.map_some,h3]
theorem b8{f:DS->M D}{d:D}(h:f (viewN 4 μ δ)=M.ret d)(hf:bL d=true):bC f δ μ=R.ret (.d d,μ):=by
 unfold bC;rw[h];show(if bL d=true then _ else _)=_;rw[if_pos hf]
theorem j8(h:fb (viewN 4 μ δ)=M.ret b):jg fb δ μ=R.ret (b,μ):=by unfold jg;rw[h];rfl
theorem gK{fn:DS->M (List D)}{ds:List D}(h:fn (viewN 4 μ δ)=M.ret ds)(hf:aN ds=true):gX fn δ μ=R.ret (.h μ.length,μ++[.lst (ds.map Val.d)]):=by
 unfold gX;rw[h];show(if aN ds=true then _ else _)=_;rw[if_pos hf]
theorem j9{f:DS->M D}{ds:List D}(h:f (viewN 4 μ δ)=M.ret (.list ds))(hf:aN ds=true):iN f δ μ=R.ret (.h μ.length,μ++[.lst (ds.map Val.d)]):=by
 unfold iN;rw[h];show(if aN ds=true then _ else _)=_;rw[if_pos hf]
theorem es_at(h1:fo δ μ=R.ret (.h k,μ1))(h2:μ1[k]?=some (.ins c fs))(h3:fs.lookup x=some v):sAt c x fo δ μ=R.ret (v,μ1):=by
 unfold sAt
 rw[h1,aV]
 dsimp only
 rw[h2]
 dsimp only
 rw[if_pos rfl,h3]
theorem dw(h1:fe δ μ=R.ret (v,μ1))(h2:fo δ μ1=R.ret (.h k,μ2))(h3:μ2[k]?=some (.ins c fs))(h4:fs.length<1000):ez c x fo fe n δ μ=R.ret (.nx δ (μ2.set k (.ins c (gv x v fs)))):=by
 unfold ez
 rw[h1,aV]
 dsimp only
 rw[h2,aV]
 dsimp only
 rw[h3]
 dsimp only
 rw[if_pos ⟨rfl,h4⟩]
theorem mq{k:Nat}{c m:Str}{F:List Val->Sto->R (Val×Sto)}{fs:List (Str×Val)}{xs:List Val}(h1:fo δ μ=R.ret (.h k,μ1))(h2:μ1[k]?=some (.ins c fs))(h3:fs.lookup m=none)(h4:fa δ μ1=R.ret (xs,μ2))(h5:F (.h k::xs) μ2=R.ret (v,μ3)):lj c m F fo fa δ μ=R.ret (v,μ3):=by
 unfold lj
 rw[h1,aV]
 dsimp only
 rw[h2]
 dsimp only
 rw[if_pos ⟨rfl,h3⟩,h4,aV]
 dsimp only
 rw[h5]
 rfl
theorem es_mk(h1:fa δ μ=R.ret (xs,μ1))(h2:F (.h μ1.length::xs) (μ1++[.ins c []])=R.ret (.d .none,μ2)):sMk c F fa δ μ=R.ret (.h μ1.length,μ2):=by
 unfold sMk
 rw[h1,aV]
 dsimp only
 rw[h2]
 rfl
theorem es_rem{k:Nat}{m:Int}{is:List Int}{ys:List Val}(h1:fo δ μ=R.ret (.h k,μ1))(h2:μ1[k]?=some (.lst ys))(h3:f δ μ1=R.ret (.d (.int m),μ2))(h4:μ2[k]?=some (.lst (is.map λi=>Val.d (.int i))))(h5:m∈is):v5 fo f δ μ=R.ret (.d .none,μ2.set k (.lst ((is.eraseIdx (is.idxOf m)).map λi=>Val.d (.int i)))):=by
 unfold v5
 rw[h1,aV]
 dsimp only
 rw[h2]
 dsimp only
 rw[h3,aV]
 dsimp only
 rw[h4]
 dsimp only
 rw[pR]
 dsimp only
 rw[if_pos h5]
theorem es_pop(h1:fo δ μ=R.ret (.h k,μ1))(h2:μ1[k]?=some (.lst xs))(h3:xs[xs.length-1]?=some v):v6 fo δ μ=R.ret (v,μ1.set k (.lst xs.dropLast)):=by
 unfold v6
 rw[h1,aV]
 dsimp only
 rw[h2]
 dsimp only
 rw[h3]
theorem es_ext(h1:fo δ μ=R.ret (.h k,μ1))(h2:μ1[k]?=some (.lst ys))(h3:f δ μ1=R.ret (.h j,μ2))(h4:μ2[k]?=some (.lst xs))(h5:μ2[j]?=some (.lst zs))(h6:aL (xs.length+zs.length)=true):xI fo f δ μ=R.ret (.d .none,μ2.set k (.lst (xs++zs))):=by
 unfold xI
 rw[h1,aV]
 dsimp only
 rw[h2]
 dsimp only
 rw[h3,aV]
 dsimp only
 rw[h4,h5]
 dsimp only
 rw[if_pos h6]
theorem es_cat(h1:fo δ μ=R.ret (.h k,μ1))(h3:f δ μ1=R.ret (.h j,μ2))(h4:μ2[k]?=some (.lst xs))(h5:μ2[j]?=some (.lst zs))(h6:aL (xs.length+zs.length)=true):sCat fo f δ μ=R.ret (.h μ2.length,μ2++[.lst (xs++zs)]):=by
 unfold sCat
 rw[h1,aV]
 dsimp only
 rw[h3,aV]
 dsimp only
 rw[h4,h5]
 dsimp only
 rw[if_pos h6]
theorem vN(h1:fo δ μ=R.ret (.h k,μ1))(h2:fi δ μ1=R.ret (.d (.int i),μ2))(h3:μ2[k]?=some (.lst xs))(h4:L2.atI xs i=some (.d (.int x)))(h5:f δ μ2=R.ret (.d (.int m),μ3))(h6:μ3[k]?=some (.lst ys))(h7:ixN ys.length i=some j):nK h fo fi f n δ μ=R.ret (.nx δ (μ3.set k (.lst (ys.set j (.d (.int (h x m))))))):=by
 unfold nK
 rw[h1,aV]
 dsimp only
 rw[h2,aV]
 dsimp only
 rw[h3]
 dsimp only
 rw[h4]
 dsimp only
 rw[h5,aV]
 dsimp only
 rw[h6]
 dsimp only
 rw[h7]
theorem lG{k:Nat}{xs:List Val}(h:g μ.length (jf k xs) μ=R.ret (.nx δ μ')):kY k g xs μ=R.ret (.d .none,μ'):=by unfold kY;rw[h];rfl
theorem es_whf(h:fc δ μ=R.ret (false,μ1)):dZ fc g n δ μ=R.ret (.nx δ μ1):=by
 refine mt (n:=1) ?_
 unfold dX
 rw[h]
 rfl
theorem es_wht(h1:fc δ μ=R.ret (true,μ1))(h2:g n δ μ1=R.ret (.nx δ' μ'))(h3:dZ fc g n δ' μ'=R.ret r):dZ fc g n δ μ=R.ret r:=by
 obtain⟨k,hk⟩:=nH (show dZ fc g n δ' μ'=some (.ok r) from h3)
 refine mt (n:=k+1) ?_
 unfold dX
 rw[h1,aV]
 dsimp only
 rw[if_pos rfl,h2,aV]
 exact hk
theorem es_retN{f:DS->M D}{d:D}(h:f (viewN 4 μ δ)=M.ret d):pC f 0 δ μ=R.ret (.rt (.d d) []):=by unfold pC;rw[if_pos rfl,h];rfl
theorem vM{fa:DS->M (List D)}{t:D->aw->Option aw}{xs ds:List D}{r:R OutS}(h1:fa (viewN 4 μ δ)=M.ret xs)(h2:gY xs=some ds)(h3:iT t (g n) ds δ μ=r):rY fa t g n δ μ=r:=by
 unfold rY
 rw[h1]
 show(match gY xs with | some ds=>iT t (g n) ds δ μ | none=>none)=r
 rw[h2]
 exact h3
end
end SL
namespace CT
noncomputable def rg(L:Nat)(f:Nat->D):List D:=(Z3 L).map f
theorem tQ(L:Nat)(f:Nat->D):(rg L f).length=L:=by unfold rg;rw[θ,Z9]
theorem tR(h:k<L):(rg L f)[k]?=some (f k):=by
 unfold rg
 rw[Λ,W0 h]
 rfl
theorem vv{ds:List D}{k:Nat}{d:D}(h:ds[k]?=some d):oIx (.list ds) (.int (k:Int))=some d:=by
 have hk:k<ds.length:=(ς.mp h).1
 show L2.atI ds (k:Int)=some d
 unfold L2.atI
 rw[show L2.ixN ds.length (k:Int)=some k by unfold L2.ixN;simp;omega]
 exact h
theorem dU{L:Nat}{f:Nat->D}{k:Nat}(h:k<L):oIx (.list (rg L f)) (.int (k:Int))=some (f k):=vv (tR h)
theorem rg_set:(rg L f).set k d=rg L (TR.put f k d):=by
 refine S5 λi=>?_
 rw[V5]
 unfold rg
 rw[Λ,Λ,θ,Z9]
 by_cases e:k=i
 ·subst e
  rw[if_pos rfl]
  by_cases hk:k<L
  ·rw[if_pos hk,W0 hk]
   show some d=some (TR.put f k d k)
   rw[TR.bj]
  ·rw[if_neg hk,Y9 (by rw[Z9];omega)]
   rfl
 ·rw[if_neg e]
  cases h:(Z3 L)[i]? with
  | none=>rfl
  | some j =>
   have hj:j=i:=by
    have hlt:=(ς.mp h).1
    rw[Z9] at hlt
    rw[W0 hlt] at h
    cases h
    rfl
   subst hj
   show some (f j)=some (TR.put f k d j)
   rw[TR.bD (λz=>e z.symm)]
theorem jP(h:∀k,k<L->f k=g k):rg L f=rg L g:=by
 unfold rg
 exact V8 λk hk=>h k (List.mem_range.mp hk)
structure Tn where
 n:Nat
 m:Nat
 rs:List Rl
 bd:Nat->Int
noncomputable def Tn.r(E:Tn)(k:Nat):Rl:=E.rs.getD k r0
noncomputable def Tn.net(E:Tn):TR.Net:=⟨E.n,E.rs.length,λk=>(E.r k).lo,λk=>(E.r k).hi,λk=>(E.r k).le,E.bd⟩
theorem sG{E:Tn}{k:Nat}(h:k<E.rs.length):oIx (.list (E.rs.map rl)) (.int (k:Int))=some (rl (E.r k)):=by
 refine vv ?_
 rw[Λ,ψ h]
 unfold Tn.r
 rw[Δ,ψ h]
 rfl
noncomputable def ovD(n x p:Nat):D:=if p<n then .int (x:Int) else .none
noncomputable def nz(a b c d e f g h i j:D):D:=jm "Tree" [("many",a),("rules",b),("bounds",c),("flow",d),("times",e),("over",f),("under",g),("hooks",h),("depths",i),("begin",j)]
section
variable(a b c d e f g h i j:D)
theorem fl_many:aY "Tree" "many" (nz a b c d e f g h i j)=some a:=by kernel_rfl
theorem fl_rules:aY "Tree" "rules" (nz a b c d e f g h i j)=some b:=by kernel_rfl
theorem wO:aY "Tree" "bounds" (nz a b c d e f g h i j)=some c:=by kernel_rfl
theorem fl_flow:aY "Tree" "flow" (nz a b c d e f g h i j)=some d:=by kernel_rfl
theorem fl_times:aY "Tree" "times" (nz a b c d e f g h i j)=some e:=by kernel_rfl
theorem fl_over:aY "Tree" "over" (nz a b c d e f g h i j)=some f:=by kernel_rfl
theorem fl_hooks:aY "Tree" "hooks" (nz a b c d e f g h i j)=some h:=by kernel_rfl
theorem wN:aY "Tree" "depths" (nz a b c d e f g h i j)=some i:=by kernel_rfl
theorem fl_begin:aY "Tree" "begin" (nz a b c d e f g h i j)=some j:=by kernel_rfl
noncomputable def tats:List D:=[.tuple [.str "many",a],.tuple [.str "rules",b],.tuple [.str "bounds",c],.tuple [.str "flow",d],.tuple [.str "times",e],.tuple [.str "over",f],.tuple [.str "under",g],.tuple [.str "hooks",h],.tuple [.str "depths",i],.tuple [.str "begin",j]]
theorem at_t:kW "Tree" (nz a b c d e f g h i j)=some (tats a b c d e f g h i j):=by kernel_rfl
end
def noF(m:Str):Prop:=∀a b c d e f g h i j:D,iZ m (tats a b c d e f g h i j)=true
theorem m5:noF "lack_of" := λ_ _ _ _ _ _ _ _ _ _=>by kernel_rfl
theorem nf_wrong:noF "is_wrong" := λ_ _ _ _ _ _ _ _ _ _=>by kernel_rfl
theorem nf_worst:noF "worst_rule" := λ_ _ _ _ _ _ _ _ _ _=>by kernel_rfl
theorem t9:noF "meeting" := λ_ _ _ _ _ _ _ _ _ _=>by kernel_rfl
theorem t8:noF "way" := λ_ _ _ _ _ _ _ _ _ _=>by kernel_rfl
theorem nf_down:noF "step_down" := λ_ _ _ _ _ _ _ _ _ _=>by kernel_rfl
theorem nf_up:noF "step_up" := λ_ _ _ _ _ _ _ _ _ _=>by kernel_rfl
theorem kq:noF "room" := λ_ _ _ _ _ _ _ _ _ _=>by kernel_rfl
theorem wB:noF "timing" := λ_ _ _ _ _ _ _ _ _ _=>by kernel_rfl
theorem nf_fr:noF "flow_of_rules" := λ_ _ _ _ _ _ _ _ _ _=>by kernel_rfl
structure Tf(E:Tn)(s:TR.St)(X:D):Prop where
 many:aY "Tree" "many" X=some (.int (E.m:Int))
 rules:aY "Tree" "rules" X=some (.list (E.rs.map rl))
 bounds:aY "Tree" "bounds" X=some (.list (rg E.rs.length λk=>.int (E.bd k)))
 flow:aY "Tree" "flow" X=some (.list (rg E.rs.length λk=>.int (s.fl k)))
 times:aY "Tree" "times" X=some (.list (rg (E.n+1) λp=>.int (s.tm p)))
 over:aY "Tree" "over" X=some (.list (rg (E.n+1) λp=>ovD E.n (s.t.ov p) p))
 hooks:aY "Tree" "hooks" X=some (.list (rg (E.n+1) λp=>ovD E.n (s.t.hk p) p))
 depths:aY "Tree" "depths" X=some (.list (rg (E.n+1) λp=>.int (s.dp p:Int)))
 begin_:aY "Tree" "begin" X=some (.int 0)
 me:∃r,kW "Tree" X=some r/\∀m,noF m->iZ m r=true
section
variable{E:Tn}{s:TR.St}{X:D}
theorem cL(T:Tf E s X){m:Str}(hm:noF m){F:List D->M D}{fo:DS->M D}{fa:DS->M (List D)}{δ:DS}{d:D}{ds:List D}(h1:fo δ=M.ret X)(h4:fa δ=M.ret ds)(h5:F (X::ds)=M.ret d):dMe "Tree" m (λds=>noX (F ds)) fo fa δ=M.ret d:=by
 obtain⟨r,h2,h3⟩:=T.me
 exact ev_me h1 h2 (h3 m hm) h4 h5
def Pin(E:Tn):Prop:=∀k,k<E.rs.length->(E.r k).lo<=E.n/\(E.r k).hi<=E.n
theorem qK(T:Tf E s X)(hP:Pin E){k:Nat}(hk:k<E.rs.length):cp [X,.int (k:Int)]=M.ret (.int (TR.lack E.net s.tm k)):=by
 obtain⟨h1,h2⟩:=hP k hk
 refine aE ?_
 unfold il
 refine aA (bi (ag (cm (aa rfl) T.rules) (aa rfl) (sG hk))) ?_
 exact aO (ag (ag (ag (aa rfl) aj (k8 _)) (ag (cm (aa rfl) T.times) (ag (aa rfl) aj (eN _)) (dU (by omega))) gA) (ag (cm (aa rfl) T.times) (ag (aa rfl) aj (fQ _)) (dU (by omega))) cu)
theorem xh(T:Tf E s X){k:Nat}(hk:k<E.rs.length)(l:Int):dh [X,.int (k:Int),.int l]=M.ret (.bool (if 0<l then decide (s.fl k<E.bd k) else decide (0<s.fl k))):=by
 refine aE ?_
 unfold gy
 refine aO (kR (aC (ag (aa rfl) aj mP)) ?_)
 by_cases h:0<l
 ·rw[if_pos h]
  exact pQ h (ag (ag (cm (aa rfl) T.flow) (aa rfl) (dU hk)) (ag (cm (aa rfl) T.bounds) (aa rfl) (dU hk)) nZ)
 ·rw[if_neg h]
  exact ox h (ag (ag (cm (aa rfl) T.flow) (aa rfl) (dU hk)) aj mP)
theorem o_absI(i:Int):t7 [.int i]=some (.int (TR.ab i)):=by
 unfold TR.ab
 show some (ε _)=some (ε _)
 congr 2
 split<;>omega
theorem oB{x:Nat}{p:Nat}(h:p<E.n):ovD E.n x p=.int (x:Int):=if_pos h
theorem sdn_ev(T:Tf E s X)(hq:q<E.n)(hk:s.t.hk q<E.rs.length):cU [X,.int (q:Int)]=M.ret (.tuple [.int (q:Int),.int (s.t.hk q:Int),.bool (decide ((E.r (s.t.hk q)).hi=q))]):=by
 have g:oIx (.list (rg (E.n+1) λp=>ovD E.n (s.t.hk p) p)) (.int (q:Int))=some (.int (s.t.hk q:Int)):=by rw[dU (by omega),oB hq]
 have e:(decide (((E.r (s.t.hk q)).hi:Int)=(q:Int)))=decide ((E.r (s.t.hk q)).hi=q):=decide_eq_decide.mpr (by omega)
 refine aE ?_
 unfold fR
 rw[<-e]
 exact aO (eV (ad (aa rfl) (ad (ag (cm (aa rfl) T.hooks) (aa rfl) g) (ad (ag (ag (ag (cm (aa rfl) T.rules) (ag (cm (aa rfl) T.hooks) (aa rfl) g) (sG hk)) aj (eN _)) (aa rfl) mQ) af))) rfl)
theorem sup_ev(T:Tf E s X)(hq:q<E.n)(hk:s.t.hk q<E.rs.length):dI [X,.int (q:Int)]=M.ret (.tuple [.int (q:Int),.int (s.t.hk q:Int),.bool (decide ((E.r (s.t.hk q)).lo=q))]):=by
 have g:oIx (.list (rg (E.n+1) λp=>ovD E.n (s.t.hk p) p)) (.int (q:Int))=some (.int (s.t.hk q:Int)):=by rw[dU (by omega),oB hq]
 have e:(decide (((E.r (s.t.hk q)).lo:Int)=(q:Int)))=decide ((E.r (s.t.hk q)).lo=q):=decide_eq_decide.mpr (by omega)
 refine aE ?_
 unfold ij
 rw[<-e]
 exact aO (eV (ad (aa rfl) (ad (ag (cm (aa rfl) T.hooks) (aa rfl) g) (ad (ag (ag (ag (cm (aa rfl) T.rules) (ag (cm (aa rfl) T.hooks) (aa rfl) g) (sG hk)) aj (fQ _)) (aa rfl) mQ) af))) rfl)
theorem uU(T:Tf E s X)(hk:k<E.rs.length)(x:D)(b:Bool):cF [X,.tuple [x,.int (k:Int),.bool b]]=M.ret (.int (if b=true then E.bd k-s.fl k else s.fl k)):=by
 refine aE ?_
 unfold jZ
 refine aA (bi (ag (aa rfl) aj (rfl:oIx (.tuple [x,.int (k:Int),.bool b]) (.int 1)=some (.int (k:Int))))) ?_
 refine aO (kR (aC (ag (aa rfl) aj (rfl:oIx (.tuple [x,.int (k:Int),.bool b]) (.int 2)=some (.bool b)))) ?_)
 cases b with
 | true=>exact b7 rfl (ag (ag (cm (aa rfl) T.bounds) (aa rfl) (dU hk)) (ag (cm (aa rfl) T.flow) (aa rfl) (dU hk)) gA)
 | false=>exact iF rfl (ag (cm (aa rfl) T.flow) (aa rfl) (dU hk))
theorem ua(T:Tf E s X)(Tr:TR.Tree E.n s.t.ov s.dp)(hm:TR.Meet s.t.ov s.dp p q t)(hp:p<=E.n)(hq:q<=E.n):fE [X,.int (p:Int),.int (q:Int)]=M.ret (.int (t:Int)):=by
 have key:du (dB (d2 oNe (ac 1) (ac 2))) cQ [.vl X,.vl (.int (p:Int)),.vl (.int (q:Int))]=M.ret (.nx [.vl X,.vl (.int (t:Int)),.vl (.int (t:Int))]):=by
  induction hm with
  | done p=>exact ld (aC (ag (aa rfl) (aa rfl) (by rw[jI,decide_eq_true rfl];rfl)))
  | @one p q t h hd m ih =>
   have hpn:p<E.n:=by
    rcases Y6 p E.n with z | z
    ·exact z
    ·have e:p=E.n:=by omega
     rw[e,Tr.r] at hd
     rcases Y6 q E.n with z | z
     ·have:=(Tr.d q z).2;omega
     ·omega
   refine ju (δ':=[.vl X,.vl (.int (s.t.ov p:Int)),.vl (.int (q:Int))]) (aC (ag (aa rfl) (aa rfl) (by rw[jI,decide_eq_false (by omega)];rfl))) ?_ (ih (Tr.d p hpn).1 hq)
   unfold cQ
   exact j6 (aC (ag (ag (cm (aa rfl) T.depths) (aa rfl) (dU (by omega))) (ag (cm (aa rfl) T.depths) (aa rfl) (dU (by omega))) o_ge)) (pQ (by omega) (bi (ag (cm (aa rfl) T.over) (aa rfl) (by rw[dU (by omega),oB hpn]))))
  | @two p q t h hd m ih =>
   have hqn:=Tr.pos hq (by omega)
   refine ju (δ':=[.vl X,.vl (.int (p:Int)),.vl (.int (s.t.ov q:Int))]) (aC (ag (aa rfl) (aa rfl) (by rw[jI,decide_eq_false (by omega)];rfl))) ?_ (ih hp (Tr.d q hqn).1)
   unfold cQ
   exact j6 (aC (ag (ag (cm (aa rfl) T.depths) (aa rfl) (dU (by omega))) (ag (cm (aa rfl) T.depths) (aa rfl) (dU (by omega))) o_ge)) (ox (by omega) (bi (ag (cm (aa rfl) T.over) (aa rfl) (by rw[dU (by omega),oB hqn]))))
 refine aE ?_
 unfold ik
 exact aA key (aO (aa rfl))
noncomputable def bm(L:List Nat):List D:=L.map λq:Nat=>ε (q:Int)
theorem jU(L:List Nat):aN (bm L)=true:=by
 induction L with
 | nil=>rfl
 | cons a L ih=>exact ih
theorem nv(T:Tf E s X)(Tr:TR.Tree E.n s.t.ov s.dp)(b:DS->M Out)(hb:b=gS):∀(k p:Nat) (acc:List D),p<=E.n->k<=s.dp p->acc.length+k<=1000->du (dB (d2 oNe (ac 1) (ac 2))) b [.vl X,.vl (.int (p:Int)),.vl (.int (TR.upN s.t.ov k p:Int)),.ow acc]=M.ret (.nx [.vl X,.vl (.int (TR.upN s.t.ov k p:Int)),.vl (.int (TR.upN s.t.ov k p:Int)),.ow (acc++bm (TR.ay s.t.ov k p))])
 | 0,p,acc,hp,hk,_=>by
  show _=M.ret (Out.nx [.vl X,.vl (.int (p:Int)),.vl (.int (p:Int)),.ow (acc++[])])
  rw[Z4]
  exact ld (aC (ag (aa rfl) (aa rfl) (by rw[jI];show some (W3 (!decide ((p:Int)=(p:Int))))=_;rw[decide_eq_true rfl];rfl)))
 | k+1,p,acc,hp,hk,hz=>by
  have hpn:=Tr.pos hp (by omega)
  obtain⟨h1,h2⟩:=Tr.d p hpn
  obtain⟨h3,h4⟩:=Tr.up (k+1) hp hk
  have ih:=nv T Tr b hb k (s.t.ov p) (acc++[ε (p:Int)]) h1 (by omega) (by rw[η];show acc.length+1+k<=1000;omega)
  rw[W2] at ih
  refine ju (δ':=[.vl X,.vl (.int (s.t.ov p:Int)),.vl (.int (TR.upN s.t.ov (k+1) p:Int)),.ow (acc++[ε (p:Int)])]) (aC (ag (aa rfl) (aa rfl) (by
   rw[jI,decide_eq_false (λz=>?_)]
   ·rfl
   ·have:p=TR.upN s.t.ov (k+1) p:=by omega
    rw[<-this] at h4
    omega))) ?_ ih
  rw[hb]
  unfold gS
  exact aA (iU rfl (aa rfl) (ax (by omega))) (bi (ag (cm (aa rfl) T.over) (aa rfl) (by rw[dU (by omega),oB hpn])))
theorem tG(T:Tf E s X)(Tr:TR.Tree E.n s.t.ov s.dp)(hp:p<=E.n)(hk:k<=s.dp p)(hn:E.n<=900)(ht:TR.upN s.t.ov k p=t):iz [X,.int (p:Int),.int (t:Int)]=M.ret (.list (bm (TR.ay s.t.ov k p))):=by
 have hd:=Tr.dp_le hp
 have h:=nv T Tr _ rfl k p [] hp hk (by show 0+k<=1000;omega)
 rw[ht] at h
 refine aE ?_
 unfold lc
 refine aA (f8 (bI af rfl)) (aA h ?_)
 rfl
theorem tF(T:Tf E s X)(Tr:TR.Tree E.n s.t.ov s.dp){k p t:Nat}(hp:p<=E.n)(hk:k<=s.dp p)(hn:E.n<=900)(ht:TR.upN s.t.ov k p=t):fC [X,.int (p:Int),.int (t:Int)]=M.ret (.list (bm (TR.ay s.t.ov k p))):=by
 have hd:=Tr.dp_le hp
 have h:=nv T Tr fV rfl k p [] hp hk (by show 0+k<=1000;omega)
 rw[ht] at h
 refine aE ?_
 unfold ig
 have seqN:∀{g h:DS->M Out} {δ δ':DS} {r:M Out},g δ=M.ret (.nx δ')->h δ'=r->pV g h δ=r:=λ{g h δ δ' r} h1 h2=>by unfold pV;rw[h1];exact h2
 refine seqN (f8 (bI af rfl)) (seqN h ?_)
 exact ev_retF rfl (jU _)
end
section
variable{E:Tn}{s:TR.St}{X:D}
theorem rng_at(e:b6 0 m=p++d::q):d=.int (p.length:Int)/\p.length<m:=by
 have h:(b6 0 m)[p.length]?=some d:=by rw[e];simp
 unfold b6 at h
 rw[Λ] at h
 have hl:p.length<m:=by
  have:=congrArg List.length e
  unfold b6 at this
  rw[θ,Z9,η,Φ] at this
  omega
 rw[W0 hl] at h
 simp only[Option.map_some,Int.zero_add] at h
 cases h
 exact⟨rfl,hl⟩
theorem xj(T:Tf E s X)(hP:Pin E)(hm:E.m<=E.rs.length)(hz:E.m<=1000):∃w:Option Nat,dq [X,.int 0,.int (E.m:Int)]=M.ret (zd w)/\(w=none->∀k,k<E.m->¬TR.Wr E.net s k)/\(∀k,w=some k->k<E.m/\TR.Wr E.net s k):=by
 let S:List D->DS->Prop:=λp δ=>∃(w:Option Nat) (mo:Int) (x5 x6:Sl),δ=[.vl X,.vl (.int 0),.vl (.int (E.m:Int)),.vl (zd w),.vl (.int mo),x5,x6]/\0<=mo/\(w=none->mo=0/\∀k,k<p.length->¬TR.Wr E.net s k)/\(∀k,w=some k->k<E.m/\TR.Wr E.net s k)
 have hloop:∃δ',im (cn (tgN 5) bo) (b6 0 E.m) [.vl X,.vl (.int 0),.vl (.int (E.m:Int)),.vl .none,.vl (.int 0),.un,.un]=M.ret (.nx δ')/\S (b6 0 E.m) δ':=by
  have main:∀(q p:List D) (δ:DS),b6 0 E.m=p++q->S p δ->∃δ',im (cn (tgN 5) bo) q δ=M.ret (.nx δ')/\S (b6 0 E.m) δ':=by
   intro q
   induction q with
   | nil =>
    intro p δ e h
    rw[Z4] at e
    exact⟨δ,rfl,e▸h⟩
   | cons d q ih =>
    rintro p δ e ⟨w,mo,x5,x6,rfl,h0,h1,h2⟩
    obtain⟨rfl,hp⟩:=rng_at e
    have hk:p.length<E.rs.length:=by omega
    obtain⟨l,hl⟩:∃l,l=TR.lack E.net s.tm p.length:=⟨_,rfl⟩
    have hlk:=qK T hP hk
    rw[<-hl] at hlk
    have hwr:=xh T hk l
    obtain⟨b,hb⟩:∃b:Bool,b=(if 0<l then decide (s.fl p.length<E.bd p.length) else decide (0<s.fl p.length)):=⟨_,rfl⟩
    rw[<-hb] at hwr
    have hW:TR.Wr E.net s p.length↔(l≠0/\b=true):=by
     unfold TR.Wr
     rw[<-hl,hb]
     show(p.length<E.rs.length/\((0<l/\s.fl p.length<E.bd p.length)\/(l<0/\0<s.fl p.length)))↔_
     by_cases z:0<l
     ·rw[if_pos z,decide_eq_true_eq];omega
     ·rw[if_neg z,decide_eq_true_eq];omega
    have hab:0<=TR.ab l/\(TR.ab l=0↔l=0):=by unfold TR.ab;split<;>omega
    have step:∃δ',cn (tgN 5) bo (.int (p.length:Int)) [.vl X,.vl (.int 0),.vl (.int (E.m:Int)),.vl (zd w),.vl (.int mo),x5,x6]=M.ret (.nx δ')/\S (p++[.int (p.length:Int)]) δ':=by
     have hc:jD (dB (d2 oGt (dCB t7 (ae (ac 6) ai)) (ac 4))) (dB (dMe "Tree" "is_wrong" (λds=>noX (dh ds)) (ac 0) (ae (ac 5) (ae (ac 6) ai)))) [.vl X,.vl (.int 0),.vl (.int (E.m:Int)),.vl (zd w),.vl (.int mo),.vl (.int (p.length:Int)),.vl (.int l)]=M.ret (decide (mo<TR.ab l)&&b) :=
      uo (aC (ag (bt (ad (aa rfl) af) (o_absI l)) (aa rfl) mP)) (aC (cL T nf_wrong (aa rfl) (ad (aa rfl) (ad (aa rfl) af)) hwr))
     by_cases hcc:(decide (mo<TR.ab l)&&b)=true
     ·rw[hcc] at hc
      rw[Z5,decide_eq_true_eq] at hcc
      have hl0:l≠0:=λz=>by
       have:=hab.2.mpr z
       omega
      refine⟨[.vl X,.vl (.int 0),.vl (.int (E.m:Int)),.vl (zd (some p.length)),.vl (.int (TR.ab l)),.vl (.int (p.length:Int)),.vl (.int l)],?_,some p.length,TR.ab l,_,_,rfl,hab.1,(λz=>nomatch z),(λk z=>by cases z;exact⟨hp,hW.mpr ⟨hl0,hcc.2⟩⟩)⟩
      refine cB (δ':=[.vl X,.vl (.int 0),.vl (.int (E.m:Int)),.vl (zd w),.vl (.int mo),.vl (.int (p.length:Int)),x6]) rfl ?_
      unfold bo
      refine aA (bi (cL T m5 (aa rfl) (ad (aa rfl) af) hlk)) ?_
      refine j6 hc (b7 rfl ?_)
      refine aA (bi (aa rfl)) ?_
      exact bi (bt (ad (aa rfl) af) (o_absI l))
     ·rw[Bool.eq_false_iff.mpr hcc] at hc
      refine⟨[.vl X,.vl (.int 0),.vl (.int (E.m:Int)),.vl (zd w),.vl (.int mo),.vl (.int (p.length:Int)),.vl (.int l)],?_,w,mo,_,_,rfl,h0,λz=>⟨(h1 z).1,λk hk2=>?_⟩,h2⟩
      ·refine cB (δ':=[.vl X,.vl (.int 0),.vl (.int (E.m:Int)),.vl (zd w),.vl (.int mo),.vl (.int (p.length:Int)),x6]) rfl ?_
       unfold bo
       refine aA (bi (cL T m5 (aa rfl) (ad (aa rfl) af) hlk)) ?_
       exact j6 hc (iF rfl rfl)
      ·rw[η] at hk2
       have hk2:k<p.length+1:=hk2
       by_cases e2:k=p.length
       ·subst e2
        intro w2
        obtain⟨w3,w4⟩:=hW.mp w2
        obtain⟨m0,_⟩:=h1 z
        apply hcc
        rw[Z5,decide_eq_true_eq]
        refine⟨?_,w4⟩
        have:TR.ab l≠0:=λy=>w3 (hab.2.mp y)
        omega
       ·exact(h1 z).2 k (by omega)
    obtain⟨δ',g1,g2⟩:=step
    obtain⟨δ2,g3,g4⟩:=ih (p++[.int (p.length:Int)]) δ' (by rw[e,W2];rfl) g2
    exact⟨δ2,bh g1 g3,g4⟩
  exact main (b6 0 E.m) [] _ rfl ⟨none,0,.un,.un,rfl,T7 _,λ_=>⟨rfl,λk hk=>absurd hk (X6 k)⟩,λk z=>by cases z⟩
 obtain⟨δ',g1,w,mo,x5,x6,rfl,h0,h1,h2⟩:=hloop
 refine⟨w,?_,λz k hk=>(h1 z).2 k (by unfold b6;rw[θ,Z9];exact hk),h2⟩
 refine aE ?_
 unfold eS
 refine aA (bi aj) (aA (bi aj) (aA (cY (ds:=b6 0 E.m) (jv (ad (aa rfl) (ad (aa rfl) af)) ?_) g1) ?_))
 ·show(if (b62 0&&b62 (E.m:Int))=true then some (b6 0 ((E.m:Int)-0).toNat) else none)=_
  rw[if_pos (by unfold b62;simp;omega),show((E.m:Int)-0).toNat=E.m by omega]
 ·exact aO (aa rfl)
end
end CT
namespace SL
section
theorem jz(h:f δ μ=R.ret (v,μ')):iX f n δ μ=R.ret (.nx δ μ'):=by
 unfold iX
 rw[h]
 rfl
theorem es_app(h1:fo δ μ=R.ret (.h k,μ1))(h2:μ1[k]?=some (.lst ys))(h3:f δ μ1=R.ret (v,μ'))(h4:μ'[k]?=some (.lst xs))(hs:aL (xs.length+1)=true):v9 fo f δ μ=R.ret (.d .none,μ'.set k (.lst (xs++[v]))):=by
 unfold v9
 rw[h1,aV]
 dsimp only
 rw[h2]
 dsimp only
 rw[h3,aV]
 dsimp only
 rw[h4]
 dsimp only
 rw[if_pos hs]
theorem es_ix(h1:fo δ μ=R.ret (.h k,μ1))(h2:fi δ μ1=R.ret (.d (.int i),μ'))(h3:μ'[k]?=some (.lst xs))(h4:L2.atI xs i=some v):sIx fo fi δ μ=R.ret (v,μ'):=by
 unfold sIx
 rw[h1,aV]
 dsimp only
 rw[h2,aV]
 dsimp only
 rw[h3]
 dsimp only
 rw[h4]
end
end SL
namespace CT
noncomputable def tfs(E:Tn):List (Str×Val):=[("many",.d (.int (E.m:Int))),("rules",.d (.list (E.rs.map rl))),("bounds",.h 1),("flow",.h 2),("times",.h 3),("over",.h 4),("under",.h (8+E.n)),("hooks",.h (9+E.n)),("depths",.h (10+E.n)),("begin",.d (.int 0))]
abbrev vls(ds:List D):Ob:=.lst (ds.map Val.d)
structure Rp(E:Tn)(s:TR.St)(μ:Sto):Prop where
 h0:μ[0]?=some (.ins "Tree" (tfs E))
 h1:μ[1]?=some (vls (rg E.rs.length λk=>.int (E.bd k)))
 h2:μ[2]?=some (vls (rg E.rs.length λk=>.int (s.fl k)))
 h3:μ[3]?=some (vls (rg (E.n+1) λp=>.int (s.tm p)))
 h4:μ[4]?=some (vls (rg (E.n+1) λp=>ovD E.n (s.t.ov p) p))
 hu:μ[8+E.n]?=some (.lst ((Z3 (E.n+1)).map λp=>Val.h (6+p)))
 hc:∀p,p<=E.n->μ[6+p]?=some (vls (bm (s.t.un p)))
 hh:μ[9+E.n]?=some (vls (rg (E.n+1) λp=>ovD E.n (s.t.hk p) p))
 hd:μ[10+E.n]?=some (vls (rg (E.n+1) λp=>.int (s.dp p:Int)))
section
variable{E:Tn}{s s':TR.St}{μ μ':Sto}
theorem Rp.len(P:Rp E s μ):11+E.n<=μ.length:=by
 have:=(ς.mp P.hd).1
 omega
theorem Rp.keep(P:Rp E s μ)(h:∀i,i<11+E.n->μ'[i]?=μ[i]?):Rp E s μ' :=
 ⟨(h _ (by omega)).trans P.h0,(h _ (by omega)).trans P.h1,(h _ (by omega)).trans P.h2,(h _ (by omega)).trans P.h3,(h _ (by omega)).trans P.h4,(h _ (by omega)).trans P.hu,λp hp=>(h _ (by omega)).trans (P.hc p hp),(h _ (by omega)).trans P.hh,(h _ (by omega)).trans P.hd⟩
theorem Rp.app(P:Rp E s μ)(L:Sto):Rp E s (μ++L):=P.keep λi hi=>ξ (by have:=P.len;omega)
theorem Rp.setO(P:Rp E s μ)(hi:11+E.n<=i):Rp E s (μ.set i x):=P.keep λj hj=>by rw[V5,if_neg (by omega)]
theorem cw{i:Nat}{x:Ob}(h:i<μ.length):(μ.set i x)[i]?=some x:=by rw[V5,if_pos rfl,if_pos h]
theorem av{i j:Nat}{x:Ob}(h:i≠j):(μ.set i x)[j]?=μ[j]?:=by rw[V5,if_neg h]
theorem Rp.fl(P:Rp E s μ)(f:Nat->Int):Rp E { s with fl:=f } (μ.set 2 (vls (rg E.rs.length λk=>.int (f k)))):=by
 have hl:=P.len
 exact⟨(av (by omega)).trans P.h0,(av (by omega)).trans P.h1,cw (by omega),(av (by omega)).trans P.h3,(av (by omega)).trans P.h4,(av (by omega)).trans P.hu,λp hp=>(av (by omega)).trans (P.hc p hp),(av (by omega)).trans P.hh,(av (by omega)).trans P.hd⟩
theorem Rp.tm(P:Rp E s μ)(f:Nat->Int):Rp E { s with tm:=f } (μ.set 3 (vls (rg (E.n+1) λp=>.int (f p)))):=by
 have hl:=P.len
 exact⟨(av (by omega)).trans P.h0,(av (by omega)).trans P.h1,(av (by omega)).trans P.h2,cw (by omega),(av (by omega)).trans P.h4,(av (by omega)).trans P.hu,λp hp=>(av (by omega)).trans (P.hc p hp),(av (by omega)).trans P.hh,(av (by omega)).trans P.hd⟩
theorem Rp.ov(P:Rp E s μ)(f:Nat->Nat):Rp E { s with t:={ s.t with ov:=f } } (μ.set 4 (vls (rg (E.n+1) λp=>ovD E.n (f p) p))):=by
 have hl:=P.len
 exact⟨(av (by omega)).trans P.h0,(av (by omega)).trans P.h1,(av (by omega)).trans P.h2,(av (by omega)).trans P.h3,cw (by omega),(av (by omega)).trans P.hu,λp hp=>(av (by omega)).trans (P.hc p hp),(av (by omega)).trans P.hh,(av (by omega)).trans P.hd⟩
theorem Rp.hk(P:Rp E s μ)(f:Nat->Nat):Rp E { s with t:={ s.t with hk:=f } } (μ.set (9+E.n) (vls (rg (E.n+1) λp=>ovD E.n (f p) p))):=by
 have hl:=P.len
 exact⟨(av (by omega)).trans P.h0,(av (by omega)).trans P.h1,(av (by omega)).trans P.h2,(av (by omega)).trans P.h3,(av (by omega)).trans P.h4,(av (by omega)).trans P.hu,λp hp=>(av (by omega)).trans (P.hc p hp),cw (by omega),(av (by omega)).trans P.hd⟩
theorem Rp.dp(P:Rp E s μ)(f:Nat->Nat):Rp E { s with dp:=f } (μ.set (10+E.n) (vls (rg (E.n+1) λp=>.int (f p:Int)))):=by
 have hl:=P.len
 exact⟨(av (by omega)).trans P.h0,(av (by omega)).trans P.h1,(av (by omega)).trans P.h2,(av (by omega)).trans P.h3,(av (by omega)).trans P.h4,(av (by omega)).trans P.hu,λp hp=>(av (by omega)).trans (P.hc p hp),(av (by omega)).trans P.hh,cw (by omega)⟩
theorem Rp.un(P:Rp E s μ){q:Nat}(hq:q<=E.n)(L:List Nat):Rp E { s with t:={ s.t with un:=TR.put s.t.un q L } } (μ.set (6+q) (vls (bm L))):=by
 have hl:=P.len
 refine⟨(av (by omega)).trans P.h0,(av (by omega)).trans P.h1,(av (by omega)).trans P.h2,(av (by omega)).trans P.h3,(av (by omega)).trans P.h4,(av (by omega)).trans P.hu,λp hp=>?_,(av (by omega)).trans P.hh,(av (by omega)).trans P.hd⟩
 show _=some (vls (bm (TR.put s.t.un q L p)))
 by_cases e:p=q
 ·subst e
  rw[TR.bj]
  exact cw (by omega)
 ·rw[TR.bD e]
  exact(av (by omega)).trans (P.hc p hp)
theorem Rp.congr(P:Rp E s μ)(h1:s'.fl=s.fl)(h2:s'.t=s.t)(h3:∀x,x<=E.n->s'.tm x=s.tm x/\s'.dp x=s.dp x):Rp E s' μ:=by
 refine⟨P.h0,P.h1,by rw[h1];exact P.h2,?_,by rw[h2];exact P.h4,P.hu,by rw[h2];exact P.hc,by rw[h2];exact P.hh,?_⟩
 ·rw[P.h3,jP (g:=λp=>.int (s'.tm p)) λk hk=>by rw[(h3 k (by omega)).1]]
 ·rw[P.hd,jP (g:=λp=>.int (s'.dp p:Int)) λk hk=>by rw[(h3 k (by omega)).2]]
theorem lM:∀{l:List α},(∀x∈l,f x=some (g x))->df (l.map f)=some (l.map g)
 | [],_=>rfl
 | x::l,h=>by
  rw[Θ,h x ο]
  show(df (l.map f)).map (g x :: ·)=_
  rw[lM λy hy=>h y (ι _ hy)]
  rfl
theorem cG{f k:Nat}{ds:List D}(h:μ[k]?=some (vls ds)):lvN (f+1) μ (.h k)=some (.list ds):=by
 show(match μ[k]? with
   | some (.lst xs)=>(df (xs.map (lvN f μ))).map Ψ
   | some (.ins c fs)=>(df ((fs.map Prod.snd).map (lvN f μ))).map λds=>jm c ((fs.map Prod.fst).zip ds)
   | _=>none)=_
 rw[h]
 show(df ((ds.map Val.d).map (lvN f μ))).map Ψ=_
 rw[Y5,lM (f:=lvN f μ∘Val.d) (g:=λx=>x) λx _=>aZ,List.map_id']
 rfl
theorem Rp.tf(P:Rp E s μ):∃X,lvN 4 μ (.h 0)=some X/\Tf E s X:=by
 have hU:lvN 3 μ (.h (8+E.n))=some (.list ((Z3 (E.n+1)).map λp=>Ψ (bm (s.t.un p)))):=by
  show(match μ[8+E.n]? with
    | some (.lst xs)=>(df (xs.map (lvN 2 μ))).map Ψ
    | some (.ins c fs)=>(df ((fs.map Prod.snd).map (lvN 2 μ))).map λds=>jm c ((fs.map Prod.fst).zip ds)
    | _=>none)=_
  rw[P.hu]
  show(df (((Z3 (E.n+1)).map λp=>Val.h (6+p)).map (lvN 2 μ))).map Ψ=_
  rw[Y5,lM (f:=lvN 2 μ∘λp=>Val.h (6+p)) (g:=λp=>Ψ (bm (s.t.un p))) (l:=Z3 (E.n+1)) λp hp=>cG (P.hc p (by have:=List.mem_range.mp hp;omega))]
  rfl
 refine⟨nz (.int (E.m:Int)) (.list (E.rs.map rl)) (.list (rg E.rs.length λk=>.int (E.bd k))) (.list (rg E.rs.length λk=>.int (s.fl k))) (.list (rg (E.n+1) λp=>.int (s.tm p))) (.list (rg (E.n+1) λp=>ovD E.n (s.t.ov p) p)) (.list ((Z3 (E.n+1)).map λp=>Ψ (bm (s.t.un p)))) (.list (rg (E.n+1) λp=>ovD E.n (s.t.hk p) p)) (.list (rg (E.n+1) λp=>.int (s.dp p:Int))) (.int 0),?_,⟨fl_many _ _ _ _ _ _ _ _ _ _,fl_rules _ _ _ _ _ _ _ _ _ _,wO _ _ _ _ _ _ _ _ _ _,fl_flow _ _ _ _ _ _ _ _ _ _,fl_times _ _ _ _ _ _ _ _ _ _,fl_over _ _ _ _ _ _ _ _ _ _,fl_hooks _ _ _ _ _ _ _ _ _ _,wN _ _ _ _ _ _ _ _ _ _,fl_begin _ _ _ _ _ _ _ _ _ _,_,at_t _ _ _ _ _ _ _ _ _ _,λm hm=>hm _ _ _ _ _ _ _ _ _ _⟩⟩
 show(match μ[0]? with
   | some (.lst xs)=>(df (xs.map (lvN 3 μ))).map Ψ
   | some (.ins c fs)=>(df ((fs.map Prod.snd).map (lvN 3 μ))).map λds=>jm c ((fs.map Prod.fst).zip ds)
   | _=>none)=_
 rw[P.h0]
 show(df [lvN 3 μ (.d _),lvN 3 μ (.d _),lvN 3 μ (.h 1),lvN 3 μ (.h 2),lvN 3 μ (.h 3),lvN 3 μ (.h 4),lvN 3 μ (.h (8+E.n)),lvN 3 μ (.h (9+E.n)),lvN 3 μ (.h (10+E.n)),lvN 3 μ (.d _)]).map _=_
 rw[aZ,aZ,aZ,cG P.h1,cG P.h2,cG P.h3,cG P.h4,hU,cG P.hh,cG P.hd]
 rfl
theorem qV(P:Rp E s μ)(h0:δ[0]?=some (some (.h 0)))(h:(tfs E).lookup x=some v):sAt "Tree" x (aQ 0) δ μ=R.ret (v,μ):=es_at (aR h0) P.h0 h
theorem lk_times:(tfs E).lookup ("times" : Str)=some (.h 3):=rfl
theorem lk_over:(tfs E).lookup ("over" : Str)=some (.h 4):=rfl
theorem lk_flow:(tfs E).lookup ("flow" : Str)=some (.h 2):=rfl
theorem lk_under:(tfs E).lookup ("under" : Str)=some (.h (8+E.n)):=rfl
theorem lk_hooks:(tfs E).lookup ("hooks" : Str)=some (.h (9+E.n)):=rfl
theorem wH:(tfs E).lookup ("depths" : Str)=some (.h (10+E.n)):=rfl
theorem uC{α:Type}{xs:List α}{k:Nat}{v:α}(h:xs[k]?=some v):L2.atI xs (k:Int)=some v:=by
 have hk:k<xs.length:=(ς.mp h).1
 unfold L2.atI
 rw[ma hk]
 exact h
theorem uq{δ:aw}{fi:aw->Sto->R (Val×Sto)}{q:Nat}(P:Rp E s μ)(h0:δ[0]?=some (some (.h 0)))(hi:fi δ μ=R.ret (.d (.int (q:Int)),μ))(hq:q<=E.n):sIx (sAt "Tree" "under" (aQ 0)) fi δ μ=R.ret (.h (6+q),μ):=by
 refine es_ix (qV P h0 lk_under) hi P.hu (uC ?_)
 rw[Λ,W0 (by omega)]
 rfl
theorem vset:((rg L f).map Val.d).set k (.d d)=(rg L (TR.put f k d)).map Val.d:=by rw[<-rg_set,U6]
theorem qS(P:Rp E s μ)(h0:δ[0]?=some (some (.h 0)))(hx:(tfs E).lookup x=some (.h k))(hk:μ[k]?=some (vls (rg L g)))(hi:fi δ μ=R.ret (.d (.int (p:Int)),μ))(hp:p<L)(hf:f δ μ=R.ret (.d d,μ)):jN (sAt "Tree" x (aQ 0)) fi f n δ μ=R.ret (.nx δ (μ.set k (vls (rg L (TR.put g p d))))):=by
 unfold vls
 rw[<-vset]
 exact es_setX hf (qV P h0 hx) hi hk (by rw[θ,tQ];exact ma hp)
theorem uY:TR.put (λp=>ε (f p)) p (.int x)=λq=>ε (TR.put f p x q):=by
 funext q
 unfold TR.put
 split<;>rfl
theorem put_nat{f:Nat->Nat}{p x:Nat}:TR.put (λp=>ε (f p:Int)) p (.int (x:Int))=λq=>ε ((TR.put f p x q:Nat):Int):=by
 funext q
 unfold TR.put
 split<;>rfl
theorem uX{n:Nat}{f:Nat->Nat}{p x:Nat}(hp:p<n):TR.put (λp=>ovD n (f p) p) p (.int (x:Int))=λq=>ovD n (TR.put f p x q) q:=by
 funext q
 unfold TR.put
 by_cases e:q=p
 ·rw[if_pos e,if_pos e,e,ovD,if_pos hp]
 ·rw[if_neg e,if_neg e]
end
structure Nx(E:Tn)(P:Nat->Prop)(δ:Int)(d:Nat->Nat)(s1 s2:TR.St):Prop where
 t:s2.t=s1.t
 f:s2.fl=s1.fl
 i:∀x,x<=E.n->P x->s2.tm x=s1.tm x+δ/\s2.dp x=d x
 o:∀x,x<=E.n->¬P x->s2.tm x=s1.tm x/\s2.dp x=s1.dp x
section
variable{E:Tn}{s:TR.St}{μ:Sto}
theorem sB(a b:List Nat):bm (a++b)=bm a++bm b:=Y4
theorem hV(a:List Nat):(bm a).length=a.length:=θ _
theorem lv_ix{p:Nat}{s:TR.St}(hp:p<E.n):oIx (.list (rg (E.n+1) λp=>ovD E.n (s.t.ov p) p)) (.int (p:Int))=some (.int (s.t.ov p:Int)):=by rw[dU (by omega),oB hp]
theorem sh_step(P:Rp E s μ){hp N p:Nat}{x:D}{δ:Int}{st:List D}(hhp:11+E.n<=hp)(hs:μ[hp]?=some (vls (st++[.int (p:Int)])))(hpn:p<E.n)(ho:s.t.ov p<=E.n)(hz:st.length+(s.t.un p).length<=1000000) :
  ∃μ2,dE N [some (.h 0),some (.d x),some (.d (.int δ)),some (.h hp)] μ=R.ret (.nx [some (.h 0),some (.d (.int (p:Int))),some (.d (.int δ)),some (.h hp)] μ2)/\μ2[hp]?=some (vls (st++bm (s.t.un p)))/\Rp E { s with tm:=TR.put s.tm p (s.tm p+δ),dp:=TR.put s.dp p (s.dp (s.t.ov p)+1) } μ2:=by
 have hl:hp<μ.length:=(ς.mp hs).1
 unfold dE
 obtain⟨μ1,h1⟩:∃μ1,μ1=μ.set hp (vls st):=⟨_,rfl⟩
 have P1:Rp E s μ1:=by rw[h1];exact P.setO hhp
 have e1:v6 (aQ 3) [some (.h 0),some (.d x),some (.d (.int δ)),some (.h hp)] μ=R.ret (.d (.int (p:Int)),μ1):=by
  have:=es_pop (v:=.d (.int (p:Int))) (fo:=aQ 3) (δ:=[some (.h 0),some (.d x),some (.d (.int δ)),some (.h hp)]) (aR rfl) hs (by
   rw[Y4,η]
   show(_++[Val.d (.int (p:Int))])[(st.map Val.d).length+1-1]?=_
   rw[Nat.add_sub_cancel,χ (υ _),X0]
   rfl)
  rw[this,h1]
  congr 3
  rw[Y4]
  show Ob.lst ((st.map Val.d)++[Val.d (.int (p:Int))]).dropLast=_
  rw[List.dropLast_concat]
 obtain⟨μ2,h2⟩:∃μ2,μ2=μ1.set 3 (vls (rg (E.n+1) λq=>.int (TR.put s.tm p (s.tm p+δ) q))):=⟨_,rfl⟩
 have P2:=P1.tm (TR.put s.tm p (s.tm p+δ))
 rw[<-h2] at P2
 have e2:nK (λi j=>i+j) (sAt "Tree" "times" (aQ 0)) (aQ 1) (aQ 2) N [some (.h 0),some (.d (.int (p:Int))),some (.d (.int δ)),some (.h hp)] μ1=R.ret (.nx [some (.h 0),some (.d (.int (p:Int))),some (.d (.int δ)),some (.h hp)] μ2):=by
  have:=vN (h:=λi j=>i+j) (n:=N) (fo:=sAt "Tree" "times" (aQ 0)) (fi:=aQ 1) (f:=aQ 2) (δ:=[some (.h 0),some (.d (.int (p:Int))),some (.d (.int δ)),some (.h hp)]) (qV P1 rfl lk_times) (aR rfl) P1.h3 (uC (k:=p) (v:=Val.d (.int (s.tm p))) (by rw[Λ,tR (by omega)];rfl)) (aR rfl) P1.h3 (j:=p) (by rw[θ,tQ];exact ma (by omega))
  rw[this,vset,uY,h2]
 obtain⟨X,hX,T⟩:=P2.tf
 obtain⟨μ3,h3⟩:∃μ3,μ3=μ2.set (10+E.n) (vls (rg (E.n+1) λq=>.int ((TR.put s.dp p (s.dp (s.t.ov p)+1) q:Nat):Int))):=⟨_,rfl⟩
 have P3:=P2.dp (TR.put s.dp p (s.dp (s.t.ov p)+1))
 rw[<-h3] at P3
 have e3:jN (sAt "Tree" "depths" (aQ 0)) (aQ 1) (bC (d2 bg (d2 oIx (d1 (aY "Tree" "depths") (ac 0)) (d2 oIx (d1 (aY "Tree" "over") (ac 0)) (ac 1))) (dC (.int 1)))) N [some (.h 0),some (.d (.int (p:Int))),some (.d (.int δ)),some (.h hp)] μ2=R.ret (.nx [some (.h 0),some (.d (.int (p:Int))),some (.d (.int δ)),some (.h hp)] μ3):=by
  have:=qS (n:=N) (fi:=aQ 1) (f:=bC (d2 bg (d2 oIx (d1 (aY "Tree" "depths") (ac 0)) (d2 oIx (d1 (aY "Tree" "over") (ac 0)) (ac 1))) (dC (.int 1)))) (δ:=[some (.h 0),some (.d (.int (p:Int))),some (.d (.int δ)),some (.h hp)]) (d:=.int ((s.dp (s.t.ov p)+1:Nat):Int)) (p:=p) P2 rfl wH P2.hd (aR rfl) (by omega) (b8 (ag (ag (cm (ak rfl hX) T.depths) (ag (cm (ak rfl hX) T.over) (ak rfl aZ) (lv_ix hpn)) (dU (by show s.t.ov p<E.n+1;omega))) aj cu) rfl)
  rw[this,put_nat,h3]
 have g3:μ3[hp]?=some (vls st):=by
  rw[h3,h2,h1,av (by omega),av (by omega)]
  exact cw hl
 refine⟨μ3.set hp (vls (st++bm (s.t.un p))),?_,cw (by rw[h3,h2,h1,Ω,Ω,Ω];exact hl),P3.setO hhp⟩
 refine aB (bw e1) (aB e2 (aB e3 ?_))
 have:=es_ext (fo:=aQ 3) (f:=sIx (sAt "Tree" "under" (aQ 0)) (aQ 1)) (δ:=[some (.h 0),some (.d (.int (p:Int))),some (.d (.int δ)),some (.h hp)]) (aR rfl) g3 (uq P3 rfl (aR rfl) (by omega:p<=E.n)) g3 (P3.hc p (by omega)) (ax (by rw[θ,θ,hV];show st.length+(s.t.un p).length<=_;omega))
 refine jz (v:=.d .none) ?_
 rw[this,<-Y4]
section
variable{d:Nat->Nat}{t:TR.Tr}{δ:Int}{hp N:Nat}
noncomputable abbrev shW(N:Nat)(δ:Int)(hp:Nat)(x:D)(μ:Sto):R OutS:=dZ (jg (dTr (ac 3))) dE N [some (.h 0),some (.d x),some (.d (.int δ)),some (.h hp)] μ
theorem uQ(h:μ[hp]?=some (vls ds)):jg (dTr (ac 3)) [some (.h 0),some (.d x),some (.d (.int δ)),some (.h hp)] μ=R.ret (!ds.isEmpty,μ):=by
 refine j8 ?_
 unfold dTr
 rw[ak (i:=3) rfl (cG h)]
 show M.lift (truD (.list ds))=_
 cases ds<;>rfl
theorem uR(T:TR.Tree E.n t.ov d)(U:TR.Und E.n t.ov t.un)(hn:E.n<=900)(hhp:11+E.n<=hp):∀(h p:Nat) (st:List D) (s:TR.St) (μ:Sto) (x:D),E.n<d p+h->p<E.n->s.t=t->Rp E s μ->μ[hp]?=some (vls (st++[.int (p:Int)]))->s.dp (t.ov p)=d (t.ov p)->st.length<=d p*E.n->∃s2 μ2 x2,Nx E (TR.sub t.ov p) δ d s s2/\Rp E s2 μ2/\μ2[hp]?=some (vls st)/\∀r,shW N δ hp x2 μ2=R.ret r->shW N δ hp x μ=R.ret r
 | 0,p,st,s,μ,x,hh,hpn,_,_,_,_,_=>by
  have:=T.dp_le (W7 hpn)
  omega
 | h+1,p,st,s,μ,x,hh,hpn,ht,P,hs,hd,hz=>by
  obtain⟨o1,o2⟩:=T.d p hpn
  obtain⟨u1,u2⟩:=U p (W7 hpn)
  have hul:(t.un p).length<=E.n:=TR.jT E.n _ u1 λy hy=>((u2 y).mp hy).1
  have hdn:=T.dp_le (W7 hpn)
  have hzz:d p*E.n<=900*900:=Nat.mul_le_mul (by omega) hn
  obtain⟨μ1,e1,e2,P1⟩:=sh_step (N:=N) (x:=x) (δ:=δ) P hhp hs hpn (by rw[ht];exact o1) (by rw[ht];omega)
  rw[ht] at e2 P1
  have list:∀(M:List Nat) (s':TR.St) (μ':Sto) (x':D),M.Nodup->(∀c∈M,c∈t.un p)->s'.t=t->s'.dp p=d p->Rp E s' μ'->μ'[hp]?=some (vls (st++bm M.reverse))->∃s2 μ2 x2,Nx E (λy=>∃c∈M,TR.sub t.ov c y) δ d s' s2/\Rp E s2 μ2/\μ2[hp]?=some (vls st)/\∀r,shW N δ hp x2 μ2=R.ret r->shW N δ hp x' μ'=R.ret r:=by
   intro M
   induction M with
   | nil =>
    intro s' μ' x' _ _ _ _ P' hs'
    refine⟨s',μ',x',⟨rfl,rfl,(λy _ ⟨c,hc,_⟩=>nomatch hc),λy _ _=>⟨rfl,rfl⟩⟩,P',?_,λr h=>h⟩
    rw[hs',List.reverse_nil]
    show some (vls (st++[]))=_
    rw[Z4]
   | cons c M ih =>
    intro s' μ' x' hnd hM ht' hdp P' hs'
    obtain⟨n1,n2⟩:=W5.mp hnd
    obtain⟨c1,c2⟩:=(u2 c).mp (hM c ο)
    obtain⟨c3,c4⟩:=T.d c c1
    have hMl:M.length<=E.n:=TR.jT E.n _ n2 λy hy=>((u2 y).mp (hM y (ι _ hy))).1
    rw[T4,sB,<-W2] at hs'
    obtain⟨s3,μ3,x3,X3,P3,g3,r3⟩:=uR T U hn hhp h c (st++bm M.reverse) s' μ' x' (by rw[c2] at c4;omega) c1 ht' P' hs' (by rw[c2];exact hdp) (by
     rw[η,hV,List.length_reverse,c4,c2,Nat.succ_mul]
     omega)
    have npc:¬TR.sub t.ov c p:=λ⟨i,z⟩=>by
     have:=T.sub_dep (W7 hpn) c1 z
     rw[c2] at c4
     omega
    obtain⟨s4,μ4,x4,X4,P4,g4,r4⟩:=ih s3 μ3 x3 n2 (λy hy=>hM y (ι _ hy)) (X3.t.trans ht') (by rw[(X3.o p (W7 hpn) npc).2];exact hdp) P3 g3
    refine⟨s4,μ4,x4,⟨X4.t.trans X3.t,X4.f.trans X3.f,λy hy hq=>?_,λy hy hq=>?_⟩,P4,g4,λr h=>r3 r (r4 r h)⟩
    ·obtain⟨e,he,hq⟩:=hq
     by_cases hc:TR.sub t.ov c y
     ·have hno:¬∃c∈M,TR.sub t.ov c y:=λ⟨e,he,hq⟩=>by
       obtain⟨q1,q2⟩:=(u2 e).mp (hM e (ι _ he))
       have q3:=(T.d e q1).2
       rw[q2] at q3
       rw[c2] at c4
       have:=T.sub_disj hy c1 q1 (by omega) hc hq
       exact n1 (this▸he)
      obtain⟨w1,w2⟩:=X3.i y hy hc
      obtain⟨w3,w4⟩:=X4.o y hy hno
      exact⟨w3.trans w1,w4.trans w2⟩
     ·have he2:e∈M:=by
       rcases Γ.mp he with rfl | he
       ·exact absurd hq hc
       ·exact he
      obtain⟨w1,w2⟩:=X3.o y hy hc
      obtain⟨w3,w4⟩:=X4.i y hy ⟨e,he2,hq⟩
      exact⟨by rw[w3,w1],w4⟩
    ·obtain⟨w1,w2⟩:=X3.o y hy λz=>hq ⟨c,ο,z⟩
     obtain⟨w3,w4⟩:=X4.o y hy λ⟨e,he,z⟩=>hq ⟨e,ι _ he,z⟩
     exact⟨w3.trans w1,w4.trans w2⟩
  obtain⟨s2,μ2,x2,X2,P2,g2,r2⟩:=list (t.un p).reverse ⟨s.fl,TR.put s.tm p (s.tm p+δ),t,TR.put s.dp p (s.dp (t.ov p)+1)⟩ μ1 (.int (p:Int)) (List.pairwise_reverse.mpr (u1.imp λh=>Ne.symm h)) (λc hc=>List.mem_reverse.mp hc) rfl (by show TR.put s.dp p (s.dp (t.ov p)+1) p=d p;rw[TR.bj,hd,o2]) P1 (by rw[List.reverse_reverse];exact e2)
  have npp:∀c∈(t.un p).reverse,¬TR.sub t.ov c p:=λc hc ⟨i,z⟩=>by
   obtain⟨c1,c2⟩:=(u2 c).mp (List.mem_reverse.mp hc)
   have:=T.sub_dep (W7 hpn) c1 z
   have c4:=(T.d c c1).2
   rw[c2] at c4
   omega
  refine⟨s2,μ2,x2,⟨X2.t.trans ht.symm,X2.f,λy hy hq=>?_,λy hy hq=>?_⟩,P2,g2,λr hr=>?_⟩
  ·rcases (T.sub_iff U hpn hy).mp hq with rfl | ⟨c,hc,hq⟩
   ·obtain⟨w1,w2⟩:=X2.o y hy λ⟨c,hc,z⟩=>npp c hc z
    refine⟨w1.trans TR.bj,w2.trans ?_⟩
    show TR.put s.dp y (s.dp (t.ov y)+1) y=d y
    rw[TR.bj,hd,o2]
   ·have hne:y≠p:=λz=>npp c (List.mem_reverse.mpr hc) (z▸hq)
    obtain⟨w1,w2⟩:=X2.i y hy ⟨c,List.mem_reverse.mpr hc,hq⟩
    refine⟨w1.trans ?_,w2⟩
    show TR.put s.tm p (s.tm p+δ) y+δ=_
    rw[TR.bD hne]
  ·have hne:y≠p:=λz=>hq ((T.sub_iff U hpn hy).mpr (.inl z))
   obtain⟨w1,w2⟩:=X2.o y hy λ⟨c,hc,z⟩=>hq ((T.sub_iff U hpn hy).mpr (.inr ⟨c,List.mem_reverse.mp hc,z⟩))
   exact⟨w1.trans (TR.bD hne),w2.trans (TR.bD hne)⟩
  ·exact es_wht (by rw[uQ hs];cases st<;>rfl) e1 (r2 r hr)
end
open Classical in
theorem xG{d:Nat->Nat}{p:Nat}{δ:Int}(P:Rp E s μ)(T:TR.Tree E.n s.t.ov d)(U:TR.Und E.n s.t.ov s.t.un)(hn:E.n<=900)(hp:p<E.n)(hd:∀x,x<=E.n->¬TR.sub s.t.ov p x->s.dp x=d x):∃μ2,gi [.h 0,.d (.int (p:Int)),.d (.int δ)] μ=R.ret (.d .none,μ2)/\Rp E ⟨s.fl,TR.shf s.t.ov p δ s.tm,s.t,d⟩ μ2:=by
 have hl:=P.len
 obtain⟨o1,o2⟩:=T.d p hp
 have hno:¬TR.sub s.t.ov p (s.t.ov p):=λ⟨i,z⟩=>by
  have:=T.sub_dep o1 hp z
  omega
 have g:(μ++[vls [.int (p:Int)]])[μ.length]?=some (vls ([]++[.int (p:Int)])):=by rw[χ (υ _),X0];rfl
 obtain⟨s2,μ2,x2,X2,P2,g2,r2⟩:=uR (N:=μ.length) (δ:=δ) (hp:=μ.length) T U hn (by omega) (E.n+1) p [] s (μ++[vls [.int (p:Int)]]) (.int (p:Int)) (by omega) hp rfl (P.app _) g (hd _ o1 hno) (X8 _)
 refine⟨μ2,?_,P2.congr X2.f.symm X2.t.symm λx hx=>?_⟩
 ·refine lG (δ:=[some (.h 0),some (.d x2),some (.d (.int δ)),some (.h μ.length)]) ?_
  unfold jt
  refine aB (bw (gK (ds:=[.int (p:Int)]) (bI (ad (ak rfl aZ) af) rfl) rfl)) ?_
  exact r2 _ (es_whf (uQ g2))
 ·show TR.shf s.t.ov p δ s.tm x=s2.tm x/\d x=s2.dp x
  unfold TR.shf
  by_cases hs:TR.sub s.t.ov p x
  ·obtain⟨w1,w2⟩:=X2.i x hx hs
   rw[if_pos hs]
   exact⟨w1.symm,w2.symm⟩
  ·obtain⟨w1,w2⟩:=X2.o x hx hs
   rw[if_neg hs]
   exact⟨w1.symm,by rw[w2,hd x hx hs]⟩
end
theorem p7(p:Nat):∀L:List Nat,((L.map λq:Nat=>(q:Int)).eraseIdx ((L.map λq:Nat=>(q:Int)).idxOf (p:Int)))=(L.erase p).map λq:Nat=>(q:Int)
 | []=>rfl
 | q::L=>by
  rw[Θ,List.idxOf_cons,List.erase_cons]
  by_cases e:q=p
  ·subst e
   rw[if_pos (beq_self_eq_true _)]
   simp
  ·have h1:((q:Int)==(p:Int))=false:=beq_eq_false_iff_ne.mpr λz=>e (by omega)
   have h2:(q==p)=false:=beq_eq_false_iff_ne.mpr e
   rw[h1,h2]
   simp only[cond_false,if_neg ω,List.eraseIdx_cons_succ,Θ]
   rw[p7 p L]
theorem natV(L:List Nat):(bm L).map Val.d=(L.map λq:Nat=>(q:Int)).map λi=>Val.d (.int i):=by
 unfold bm
 rw[Y5,Y5]
 rfl
section
variable{E:Tn}{s:TR.St}{μ:Sto}
abbrev hgE(a1 a2 a3 a4 a5:D)(h6 h7 h8:Nat)(x9 x10:Option Val):aw:=[some (.h 0),some (.d a1),some (.d a2),some (.d a3),some (.d a4),some (.d a5),some (.h h6),some (.h h7),some (.h h8),x9,x10]
theorem hg_step(P:Rp E s μ){a1 a2 a3 a4 a5:D}{h6 h7 h8 N i p q r:Nat}{OL HL:List Nat}(g7:μ[h7]?=some (vls (bm HL)))(g8:μ[h8]?=some (vls (bm OL)))(l7:11+E.n<=h7)(l8:11+E.n<=h8)(hO:OL[i]?=some q)(hH:HL[i]?=some r)(hp:p<E.n)(ho:s.t.ov p<=E.n)(hq:q<=E.n)(hm:p∈s.t.un (s.t.ov p))(hz:∀x,x<=E.n->(s.t.un x).length<=E.n)(hn:E.n<=900) :
  ∃μ2,cI N (hgE a1 a2 a3 a4 a5 h6 h7 h8 (some (.d (.int (i:Int)))) (some (.d (.int (p:Int))))) μ=R.ret (.nx (hgE a1 a2 a3 a4 a5 h6 h7 h8 (some (.d (.int (i:Int)))) (some (.d (.int (p:Int))))) μ2)/\Rp E { s with t:=s.t.re p q r } μ2/\∀j,11+E.n<=j->μ2[j]?=μ[j]?:=by
 unfold cI
 obtain⟨δ,hδ⟩:∃δ,δ=hgE a1 a2 a3 a4 a5 h6 h7 h8 (some (.d (.int (i:Int)))) (some (.d (.int (p:Int)))):=⟨_,rfl⟩
 have d0:δ[0]?=some (some (.h 0)):=by rw[hδ];rfl
 have d7:δ[7]?=some (some (.h h7)):=by rw[hδ];rfl
 have d8:δ[8]?=some (some (.h h8)):=by rw[hδ];rfl
 have d9:δ[9]?=some (some (.d (.int (i:Int)))):=by rw[hδ];rfl
 have d10:δ[10]?=some (some (.d (.int (p:Int)))):=by rw[hδ];rfl
 rw[<-hδ]
 clear hδ
 obtain⟨X,hX,T⟩:=P.tf
 obtain⟨L1,hL1⟩:∃L1,L1=(s.t.un (s.t.ov p)).erase p:=⟨_,rfl⟩
 obtain⟨μ1,h1⟩:∃μ1,μ1=μ.set (6+s.t.ov p) (vls (bm L1)):=⟨_,rfl⟩
 have P1:=P.un ho L1
 rw[<-h1] at P1
 have e1:v5 (sIx (sAt "Tree" "under" (aQ 0)) (bC (d2 oIx (d1 (aY "Tree" "over") (ac 0)) (ac 10)))) (aQ 10) δ μ=R.ret (.d .none,μ1):=by
  have hc:=P.hc _ ho
  unfold vls at hc
  rw[natV] at hc
  have:=es_rem (fo:=sIx (sAt "Tree" "under" (aQ 0)) (bC (d2 oIx (d1 (aY "Tree" "over") (ac 0)) (ac 10)))) (f:=aQ 10) (uq P d0 (b8 (ag (cm (ak d0 hX) T.over) (ak d10 aZ) (lv_ix hp)) rfl) ho) hc (aR d10) hc (List.mem_map_of_mem (f:=λq:Nat=>(q:Int)) hm)
  rw[this,p7,<-natV,h1,hL1]
 obtain⟨X1,hX1,T1⟩:=P1.tf
 have g8':μ1[h8]?=some (vls (bm OL)):=by rw[h1,av (by omega)];exact g8
 have iq:oIx (.list (bm OL)) (.int (i:Int))=some (.int (q:Int)):=vv (by unfold bm;rw[Λ,hO];rfl)
 have ir:oIx (.list (bm HL)) (.int (i:Int))=some (.int (r:Int)):=vv (by unfold bm;rw[Λ,hH];rfl)
 obtain⟨u1,hu1⟩:∃u1,u1=TR.put s.t.un (s.t.ov p) L1:=⟨_,rfl⟩
 rw[<-hu1] at P1
 have hlen:(u1 q).length<=E.n:=by
  rw[hu1]
  by_cases e:q=s.t.ov p
  ·rw[e,TR.bj,hL1]
   have:=List.length_erase_le (a:=p) (l:=s.t.un (s.t.ov p))
   have:=hz _ ho
   omega
  ·rw[TR.bD e];exact hz q hq
 obtain⟨μ2,h2⟩:∃μ2,μ2=μ1.set (6+q) (vls (bm (u1 q++[p]))):=⟨_,rfl⟩
 have P2:=P1.un hq (u1 q++[p])
 rw[<-h2] at P2
 have e2:v9 (sIx (sAt "Tree" "under" (aQ 0)) (bC (d2 oIx (ac 8) (ac 9)))) (aQ 10) δ μ1=R.ret (.d .none,μ2):=by
  have hc:=P1.hc q hq
  have:=es_app (fo:=sIx (sAt "Tree" "under" (aQ 0)) (bC (d2 oIx (ac 8) (ac 9)))) (f:=aQ 10) (uq P1 d0 (b8 (ag (ak d8 (cG g8')) (ak d9 aZ) iq) rfl) hq) hc (aR d10) hc (ax (by rw[θ,hV];show(u1 q).length+1<=_;omega))
  rw[this,h2,sB,vls,Y4]
  rfl
 have g8'':μ2[h8]?=some (vls (bm OL)):=by rw[h2,av (by omega)];exact g8'
 obtain⟨μ3,h3⟩:∃μ3,μ3=μ2.set 4 (vls (rg (E.n+1) λy=>ovD E.n (TR.put s.t.ov p q y) y)):=⟨_,rfl⟩
 have P3:=P2.ov (TR.put s.t.ov p q)
 rw[<-h3] at P3
 have e3:jN (sAt "Tree" "over" (aQ 0)) (aQ 10) (bC (d2 oIx (ac 8) (ac 9))) N δ μ2=R.ret (.nx δ μ3):=by
  have:=qS (n:=N) (d:=.int (q:Int)) (f:=bC (d2 oIx (ac 8) (ac 9))) P2 d0 lk_over P2.h4 (aR d10) (by omega) (b8 (ag (ak d8 (cG g8'')) (ak d9 aZ) iq) rfl)
  rw[this,h3,uX hp]
 have g7':μ3[h7]?=some (vls (bm HL)):=by rw[h3,h2,h1,av (by omega),av (by omega),av (by omega)];exact g7
 obtain⟨μ4,h4⟩:∃μ4,μ4=μ3.set (9+E.n) (vls (rg (E.n+1) λy=>ovD E.n (TR.put s.t.hk p r y) y)):=⟨_,rfl⟩
 have P4:=P3.hk (TR.put s.t.hk p r)
 rw[<-h4] at P4
 have e4:jN (sAt "Tree" "hooks" (aQ 0)) (aQ 10) (bC (d2 oIx (ac 7) (ac 9))) N δ μ3=R.ret (.nx δ μ4):=by
  have:=qS (n:=N) (d:=.int (r:Int)) (f:=bC (d2 oIx (ac 7) (ac 9))) P3 d0 lk_hooks P3.hh (aR d10) (by omega) (b8 (ag (ak d7 (cG g7')) (ak d9 aZ) ir) rfl)
  rw[this,h4,uX hp]
 refine⟨μ4,aB (jz e1) (aB (jz e2) (aB e3 e4)),?_,λj hj=>?_⟩
 ·have:(s.t.re p q r:TR.Tr)=⟨TR.put s.t.ov p q,TR.put s.t.hk p r,TR.put u1 q (u1 q++[p])⟩:=by rw[hu1,hL1];rfl
  rw[this]
  exact P4
 ·rw[h4,h3,h2,h1,av (by omega),av (by omega),av (by omega),av (by omega)]
theorem und_len(U:TR.Und n ov un):∀x,x<=n->(un x).length<=n:=λx hx=>TR.jT n _ (U x hx).1 λy hy=>(((U x hx).2 y).mp hy).1
theorem vz{a1 a2 a3 a4 a5:D}{h6 h7 h8 N:Nat}{OL HL:List Nat}{xs:List Val}(l6:11+E.n<=h6)(l7:11+E.n<=h7)(l8:11+E.n<=h8)(hn:E.n<=900):∀(j p q r i:Nat) (s:TR.St) (μ:Sto) (x9 x10:Option Val),TR.Rv E.net j p q r s.t->Rp E s μ->μ[h6]?=some (.lst xs)->μ[h7]?=some (vls (bm HL))->μ[h8]?=some (vls (bm OL))->OL.drop i=q::TR.ay s.t.ov j p->HL.drop i=r::(TR.ay s.t.ov j p).map s.t.hk->∃μ2 y9 y10,dv h6 xs (mJ 2 (fv (agN 9) (fv (agN 10) mK))) (cI N) (b5 i (bm (TR.ay s.t.ov j p))) (hgE a1 a2 a3 a4 a5 h6 h7 h8 x9 x10) μ=R.ret (.nx (hgE a1 a2 a3 a4 a5 h6 h7 h8 y9 y10) μ2)/\Rp E { s with t:=TR.fI j p q r s.t } μ2
 | 0,p,q,r,i,s,μ,x9,x10,R,P,g6,g7,g8,hO,hH=>⟨μ,x9,x10,kB g6,P⟩
 | j+1,p,q,r,i,s,μ,x9,x10,Rv,P,g6,g7,g8,hO,hH=>by
  have hp:=Rv.p_lt
  obtain⟨dp,T,hj⟩:=Rv.tr
  obtain⟨o1,o2⟩:=T.d p hp
  have hO1:OL[i]?=some q:=by
   have:=congrArg List.head? hO
   rw[List.head?_drop] at this
   exact this
  have hH1:HL[i]?=some r:=by
   have:=congrArg List.head? hH
   rw[List.head?_drop] at this
   exact this
  have hO2:OL.drop (i+1)=TR.ay s.t.ov (j+1) p:=by
   rw[<-List.drop_drop,hO]
   rfl
  have hH2:HL.drop (i+1)=(TR.ay s.t.ov (j+1) p).map s.t.hk:=by
   rw[<-List.drop_drop,hH]
   rfl
  have hw:TR.ay (TR.put s.t.ov p q) j (s.t.ov p)=TR.ay s.t.ov j (s.t.ov p):=TR.fX Rv.not_in
  obtain⟨μ1,e1,P1,k1⟩:=hg_step (N:=N) (a1:=a1) (a2:=a2) (a3:=a3) (a4:=a4) (a5:=a5) (h6:=h6) P g7 g8 l7 l8 hO1 hH1 hp o1 Rv.lq (((Rv.un _ o1).2 p).mpr ⟨hp,rfl⟩) (und_len Rv.un) hn
  obtain⟨μ2,y9,y10,e2,P2⟩:=vz l6 l7 l8 hn j (s.t.ov p) p (s.t.hk p) (i+1) { s with t:=s.t.re p q r } μ1 (some (.d (.int (i:Int)))) (some (.d (.int (p:Int)))) Rv.next P1 ((k1 _ l6).trans g6) ((k1 _ l7).trans g7) ((k1 _ l8).trans g8) (by
   show _=p::TR.ay (TR.put s.t.ov p q) j (s.t.ov p)
   rw[hw,hO2]
   rfl) (by
   show _=s.t.hk p::(TR.ay (TR.put s.t.ov p q) j (s.t.ov p)).map (TR.put s.t.hk p r)
   rw[hw,hH2]
   show s.t.hk p::(TR.ay s.t.ov j (s.t.ov p)).map s.t.hk=_
   congr 1
   exact V8 λy hy=>(TR.bD (f:=s.t.hk) (i:=p) (j:=y) (x:=r) λz=>Rv.not_in (by have w:=hy;rw[z] at w;exact w)).symm)
  have e2:dv h6 xs (mJ 2 (fv (agN 9) (fv (agN 10) mK))) (cI N) (b5 (i+1) (bm (TR.ay (TR.put s.t.ov p q) j (s.t.ov p)))) (hgE a1 a2 a3 a4 a5 h6 h7 h8 (some (.d (.int (i:Int)))) (some (.d (.int (p:Int))))) μ1=R.ret (.nx (hgE a1 a2 a3 a4 a5 h6 h7 h8 y9 y10) μ2):=e2
  rw[hw] at e2
  exact⟨μ2,y9,y10,fS (δ1:=hgE a1 a2 a3 a4 a5 h6 h7 h8 (some (.d (.int (i:Int)))) (some (.d (.int (p:Int))))) g6 rfl e1 e2,P2⟩
end
section
def Fla(E:Tn):Prop:=∀k,k<E.rs.length->bL (rl (E.r k))=true
theorem oC{X:D}(T:Tf E s X):∀(L:List Nat) (x:Sl),(∀q∈L,q<E.n)->bP (tgN 0) (nX cH) (nX (d2 oIx (d1 (aY "Tree" "hooks") (ac 1)) (ac 0))) (bm L) [x,.vl X]=M.ret (bm (L.map s.t.hk))
 | [],x,_=>rfl
 | q::L,x,h=>ck (δ':=[.vl (.int (q:Int)),.vl X]) rfl (ag (cm (aa rfl) T.hooks) (aa rfl) (by rw[dU (by have:=h q ο;omega),oB (h q ο)])) (oC T L _ λy hy=>h y (ι _ hy))
theorem hang_ev(I:TR.Inv E.net s){k i p q:Nat}{fl:Nat->Int}(h:TR.Hg E.net s k i p q fl)(P:Rp E { s with fl:=fl } μ)(hP:Pin E)(hf:Fla E)(hn:E.n<=900):∃μ2 d,dQ [.h 0,.d (.int (TR.upN s.t.ov i p:Int)),.d (.int (p:Int)),.d (.int (k:Int))] μ=R.ret (.d .none,μ2)/\Rp E ⟨fl,TR.shf (TR.fI (i+1) p q k s.t).ov p (TR.dlt E.net s k p) s.tm,TR.fI (i+1) p q k s.t,d⟩ μ2/\TR.Inv E.net ⟨fl,TR.shf (TR.fI (i+1) p q k s.t).ov p (TR.dlt E.net s k p) s.tm,TR.fI (i+1) p q k s.t,d⟩/\p<E.n:=by
 have hk:k<E.rs.length:=h.km
 have Rv:=h.rv I
 obtain⟨d,T',U',I',hp⟩:=h.inv I
 have hp:p<E.n:=hp
 have hid:i<s.dp p:=h.id
 have Tr:TR.Tree E.n s.t.ov s.dp:=I.tr
 have hx:TR.upN s.t.ov i p<E.n:=by
  obtain⟨z1,z2⟩:=Tr.up i (W7 hp) (by omega)
  exact Tr.pos z1 (by omega)
 have hL:∀y∈TR.ay s.t.ov (i+1) p,y<E.n:=λy hy=>(Tr.inway (W7 hp) (by omega) hy).1
 have hLl:(TR.ay s.t.ov (i+1) p).length<=900:=by rw[TR.je];have:=Tr.dp_le (W7 hp);omega
 have hpq:p≠q:=λz=>h.cl 0 (by show q∈_;rw[<-z];exact ο)
 obtain⟨la,hla⟩:∃la,la=TR.lack E.net s.tm k:=⟨_,rfl⟩
 obtain⟨X,hX,T⟩:=P.tf
 have hlk:=qK T hP hk
 have hlk:cp [X,.int (k:Int)]=M.ret (.int la):=by rw[hla];exact hlk
 have hw:=tF (k:=i+1) (p:=p) T Tr (W7 hp) (show i+1<=s.dp p by omega) hn rfl
 have hov:oIx (.list (rg (E.n+1) λy=>ovD E.n (s.t.ov y) y)) (.int (TR.upN s.t.ov i p:Int))=some (.int (TR.upN s.t.ov (i+1) p:Int)):=by rw[TR.d5];exact lv_ix hx
 have hl:=P.len
 obtain⟨W,hW⟩:∃W,W=TR.ay s.t.ov (i+1) p:=⟨_,rfl⟩
 rw[<-hW] at hw hL hLl
 obtain⟨μ1,h1⟩:∃μ1,μ1=μ++[vls (bm W)]:=⟨_,rfl⟩
 have P1:Rp E { s with fl:=fl } μ1:=by rw[h1];exact P.app _
 have m1:μ1.length=μ.length+1:=by rw[h1,η];rfl
 have g1:μ1[μ.length]?=some (vls (bm W)):=by rw[h1,χ (υ _),X0];rfl
 obtain⟨X1,hX1,T1⟩:=P1.tf
 obtain⟨HL,hHL⟩:∃HL:List Nat,HL=k::W.map s.t.hk:=⟨_,rfl⟩
 obtain⟨OL,hOL⟩:∃OL:List Nat,OL=q::W:=⟨_,rfl⟩
 obtain⟨μ2,h2⟩:∃μ2,μ2=μ1++[vls (bm HL)]:=⟨_,rfl⟩
 have P2:Rp E { s with fl:=fl } μ2:=by rw[h2];exact P1.app _
 have m2:μ2.length=μ.length+2:=by rw[h2,η,m1];rfl
 have g2:μ2[μ.length+1]?=some (vls (bm HL)):=by rw[h2,<-m1,χ (υ _),X0];rfl
 have g21:μ2[μ.length]?=some (vls (bm W)):=by rw[h2,ξ (by omega)];exact g1
 obtain⟨μ3,h3⟩:∃μ3,μ3=μ2++[vls (bm OL)]:=⟨_,rfl⟩
 have P3:Rp E { s with fl:=fl } μ3:=by rw[h3];exact P2.app _
 have g3:μ3[μ.length+2]?=some (vls (bm OL)):=by rw[h3,<-m2,χ (υ _),X0];rfl
 have g32:μ3[μ.length+1]?=some (vls (bm HL)):=by rw[h3,ξ (by omega)];exact g2
 have g31:μ3[μ.length]?=some (vls (bm W)):=by rw[h3,ξ (by omega)];exact g21
 obtain⟨μ4,y9,y10,e4,P4⟩:=vz (a1:=.int (TR.upN s.t.ov i p:Int)) (a2:=.int (p:Int)) (a3:=.int (k:Int)) (a4:=rl (E.r k)) (a5:=.int la) (h6:=μ.length) (h7:=μ.length+1) (h8:=μ.length+2) (N:=μ.length) (OL:=OL) (HL:=HL) (by omega) (by omega) (by omega) hn (i+1) p q k 0 { s with fl:=fl } μ3 none none Rv P3 g31 g32 g3 (by rw[hOL,hW];rfl) (by rw[hHL,hW];rfl)
 have e4:dv μ.length ((bm W).map Val.d) (mJ 2 (fv (agN 9) (fv (agN 10) mK))) (cI μ.length) (b5 0 (bm (TR.ay s.t.ov (i+1) p))) (hgE (.int (TR.upN s.t.ov i p:Int)) (.int (p:Int)) (.int (k:Int)) (rl (E.r k)) (.int la) μ.length (μ.length+1) (μ.length+2) none none) μ3=R.ret (.nx (hgE (.int (TR.upN s.t.ov i p:Int)) (.int (p:Int)) (.int (k:Int)) (rl (E.r k)) (.int la) μ.length (μ.length+1) (μ.length+2) y9 y10) μ4):=e4
 rw[<-hW] at e4
 obtain⟨dl,hdl⟩:∃dl,dl=TR.dlt E.net s k p:=⟨_,rfl⟩
 obtain⟨μ5,e5,P5⟩:=xG (d:=d) (p:=p) (δ:=dl) P4 T' U' hn hp λx hx hs=>h.dep I T' _ x rfl hx hs
 refine⟨μ5,d,?_,by rw[<-hdl];exact P5,I',hp⟩
 refine lG (δ:=hgE (.int (TR.upN s.t.ov i p:Int)) (.int (p:Int)) (.int (k:Int)) (rl (E.r k)) (.int la) μ.length (μ.length+1) (μ.length+2) y9 y10) ?_
 unfold j4
 refine aB (bw (b8 (ag (cm (ak rfl hX) T.rules) (ak rfl aZ) (sG hk)) (hf k hk))) ?_
 refine aB (bw (b8 (cL T m5 (ak rfl hX) (ad (ak rfl aZ) af) hlk) rfl)) ?_
 refine aB (bw (j9 (ds:=bm W) (cL T t8 (ak rfl hX) (ad (ak rfl aZ) (ad (ag (cm (ak rfl hX) T.over) (ak rfl aZ) hov) af)) hw) (jU W))) ?_
 rw[show μ++[Ob.lst ((bm W).map Val.d)]=μ1 from h1.symm]
 refine aB (bw (gK (ds:=bm HL) ?_ (jU HL))) ?_
 ·rw[hHL]
  refine gJ (xs:=[.int (k:Int)]) (eE (bI (ad (ak rfl aZ) af) rfl)) (bO (ds:=bm W) (cM (ak rfl (cG g1)) rfl) (ax (by rw[hV];omega)) ?_) (ax (by show 1+(List.map _ (List.map _ W)).length<=16000000;rw[θ,θ];omega))
  show bP _ _ _ _ [Sl.un,_]=_
  rw[uP rfl hX1]
  exact oC T1 W _ hL
 rw[show μ1++[Ob.lst ((bm HL).map Val.d)]=μ2 from h2.symm,m1]
 refine aB (bw (gK (ds:=bm OL) ?_ (jU OL))) ?_
 ·rw[hOL]
  refine gJ (xs:=[.int (q:Int)]) (ys:=bm W) (eE (bI (ad (kR (aC (ag (ag (ak rfl aZ) aj (fQ _)) (ak rfl aZ) mQ)) ?_) af) rfl)) (ak rfl (cG g21)) (ax (by rw[hV];show 1+W.length<=_;omega))
  rcases h.jn with ⟨z1,z2⟩ | ⟨z1,z2⟩
  ·have z1:(E.r k).lo=p:=z1
   have z2:(E.r k).hi=q:=z2
   rw[<-z2]
   exact pQ (by omega) (ag (ak rfl aZ) aj (eN _))
  ·have z2:(E.r k).lo=q:=z2
   rw[<-z2]
   exact ox (by omega) (ag (ak rfl aZ) aj (fQ _))
 rw[show μ2++[Ob.lst ((bm OL).map Val.d)]=μ3 from h3.symm,m2]
 refine aB (lH (ds:=bm W) (aR rfl) g31 e4) ?_
 refine jz (v:=.d .none) (mq (xs:=[.d (.int (p:Int)),.d (.int dl)]) (aR rfl) P4.h0 rfl (cJ (aR rfl) (cJ (bS (kR (aC (ag (ag (aa rfl) aj (eN _)) (aa rfl) mQ)) ?_)) ip)) e5)
 rw[hdl]
 unfold TR.dlt
 show _=M.ret (ε (if (E.r k).hi=p then TR.lack E.net s.tm k else -TR.lack E.net s.tm k))
 rw[<-hla]
 by_cases z:(E.r k).hi=p
 ·rw[if_pos z]
  exact pQ (by omega) (aa rfl)
 ·rw[if_neg z]
  exact ox (by omega) (cm (aa rfl) rfl)
end
section
noncomputable def sdD(E:Tn)(s:TR.St)(q:Nat):D:=.tuple [.int (q:Int),.int (s.t.hk q:Int),.bool (decide ((E.r (s.t.hk q)).hi=q))]
noncomputable def suD(E:Tn)(s:TR.St)(q:Nat):D:=.tuple [.int (q:Int),.int (s.t.hk q:Int),.bool (decide ((E.r (s.t.hk q)).lo=q))]
theorem vP(T:Tf E s X):∀(L:List Nat) (x:Sl),(∀q∈L,q<E.n/\s.t.hk q<E.rs.length)->bP (tgN 0) (nX cH) (nX (dMe "Tree" "step_down" (λds=>noX (cU ds)) (ac 1) (ae (ac 0) ai))) (bm L) [x,.vl X]=M.ret (L.map (sdD E s))
 | [],x,_=>rfl
 | q::L,x,h=>ck (δ':=[.vl (.int (q:Int)),.vl X]) rfl (cL T nf_down (aa rfl) (ad (aa rfl) af) (sdn_ev T (h q ο).1 (h q ο).2)) (vP T L _ λy hy=>h y (ι _ hy))
theorem uJ(T:Tf E s X):∀(L:List Nat) (x:Sl),(∀q∈L,q<E.n/\s.t.hk q<E.rs.length)->bP (tgN 0) (nX cH) (nX (dMe "Tree" "step_up" (λds=>noX (dI ds)) (ac 1) (ae (ac 0) ai))) (bm L) [x,.vl X]=M.ret (L.map (suD E s))
 | [],x,_=>rfl
 | q::L,x,h=>ck (δ':=[.vl (.int (q:Int)),.vl X]) rfl (cL T nf_up (aa rfl) (ad (aa rfl) af) (sup_ev T (h q ο).1 (h q ο).2)) (uJ T L _ λy hy=>h y (ι _ hy))
theorem uS(L:List Nat):aN (L.map (sdD E s))=true:=by
 induction L with
 | nil=>rfl
 | cons a L ih=>exact ih
theorem uK(L:List Nat):aN (L.map (suD E s))=true:=by
 induction L with
 | nil=>rfl
 | cons a L ih=>exact ih
abbrev mdE(k:Nat)(a2:D)(mo:Bool)(tl hd tp:Nat)(h7 h8:Nat)(A:Int)(lv:D)(x11:Option Val):aw:=[some (.h 0),some (.d (.int (k:Int))),some (.d a2),some (.d (.bool mo)),some (.d (.int (tl:Int))),some (.d (.int (hd:Int))),some (.d (.int (tp:Int))),some (.h h7),some (.h h8),some (.d (.int A)),some (.d lv),x11]
noncomputable def lvT(l0:D)(e:Nat):Option Nat->D
 | none=>l0
 | some x=>.tuple [.int (x:Int),.int (e:Int)]
theorem oq(P:Rp E s μ)(g7:μ[h7]?=some (.lst xs)):∀(L:List Nat) (A:Int) (l:Option Nat) (x11:Option Val),(∀q∈L,s.t.hk q<E.rs.length/\(if decide ((E.r (s.t.hk q)).hi=q)=true then E.bd (s.t.hk q)-s.fl (s.t.hk q) else s.fl (s.t.hk q))=rm q)->∃y11,dv h7 xs (agN 11) (ee N) (L.map (sdD E s)) (mdE k a2 mo tl hd tp h7 h8 A (lvT l0 tl l) x11) μ=R.ret (.nx (mdE k a2 mo tl hd tp h7 h8 (TR.chD rm L A l).1 (lvT l0 tl (TR.chD rm L A l).2) y11) μ)
 | [],A,l,x11,_=>⟨x11,kB g7⟩
 | q::L,A,l,x11,h=>by
  obtain⟨X,hX,T⟩:=P.tf
  obtain⟨hk,hr⟩:=h q ο
  have hro:=uU T hk (.int (q:Int)) (decide ((E.r (s.t.hk q)).hi=q))
  rw[hr] at hro
  have hro:cF [X,sdD E s q]=M.ret (.int (rm q)):=hro
  have hL:=λy hy=>h y (ι _ hy)
  by_cases c:rm q<A
  ·obtain⟨y11,e⟩:=oq P g7 (rm:=rm) (l0:=l0) L (rm q) (some q) (some (.d (sdD E s q))) hL
   refine⟨y11,?_⟩
   rw[TR.chD,if_pos c,Θ]
   refine fS (δ1:=mdE k a2 mo tl hd tp h7 h8 A (lvT l0 tl l) (some (.d (sdD E s q)))) (δ':=mdE k a2 mo tl hd tp h7 h8 (rm q) (lvT l0 tl (some q)) (some (.d (sdD E s q)))) g7 rfl ?_ e
   unfold ee
   refine iH (j8 (aC (ag (cL T kq (ak rfl hX) (ad (ak rfl aZ) af) hro) (ak rfl aZ) nZ))) (pQ c ?_)
   refine aB (bw (b8 (cL T kq (ak rfl hX) (ad (ak rfl aZ) af) hro) rfl)) ?_
   exact bw (bS (eV (ad (ag (x:=sdD E s q) (aa rfl) aj rfl) (ad (aa rfl) af)) rfl))
  ·obtain⟨y11,e⟩:=oq P g7 (rm:=rm) (l0:=l0) L A l (some (.d (sdD E s q))) hL
   refine⟨y11,?_⟩
   rw[TR.chD,if_neg c,Θ]
   refine fS (δ1:=mdE k a2 mo tl hd tp h7 h8 A (lvT l0 tl l) (some (.d (sdD E s q)))) (δ':=mdE k a2 mo tl hd tp h7 h8 A (lvT l0 tl l) (some (.d (sdD E s q)))) g7 rfl ?_ e
   unfold ee
   exact iH (j8 (aC (ag (cL T kq (ak rfl hX) (ad (ak rfl aZ) af) hro) (ak rfl aZ) nZ))) (ox c rfl)
theorem oj(P:Rp E s μ)(g8:μ[h8]?=some (.lst xs)):∀(L:List Nat) (A:Int) (l:Option Nat) (x11:Option Val),(∀q∈L,s.t.hk q<E.rs.length/\(if decide ((E.r (s.t.hk q)).lo=q)=true then E.bd (s.t.hk q)-s.fl (s.t.hk q) else s.fl (s.t.hk q))=rm q)->∃y11,dv h8 xs (agN 11) (ed N) (L.map (suD E s)) (mdE k a2 mo tl hd tp h7 h8 A (lvT l0 hd l) x11) μ=R.ret (.nx (mdE k a2 mo tl hd tp h7 h8 (TR.chU rm L A l).1 (lvT l0 hd (TR.chU rm L A l).2) y11) μ)
 | [],A,l,x11,_=>⟨x11,kB g8⟩
 | q::L,A,l,x11,h=>by
  obtain⟨X,hX,T⟩:=P.tf
  obtain⟨hk,hr⟩:=h q ο
  have hro:=uU T hk (.int (q:Int)) (decide ((E.r (s.t.hk q)).lo=q))
  rw[hr] at hro
  have hro:cF [X,suD E s q]=M.ret (.int (rm q)):=hro
  have hL:=λy hy=>h y (ι _ hy)
  have oleD:∀a b:Int,wz (.int a) (.int b)=some (.bool (decide (a<=b))):=λ_ _=>rfl
  by_cases c:rm q<=A
  ·obtain⟨y11,e⟩:=oj P g8 (rm:=rm) (l0:=l0) L (rm q) (some q) (some (.d (suD E s q))) hL
   refine⟨y11,?_⟩
   rw[TR.chU,if_pos c,Θ]
   refine fS (δ1:=mdE k a2 mo tl hd tp h7 h8 A (lvT l0 hd l) (some (.d (suD E s q)))) (δ':=mdE k a2 mo tl hd tp h7 h8 (rm q) (lvT l0 hd (some q)) (some (.d (suD E s q)))) g8 rfl ?_ e
   unfold ed
   refine iH (j8 (aC (ag (cL T kq (ak rfl hX) (ad (ak rfl aZ) af) hro) (ak rfl aZ) (oleD _ _)))) (pQ c ?_)
   refine aB (bw (b8 (cL T kq (ak rfl hX) (ad (ak rfl aZ) af) hro) rfl)) ?_
   exact bw (bS (eV (ad (ag (x:=suD E s q) (aa rfl) aj rfl) (ad (aa rfl) af)) rfl))
  ·obtain⟨y11,e⟩:=oj P g8 (rm:=rm) (l0:=l0) L A l (some (.d (suD E s q))) hL
   refine⟨y11,?_⟩
   rw[TR.chU,if_neg c,Θ]
   refine fS (δ1:=mdE k a2 mo tl hd tp h7 h8 A (lvT l0 hd l) (some (.d (suD E s q)))) (δ':=mdE k a2 mo tl hd tp h7 h8 A (lvT l0 hd l) (some (.d (suD E s q)))) g8 rfl ?_ e
   unfold ed
   exact iH (j8 (aC (ag (cL T kq (ak rfl hX) (ad (ak rfl aZ) af) hro) (ak rfl aZ) (oleD _ _)))) (ox c rfl)
noncomputable def spD(x:D×Nat×Bool):D:=.tuple [x.1,.int (x.2.1:Int),.bool x.2.2]
theorem sD(hhp:11+E.n<=hp):∀(L:List (D×Nat×Bool)) (s:TR.St) (μ:Sto) (x11:Option Val),Rp E s μ->μ[hp]?=some (.lst xs)->(∀x∈L,x.2.1<E.rs.length)->∃y11 μ2,dv hp xs (agN 11) (gf N) (L.map spD) (mdE k a2 mo tl hd tp h7 h8 A lv x11) μ=R.ret (.nx (mdE k a2 mo tl hd tp h7 h8 A lv y11) μ2)/\Rp E { s with fl:=TR.push A (L.map Prod.snd) s.fl } μ2
 | [],s,μ,x11,P,g,_=>⟨x11,μ,kB g,P⟩
 | (x,j,b)::L,s,μ,x11,P,g,h=>by
  have hj:j<E.rs.length:=h (x,j,b) ο
  have P1:=P.fl (TR.put s.fl j (s.fl j+TR.sg A b))
  obtain⟨y11,μ2,e,P2⟩:=sD hhp (A:=A) (lv:=lv) L _ _ (some (.d (spD (x,j,b)))) P1 (by rw[av (by omega)];exact g) λy hy=>h y (ι _ hy)
  refine⟨y11,μ2,?_,P2⟩
  rw[Θ]
  refine fS (δ1:=mdE k a2 mo tl hd tp h7 h8 A lv (some (.d (spD (x,j,b))))) (δ':=mdE k a2 mo tl hd tp h7 h8 A lv (some (.d (spD (x,j,b))))) g rfl ?_ e
  unfold gf
  have:=vN (h:=λi j=>i+j) (n:=N) (fo:=sAt "Tree" "flow" (aQ 0)) (fi:=cf (d2 oIx (ac 11) (dC (.int 1)))) (f:=cf (dIf (dB (d2 oIx (ac 11) (dC (.int 2)))) (ac 9) (d1 mR (ac 9)))) (δ:=mdE k a2 mo tl hd tp h7 h8 A lv (some (.d (spD (x,j,b))))) (i:=(j:Int)) (m:=TR.sg A b) (qV P rfl lk_flow) (bS (ag (x:=spD (x,j,b)) (aa rfl) aj rfl)) P.h2 (uC (k:=j) (v:=Val.d (.int (s.fl j))) (by rw[Λ,tR hj];rfl)) (bS (kR (aC (ag (x:=spD (x,j,b)) (aa rfl) aj (rfl:oIx (spD (x,j,b)) (.int 2)=some (.bool b)))) (by
   cases b with
   | true=>exact b7 rfl (aa rfl)
   | false=>exact iF rfl (cm (aa rfl) rfl)))) P.h2 (j:=j) (by rw[θ,tQ];exact ma hj)
  rw[this,vset,uY]
end
section
theorem oJ:∀{a b:List D},aN a=true->aN b=true->aN (a++b)=true
 | [],_,_,h=>h
 | x::a,b,h1,h2=>by
  have h1:(bL x&&aN a)=true:=h1
  rw[Z5] at h1
  show(bL x&&aN (a++b))=true
  rw[h1.1,oJ h1.2 h2]
  rfl
theorem mend_ev(I:TR.Inv E.net s)(w:TR.Wr E.net s k)(P:Rp E s μ)(hP:Pin E)(hf:Fla E)(hn:E.n<=900):∃s2 μ2,gV [.h 0,.d (.int (k:Int))] μ=R.ret (.d .none,μ2)/\Rp E s2 μ2/\TR.Inv E.net s2/\TR.xf E.net s2 s:=by
 have hk:k<E.rs.length:=w.1
 obtain⟨p1,p2⟩:=hP k hk
 have Tr:TR.Tree E.n s.t.ov s.dp:=I.tr
 obtain⟨tl,htl⟩:∃tl,tl=TR.tl E.net s k:=⟨_,rfl⟩
 obtain⟨hd,hhd⟩:∃hd,hd=TR.hd E.net s k:=⟨_,rfl⟩
 obtain⟨mo,hmo⟩:∃mo,mo=TR.more E.net s k:=⟨_,rfl⟩
 have ltl:tl<=E.n:=by
  rw[htl]
  unfold TR.tl
  show(if _ then (E.r k).lo else (E.r k).hi)<=E.n
  split<;>assumption
 have lhd:hd<=E.n:=by
  rw[hhd]
  unfold TR.hd
  show(if _ then (E.r k).hi else (E.r k).lo)<=E.n
  split<;>assumption
 obtain⟨t,hm⟩:=Tr.meet _ tl hd (υ _) ltl lhd
 obtain⟨a,b,Me⟩:=Tr.met hm ltl lhd
 have MM:=I.mend w (show TR.tl E.net s k<=E.net.n by rw[<-htl];exact ltl) (show TR.hd E.net s k<=E.net.n by rw[<-hhd];exact lhd) (by rw[<-htl,<-hhd];exact Me)
 rw[<-htl,<-hhd] at MM
 have hD:∀q∈TR.ay s.t.ov a tl,q<E.n:=λq hq=>(Tr.inway ltl Me.la hq).1
 have hU:∀q∈TR.ay s.t.ov b hd,q<E.n:=λq hq=>(Tr.inway lhd Me.lb hq).1
 have hh:∀q,q<E.n->s.t.hk q<E.rs.length:=λq hq=>(I.jn q hq).1
 have rD:∀q∈TR.ay s.t.ov a tl,s.t.hk q<E.rs.length/\(if decide ((E.r (s.t.hk q)).hi=q)=true then E.bd (s.t.hk q)-s.fl (s.t.hk q) else s.fl (s.t.hk q))=TR.rmD E.net s q:=λq hq=>by
  refine⟨hh q (hD q hq),?_⟩
  have hne:=I.ne (hD q hq)
  unfold TR.rmD TR.room
  show _=(if (E.r (s.t.hk q)).lo=s.t.ov q then _ else _)
  rcases (I.jn q (hD q hq)).2 with ⟨z1,z2⟩ | ⟨z1,z2⟩
  ·have z1:(E.r (s.t.hk q)).lo=q:=z1
   have z2:(E.r (s.t.hk q)).hi=s.t.ov q:=z2
   rw[decide_eq_false (by rw[z2];exact λz=>hne z.symm),if_neg ω,if_neg (by rw[z1];exact hne)]
  ·have z1:(E.r (s.t.hk q)).hi=q:=z1
   have z2:(E.r (s.t.hk q)).lo=s.t.ov q:=z2
   rw[decide_eq_true z1,if_pos rfl,if_pos z2]
   rfl
 have rU:∀q∈TR.ay s.t.ov b hd,s.t.hk q<E.rs.length/\(if decide ((E.r (s.t.hk q)).lo=q)=true then E.bd (s.t.hk q)-s.fl (s.t.hk q) else s.fl (s.t.hk q))=TR.rmU E.net s q:=λq hq=>by
  refine⟨hh q (hU q hq),?_⟩
  unfold TR.rmU TR.room
  show _=(if (E.r (s.t.hk q)).lo=q then _ else _)
  by_cases z:(E.r (s.t.hk q)).lo=q
  ·rw[decide_eq_true z,if_pos rfl,if_pos z]
   rfl
  ·rw[decide_eq_false z,if_neg ω,if_neg z]
 have la:a<=900:=by have:=Tr.dp_le ltl;have:=Me.la;omega
 have lb:b<=900:=by have:=Tr.dp_le lhd;have:=Me.lb;omega
 obtain⟨X,hX,T⟩:=P.tf
 have hl:=P.len
 obtain⟨Dl,hDl⟩:∃Dl,Dl=TR.ay s.t.ov a tl:=⟨_,rfl⟩
 obtain⟨Ul,hUl⟩:∃Ul,Ul=TR.ay s.t.ov b hd:=⟨_,rfl⟩
 have lD:Dl.length<=900:=by rw[hDl,TR.je];exact la
 have lU:Ul.length<=900:=by rw[hUl,TR.je];exact lb
 have w1:=tG T Tr ltl Me.la hn Me.ta
 have w2:=tG T Tr lhd Me.lb hn Me.tb
 rw[<-hDl] at w1 rD hD
 rw[<-hUl] at w2 rU hU
 obtain⟨μ1,h1⟩:∃μ1,μ1=μ++[vls (Dl.map (sdD E s))]:=⟨_,rfl⟩
 have P1:Rp E s μ1:=by rw[h1];exact P.app _
 have m1:μ1.length=μ.length+1:=by rw[h1,η];rfl
 have g1:μ1[μ.length]?=some (vls (Dl.map (sdD E s))):=by rw[h1,χ (υ _),X0];rfl
 obtain⟨X1,hX1,T1⟩:=P1.tf
 have w2:=tG T1 Tr lhd Me.lb hn Me.tb
 rw[<-hUl] at w2
 obtain⟨μ2,h2⟩:∃μ2,μ2=μ1++[vls (Ul.map (suD E s))]:=⟨_,rfl⟩
 have P2:Rp E s μ2:=by rw[h2];exact P1.app _
 have m2:μ2.length=μ.length+2:=by rw[h2,η,m1];rfl
 have g2:μ2[μ.length+1]?=some (vls (Ul.map (suD E s))):=by rw[h2,<-m1,χ (υ _),X0];rfl
 have g21:μ2[μ.length]?=some (vls (Dl.map (sdD E s))):=by rw[h2,ξ (by omega)];exact g1
 obtain⟨X2,hX2,T2⟩:=P2.tf
 obtain⟨A1,l1,c1⟩:∃A1 l1,TR.chD (TR.rmD E.net s) Dl (E.bd k) none=(A1,l1):=⟨_,_,rfl⟩
 obtain⟨A,l2,c2⟩:∃A l2,TR.chU (TR.rmU E.net s) Ul A1 none=(A,l2):=⟨_,_,rfl⟩
 obtain⟨y,e1⟩:=oq (k:=k) (tl:=tl) (hd:=hd) (tp:=t) (h7:=μ.length) (h8:=μ.length+1) (N:=μ.length) (a2:=rl (E.r k)) (mo:=mo) P2 g21 (rm:=TR.rmD E.net s) (l0:=.none) Dl (E.bd k) none none rD
 obtain⟨y',e2⟩:=oj (k:=k) (tl:=tl) (hd:=hd) (tp:=t) (h7:=μ.length) (h8:=μ.length+1) (N:=μ.length) (a2:=rl (E.r k)) (mo:=mo) P2 g2 (rm:=TR.rmU E.net s) (l0:=lvT .none tl l1) Ul A1 none y rU
 rw[c1] at e1
 rw[c2] at e2
 obtain⟨L,hL⟩:∃L:List (D×Nat×Bool),L=(.none,k,mo)::(Dl.map (λq:Nat=>(ε (q:Int),TR.dnS E.net s.t.hk q))++Ul.map (λq:Nat=>(ε (q:Int),TR.upS E.net s.t.hk q))):=⟨_,rfl⟩
 have hLs:L.map spD=([.tuple [.none,.int (k:Int),.bool mo]]++Dl.map (sdD E s))++Ul.map (suD E s):=by
  rw[hL,Θ,Y4,Y5,Y5]
  rfl
 have hLp:L.map Prod.snd=TR.ring E.net s k a b:=by
  rw[hL,Θ,Y4,Y5,Y5,hDl,hUl,htl,hhd,hmo]
  rfl
 have hLm:∀x∈L,x.2.1<E.rs.length:=λx hx=>by
  rw[hL] at hx
  rcases Γ.mp hx with rfl | hx
  ·exact hk
  ·rcases Z7.mp hx with hx | hx
   ·obtain⟨q,hq,rfl⟩:=W8.mp hx
    exact hh q (hD q hq)
   ·obtain⟨q,hq,rfl⟩:=W8.mp hx
    exact hh q (hU q hq)
 obtain⟨μ3,h3⟩:∃μ3,μ3=μ2++[vls (L.map spD)]:=⟨_,rfl⟩
 have P3:Rp E s μ3:=by rw[h3];exact P2.app _
 have g3:μ3[μ.length+2]?=some (vls (L.map spD)):=by rw[h3,<-m2,χ (υ _),X0];rfl
 obtain⟨lv,hlv⟩:∃lv,lv=lvT (lvT .none tl l1) hd l2:=⟨_,rfl⟩
 obtain⟨y3,μ4,e3,P4⟩:=sD (E:=E) (k:=k) (tl:=tl) (hd:=hd) (tp:=t) (h7:=μ.length) (h8:=μ.length+1) (N:=μ.length) (a2:=rl (E.r k)) (mo:=mo) (hp:=μ.length+2) (A:=A) (lv:=lv) (by omega) L s μ3 y' P3 g3 hLm
 rw[hLp] at P4
 have fin:∃s2 μ5 δ5,(sIf (iC (dB (d2 eM (ac 10) (dC .none)))) (iX (lj "Tree" "hang" dQ (aQ 0) (cx (cf (d2 oIx (ac 10) (dC (.int 0)))) (cx (cf (d2 oIx (ac 10) (dC (.int 1)))) (cx (aQ 1) jh))))) jO) μ.length (mdE k (rl (E.r k)) mo tl hd t μ.length (μ.length+1) A lv y3) μ4=R.ret (.nx δ5 μ5)/\Rp E s2 μ5/\TR.Inv E.net s2/\TR.xf E.net s2 s:=by
  have hang:∀{i p q:Nat},lv=.tuple [.int (TR.upN s.t.ov i p:Int),.int (p:Int)]->TR.Hg E.net s k i p q (TR.push A (TR.ring E.net s k a b) s.fl)->(TR.wo E.net s.fl<TR.wo E.net (TR.push A (TR.ring E.net s k a b) s.fl)\/(TR.wo E.net s.fl<=TR.wo E.net (TR.push A (TR.ring E.net s k a b) s.fl)/\TR.dlt E.net s k p<0))->∃s2 μ5 δ5,(sIf (iC (dB (d2 eM (ac 10) (dC .none)))) (iX (lj "Tree" "hang" dQ (aQ 0) (cx (cf (d2 oIx (ac 10) (dC (.int 0)))) (cx (cf (d2 oIx (ac 10) (dC (.int 1)))) (cx (aQ 1) jh))))) jO) μ.length (mdE k (rl (E.r k)) mo tl hd t μ.length (μ.length+1) A lv y3) μ4=R.ret (.nx δ5 μ5)/\Rp E s2 μ5/\TR.Inv E.net s2/\TR.xf E.net s2 s:=by
   intro i p q hlv2 hg hle
   obtain⟨μ5,d,e5,P5,I5,hp⟩:=hang_ev I hg P4 hP hf hn
   refine⟨_,μ5,mdE k (rl (E.r k)) mo tl hd t μ.length (μ.length+1) A lv y3,?_,P5,I5,?_⟩
   ·rw[hlv2]
    refine iH (b:=true) (eh (aC (ag (x:=.tuple [.int (TR.upN s.t.ov i p:Int),.int (p:Int)]) (aa rfl) aj rfl))) (b7 rfl ?_)
    exact jz (mq (aR rfl) P4.h0 rfl (cJ (bS (ag (x:=.tuple [.int (TR.upN s.t.ov i p:Int),.int (p:Int)]) (aa rfl) aj rfl)) (cJ (bS (ag (x:=.tuple [.int (TR.upN s.t.ov i p:Int),.int (p:Int)]) (aa rfl) aj rfl)) (cJ (aR rfl) ip))) e5)
   ·rcases hle with z | ⟨z1,z2⟩
    ·exact TR.qI I5 z
    ·exact TR.less_tm I5 z1 (TR.shf_lt (N:=E.net) hp z2)
  rcases MM with ⟨k1,k2,I5,hw⟩ | ⟨i,A',hi,k1,k2,hg,hw,hdl⟩ | ⟨i,A',A1',l1',hi,k1,k2,hg,hw⟩
  ·rw[<-hDl] at k1
   rw[<-hUl] at k2
   have k1:TR.chD (TR.rmD E.net s) Dl (E.bd k) none=(E.bd k,none):=k1
   have k2:TR.chU (TR.rmU E.net s) Ul (E.bd k) none=(E.bd k,none):=k2
   rw[c1] at k1
   cases k1
   rw[c2] at k2
   cases k2
   refine⟨_,μ4,mdE k (rl (E.r k)) mo tl hd t μ.length (μ.length+1) (E.bd k) lv y3,?_,P4,I5,TR.qI I5 hw⟩
   rw[hlv]
   exact iH (b:=false) (eh (aC (ag (x:=.none) (aa rfl) aj rfl))) (iF rfl rfl)
  ·rw[<-hDl] at k1
   rw[<-hUl] at k2
   have k1:TR.chD (TR.rmD E.net s) Dl (E.bd k) none=(A',some (TR.upN s.t.ov i tl)):=k1
   rw[c1] at k1
   cases k1
   rw[c2] at k2
   cases k2
   exact hang hlv hg (.inr ⟨hw,hdl⟩)
  ·rw[<-hDl] at k1
   rw[<-hUl] at k2
   have k1:TR.chD (TR.rmD E.net s) Dl (E.bd k) none=(A1',l1'):=k1
   rw[c1] at k1
   cases k1
   rw[c2] at k2
   cases k2
   exact hang hlv hg (.inl hw)
 obtain⟨s2,μ5,δ5,e5,P5,I5,hls⟩:=fin
 refine⟨s2,μ5,?_,P5,I5,hls⟩
 refine lG (δ:=δ5) ?_
 unfold j0
 have hlk:=qK T hP hk
 have e_tl:∀{δ:DS},ac 3 δ=M.ret (.bool mo)->ac 2 δ=M.ret (rl (E.r k))->dIf (dB (ac 3)) (d2 oIx (ac 2) (dC (.int 0))) (d2 oIx (ac 2) (dC (.int 1))) δ=M.ret (.int (tl:Int)):=λ{δ} d3 d2'=>by
  refine kR (aC d3) ?_
  rw[htl,hmo]
  unfold TR.tl
  cases TR.more E.net s k with
  | true=>exact b7 rfl (ag d2' aj (fQ _))
  | false=>exact iF rfl (ag d2' aj (eN _))
 have e_hd:∀{δ:DS},ac 3 δ=M.ret (.bool mo)->ac 2 δ=M.ret (rl (E.r k))->dIf (dB (ac 3)) (d2 oIx (ac 2) (dC (.int 1))) (d2 oIx (ac 2) (dC (.int 0))) δ=M.ret (.int (hd:Int)):=λ{δ} d3 d2'=>by
  refine kR (aC d3) ?_
  rw[hhd,hmo]
  unfold TR.hd
  cases TR.more E.net s k with
  | true=>exact b7 rfl (ag d2' aj (eN _))
  | false=>exact iF rfl (ag d2' aj (fQ _))
 refine aB (bw (b8 (ag (cm (ak rfl hX) T.rules) (ak rfl aZ) (sG hk)) (hf k hk))) ?_
 refine aB (bw (v:=.d (.bool mo)) (b8 (by rw[hmo];exact ag (cL T m5 (ak rfl hX) (ad (ak rfl aZ) af) hlk) aj mP) rfl)) ?_
 refine aB (bw (bS (e_tl (aa rfl) (aa rfl)))) ?_
 refine aB (bw (bS (e_hd (aa rfl) (aa rfl)))) ?_
 refine aB (bw (b8 (cL T t9 (ak rfl hX) (ad (ak rfl aZ) (ad (ak rfl aZ) af)) (ua T Tr hm ltl lhd)) rfl)) ?_
 refine aB (bw (j9 (ds:=Dl.map (sdD E s)) (bO (ds:=bm Dl) (cM (cL T t8 (ak rfl hX) (ad (ak rfl aZ) (ad (ak rfl aZ) af)) w1) rfl) (ax (by rw[hV];omega)) ?_) (uS Dl))) ?_
 ·show bP _ _ _ _ [Sl.un,_]=_
  rw[uP rfl hX]
  exact vP T Dl _ λq hq=>⟨hD q hq,hh q (hD q hq)⟩
 rw[show μ++[Ob.lst ((Dl.map (sdD E s)).map Val.d)]=μ1 from h1.symm]
 refine aB (bw (j9 (ds:=Ul.map (suD E s)) (bO (ds:=bm Ul) (cM (cL T1 t8 (ak rfl hX1) (ad (ak rfl aZ) (ad (ak rfl aZ) af)) w2) rfl) (ax (by rw[hV];omega)) ?_) (uK Ul))) ?_
 ·show bP _ _ _ _ [Sl.un,_]=_
  rw[uP rfl hX1]
  exact uJ T1 Ul _ λq hq=>⟨hU q hq,hh q (hU q hq)⟩
 rw[show μ1++[Ob.lst ((Ul.map (suD E s)).map Val.d)]=μ2 from h2.symm,m1]
 refine aB (bw (b8 (ag (cm (ak rfl hX2) T2.bounds) (ak rfl aZ) (dU hk)) rfl)) ?_
 refine aB (bw (bS aj)) ?_
 refine aB (lH (ds:=Dl.map (sdD E s)) (aR rfl) g21 e1) ?_
 refine aB (lH (ds:=Ul.map (suD E s)) (aR rfl) g2 e2) ?_
 rw[<-hlv]
 refine aB (lH (ds:=L.map spD) (μ':=μ3) ?_ g3 e3) e5
 have hnew:=gK (δ:=mdE k (rl (E.r k)) mo tl hd t μ.length (μ.length+1) A lv y') (μ:=μ2) (fn:=jW (gp (jW (gp (cr (ae (gz (ae (dC .none) (ae (ac 1) (ae (ac 3) ai)))) ai))) (ac 7))) (ac 8)) (ds:=([.tuple [.none,.int (k:Int),.bool mo]]++Dl.map (sdD E s))++Ul.map (suD E s)) (gJ (eE (gJ (eE (bI (ad (eV (ad aj (ad (ak rfl aZ) (ad (ak rfl aZ) af))) rfl) af) rfl)) (ak rfl (cG g21)) (ax (by rw[θ];show 1+Dl.length<=_;omega)))) (ak rfl (cG g2)) (ax (by rw[η,θ,θ];show 1+Dl.length+Ul.length<=_;omega))) (oJ (oJ rfl (uS Dl)) (uK Ul))
 rw[hnew,<-hLs,m2,h3]
end
section
theorem wc:gv "begin" (.d (.int 0)) (tfs E)=tfs E:=rfl
theorem kN(P:Rp E s μ)(hP:Pin E)(hm:E.m<=E.rs.length)(h50:E.m<50):∃(w:Option Nat) (μ2:Sto),cq [.h 0] μ=R.ret (.d (zd w),μ2)/\Rp E s μ2/\(w=none->∀k,k<E.m->¬TR.Wr E.net s k)/\(∀k,w=some k->TR.Wr E.net s k):=by
 obtain⟨X,hX,T⟩:=P.tf
 obtain⟨w,hw,w1,w2⟩:=xj T hP hm (by omega)
 have hmin:min (0+50:Int) (E.m:Int)=(E.m:Int):=by omega
 have hP2:Rp E s (μ.set 0 (.ins "Tree" (tfs E))):=P.keep λi hi=>by
  by_cases e:i=0
  ·subst e
   rw[cw (by have:=P.len;omega)]
   exact P.h0.symm
  ·exact av (λz=>e z.symm)
 have hdiv:((E.m:Int) / 50+1)=1:=by omega
 have hbody:cK μ.length [some (.h 0),some (.d (.int 0)),none,none] μ=(match w with
   | some k=>R.ret (.rt (.d (.int (k:Int))) (μ.set 0 (.ins "Tree" (tfs E))))
   | none=>R.ret (.nx [some (.h 0),some (.d (.int 0)),some (.d (.int (E.m:Int))),some (.d .none)] (μ.set 0 (.ins "Tree" (tfs E))))):=by
  unfold cK
  refine aB (bw (v:=.d (.int (E.m:Int))) (b8 (bt (ad (ag (cm (ak rfl hX) T.begin_) aj cu) (ad (cm (ak rfl hX) T.many) af)) (o_min.trans (congrArg (λx=>some (ε x)) hmin))) rfl)) ?_
  refine aB (bw (v:=.d (zd w)) (b8 (cL T nf_worst (ak rfl hX) (ad (cm (ak rfl hX) T.begin_) (ad (ak rfl aZ) af)) hw) (by cases w<;>rfl))) ?_
  refine aB (dw (v:=.d (.int 0)) (b8 (kR (aC (ag (ak rfl aZ) (cm (ak rfl hX) T.many) nZ)) (ox (Int.lt_irrefl _) aj)) rfl) (aR rfl) P.h0 (by show(10:Nat)<1000;omega)) ?_
  rw[wc]
  cases w with
  | none=>exact iH (b:=false) (eh (aC (ag (x:=.none) (aa rfl) aj rfl))) (iF rfl rfl)
  | some k=>exact iH (b:=true) (eh (aC (ag (x:=.int (k:Int)) (aa rfl) aj rfl))) (b7 rfl (qU (aR rfl)))
 refine⟨w,μ.set 0 (.ins "Tree" (tfs E)),?_,hP2,w1,λk hk=>(w2 k hk).2⟩
 refine oO ?_
 unfold eR
 have hr:gY [.int ((E.m:Int) / 50+1)]=some [.int 0]:=by rw[hdiv];rfl
 have hfa:ae (d2 bg (d2 qF (d1 (aY "Tree" "many") (ac 0)) (dC (.int 50))) (dC (.int 1))) ai (viewN 4 μ (jf 4 [.h 0]))=M.ret [.int ((E.m:Int) / 50+1)]:=ad (ag (ag (cm (ak rfl hX) T.many) aj (o_div (rE (by omega) (by omega)))) aj cu) af
 cases w with
 | some k=>exact qT (vM hfa hr (sL (δ1:=[some (.h 0),some (.d (.int 0)),none,none]) rfl hbody))
 | none=>exact aB (vM hfa hr (ml (δ1:=[some (.h 0),some (.d (.int 0)),none,none]) rfl hbody rfl)) (qU (bS aj))
theorem vZ(P:Rp E s μ)(I:TR.Inv E.net s)(hP:Pin E)(hf:Fla E)(hm:E.m<=E.rs.length)(h50:E.m<50)(hn:E.n<=900):∃s2 μ2,fG [.h 0] μ=R.ret (.d .none,μ2)/\Rp E s2 μ2/\TR.Inv E.net s2/\∀k,k<E.m->¬TR.Wr E.net s2 k:=by
 have main:∀s:TR.St,∀(μ:Sto) (w:Option Nat) (N:Nat),Rp E s μ->TR.Inv E.net s->(w=none->∀k,k<E.m->¬TR.Wr E.net s k)->(∀k,w=some k->TR.Wr E.net s k)->∃s2 μ2,dZ (iC (dB (d2 eM (ac 1) (dC .none)))) de N [some (.h 0),some (.d (zd w))] μ=R.ret (.nx [some (.h 0),some (.d .none)] μ2)/\Rp E s2 μ2/\TR.Inv E.net s2/\∀k,k<E.m->¬TR.Wr E.net s2 k:=by
  intro s
  refine(TR.less_wf E.net).induction (C:=λs=>∀(μ:Sto) (w:Option Nat) (N:Nat),Rp E s μ->TR.Inv E.net s->(w=none->∀k,k<E.m->¬TR.Wr E.net s k)->(∀k,w=some k->TR.Wr E.net s k)->∃s2 μ2,dZ (iC (dB (d2 eM (ac 1) (dC .none)))) de N [some (.h 0),some (.d (zd w))] μ=R.ret (.nx [some (.h 0),some (.d .none)] μ2)/\Rp E s2 μ2/\TR.Inv E.net s2/\∀k,k<E.m->¬TR.Wr E.net s2 k) s ?_
  intro s ih μ w N P I h1 h2
  cases w with
  | none=>exact⟨s,μ,es_whf (eh (aC (ag (x:=.none) (aa rfl) aj rfl))),P,I,h1 rfl⟩
  | some k =>
   obtain⟨s1,μ1,e1,P1,I1,l1⟩:=mend_ev I (h2 k rfl) P hP hf hn
   obtain⟨w',μ2,e2,P2,w1,w2⟩:=kN P1 hP hm h50
   obtain⟨s3,μ3,e3,P3,I3,h3⟩:=ih s1 l1 μ2 w' N P2 I1 w1 w2
   refine⟨s3,μ3,es_wht (eh (aC (ag (x:=.int (k:Int)) (aa rfl) aj rfl))) ?_ e3,P3,I3,h3⟩
   unfold de
   exact aB (jz (mq (aR rfl) P.h0 rfl (cJ (aR rfl) ip) e1)) (bw (mq (aR rfl) P1.h0 rfl ip e2))
 obtain⟨w,μ1,e1,P1,w1,w2⟩:=kN P hP hm h50
 obtain⟨s2,μ2,e2,P2,I2,h2⟩:=main s μ1 w μ.length P1 I w1 w2
 refine⟨s2,μ2,lG (δ:=[some (.h 0),some (.d .none)]) ?_,P2,I2,h2⟩
 unfold iS
 exact aB (bw (mq (aR rfl) P.h0 rfl ip e1)) e2
end
noncomputable def rN(n:Nat):Nat->List Int->List Rl
 | _,[]=>[]
 | i,t::q=>⟨i,n,-t,none,.tuple []⟩::rN n (i+1) q
noncomputable def wts:List Rl->List Int
 | []=>[]
 | r::rs=>match r.w with
  | none=>wts rs
  | some w=>w::wts rs
noncomputable def bdr(tt:Int)(r:Rl):Int:=match r.w with
 | none=>tt+1
 | some w=>w
noncomputable def ffr(r:Rl):Int:=if r.lo=r.hi/\0<r.le then r.w.getD 0 else 0
noncomputable def aW(T:List Int)(rs:List Rl):List Rl:=rs++rN T.length 0 T
noncomputable def Eo(T:List Int)(rs:List Rl):Tn:=⟨T.length,rs.length,aW T rs,λk=>bdr (wts rs).sum ((aW T rs).getD k r0)⟩
noncomputable def so(T:List Int)(rs:List Rl):TR.St:=⟨λk=>ffr ((aW T rs).getD k r0),λp=>T.getD p 0,⟨λ_=>T.length,λp=>rs.length+p,λq=>if q=T.length then Z3 T.length else []⟩,λp=>if p<T.length then 1 else 0⟩
theorem iV(n:Nat):∀(i:Nat) (q:List Int),(rN n i q).length=q.length
 | _,[]=>rfl
 | i,t::q=>by rw[rN,Φ,iV,Φ]
theorem nA(n:Nat):∀(i:Nat) (q:List Int) (p:Nat),p<q.length->(rN n i q).getD p r0=⟨i+p,n,-q.getD p 0,none,.tuple []⟩
 | i,[],p,h=>absurd h (X6 _)
 | i,t::q,0,_=>rfl
 | i,t::q,p+1,h=>by
  have:=nA n (i+1) q p (by simpa using h)
  rw[rN,List.getD_cons_succ,this,List.getD_cons_succ,show i+1+p=i+(p+1) by omega]
theorem rO(n:Nat):∀(q:List Int) (i:Nat) (x y:Sl),bP (dR 2 (aU (tgN 0) (aU (tgN 1) dS))) (nX cH) (nX (gz (ae (ac 0) (ae (ac 2) (ae (d1 mR (ac 1)) (ae (dC .none) (ae (gz ai) ai))))))) (b5 i (q.map ε)) [x,y,.vl (.int (n:Int))]=M.ret ((rN n i q).map rl)
 | [],i,x,y=>rfl
 | t::q,i,x,y=>ck (δ':=[.vl (.int (i:Int)),.vl (.int t),.vl (.int (n:Int))]) rfl (eV (ad (aa rfl) (ad (aa rfl) (ad (cm (aa rfl) rfl) (ad aj (ad (eV af rfl) af))))) rfl) (rO n q (i+1) _ _)
theorem np:∀(q:List Rl) (x:Sl),bP (tgN 0) (nX (eG (dB (aI (λds=>noX (aP ds)) (ae (ac 0) ai))))) (nX (d2 oIx (ac 0) (dC (.int 3)))) (q.map rl) [x]=M.ret ((wts q).map ε)
 | [],x=>rfl
 | r::q,x=>by
  have hc:eG (dB (aI (λds=>noX (aP ds)) (ae (ac 0) ai))) [.vl (rl r)]=M.ret (!r.w.isNone):=bH (aC (az (ad (aa rfl) af) (ku r)))
  rw[wts,Θ]
  cases hw:r.w with
  | none =>
   rw[hw] at hc
   exact oM (δ':=[.vl (rl r)]) rfl hc (np q _)
  | some w =>
   rw[hw] at hc
   exact oK (δ':=[.vl (rl r)]) rfl hc (ag (aa rfl) aj (by rw[gx,hw];rfl)) (np q _)
theorem vU(tt:Int):∀(q:List Rl) (x:Sl),bP (tgN 0) (nX cH) (nX (dIf (dB (aI (λds=>noX (aP ds)) (ae (ac 0) ai))) (d2 bg (ac 1) (dC (.int 1))) (d2 oIx (ac 0) (dC (.int 3))))) (q.map rl) [x,.vl (.int tt)]=M.ret (q.map λr=>.int (bdr tt r))
 | [],x=>rfl
 | r::q,x=>by
  refine ck (δ':=[.vl (rl r),.vl (.int tt)]) rfl (kR (aC (az (ad (aa rfl) af) (ku r))) ?_) (vU tt q _)
  show _=M.ret (ε (bdr tt r))
  cases hw:r.w with
  | none =>
   rw[show bdr tt r=tt+1 by unfold bdr;rw[hw]]
   exact b7 rfl (ag (aa rfl) aj cu)
  | some w =>
   rw[show bdr tt r=w by unfold bdr;rw[hw]]
   exact iF rfl (ag (aa rfl) aj (by rw[gx,hw];rfl))
theorem ff_ev(h:r.lo=r.hi->0<r.le->r.w≠none):fz [rl r]=M.ret (.int (ffr r)):=by
 refine aE ?_
 unfold jp
 refine aO (kR (uo (aC (ag (ag (aa rfl) aj (fQ r)) (ag (aa rfl) aj (eN r)) mQ)) (aC (ag (ag (aa rfl) aj (k8 r)) aj mP))) ?_)
 unfold ffr
 by_cases c:r.lo=r.hi/\0<r.le
 ·rw[if_pos c]
  refine b7 (by rw[decide_eq_true (by omega:(r.lo:Int)=(r.hi:Int)),decide_eq_true c.2];rfl) (ag (aa rfl) aj ?_)
  rw[gx]
  cases hw:r.w with
  | none=>exact absurd hw (h c.1 c.2)
  | some w=>rfl
 ·rw[if_neg c]
  refine iF ?_ aj
  rw[Bool.and_eq_false_iff,decide_eq_false_iff_not,decide_eq_false_iff_not]
  omega
theorem vE:∀(q:List Rl) (x:Sl),(∀r∈q,r.lo=r.hi->0<r.le->r.w≠none)->bP (tgN 0) (nX cH) (nX (aI (λds=>noX (fz ds)) (ae (ac 0) ai))) (q.map rl) [x]=M.ret (q.map λr=>.int (ffr r))
 | [],x,_=>rfl
 | r::q,x,h=>ck (δ':=[.vl (rl r)]) rfl (az (ad (aa rfl) af) (ff_ev (h r ο))) (vE q _ λy hy=>h y (ι _ hy))
theorem vy(m:Nat)(X:D)(hX:aY "Tree" "many" X=some (.int (m:Int))):∀(n i:Nat) (x:Sl),bP (tgN 0) (nX cH) (nX (d2 bg (d1 (aY "Tree" "many") (ac 1)) (ac 0))) ((U4 i n).map λj:Nat=>ε (j:Int)) [x,.vl X]=M.ret ((U4 i n).map λj:Nat=>ε ((m+j:Nat):Int))
 | 0,i,x=>rfl
 | n+1,i,x=>by
  rw[List.range'_succ,Θ,Θ]
  exact ck (δ':=[.vl (.int (i:Int)),.vl X]) rfl (ag (cm (aa rfl) hX) (aa rfl) cu) (vy m X hX n (i+1) _)
theorem map_rg(l:List Rl)(f:Rl->D):l.map f=rg l.length λk=>f (l.getD k r0):=by
 refine S5 λi=>?_
 unfold rg
 rw[Λ,Λ]
 by_cases h:i<l.length
 ·rw[W0 h,ψ h]
  show some (f l[i])=some (f (l.getD i r0))
  rw[Δ,ψ h]
  rfl
 ·rw[Y9 (by omega),Y9 (by rw[Z9];omega)]
  rfl
theorem ll(n:Nat)(f:Nat->D):rg (n+1) f=rg n f++[f n]:=by
 unfold rg
 rw[List.range_succ,Y4]
 rfl
theorem xN(n:Nat)(d:D):ρ n d=rg n λ_=>d:=by
 refine S5 λi=>?_
 unfold rg
 rw[Λ,X5]
 by_cases h:i<n
 ·rw[if_pos h,W0 h];rfl
 ·rw[if_neg h,Y9 (by rw[Z9];omega)];rfl
theorem ints_rg(T:List Int):T.map ε=rg T.length λp=>.int (T.getD p 0):=by
 refine S5 λi=>?_
 unfold rg
 rw[Λ,Λ]
 by_cases h:i<T.length
 ·rw[W0 h,ψ h]
  show some (ε T[i])=some (.int (T.getD i 0))
  rw[Δ,ψ h]
  rfl
 ·rw[Y9 (by omega),Y9 (by rw[Z9];omega)]
  rfl
theorem rZ(n:Nat):b6 0 n=(U4 0 n).map λj:Nat=>ε (j:Int):=by
 unfold b6
 rw[List.range_eq_range']
 exact V8 λi _=>by rw[Int.zero_add]
theorem lB{α:Type}{f:α->D}(h:∀x,bL (f x)=true):∀l:List α,aN (l.map f)=true
 | []=>rfl
 | x::l=>by
  show(bL (f x)&&aN (l.map f))=true
  rw[h x,lB h l]
  rfl
theorem ko{n:Nat}{f:Nat->D}(h:∀k,bL (f k)=true):aN (rg n f)=true:=lB h _
theorem addR:∀(n:Nat) (hs:List Val) (ν:Sto),k<ν.length->ν[k]?=some (.lst hs)->(et k (ρ n []) hs ν).length=ν.length+n/\(et k (ρ n []) hs ν)[k]?=some (.lst (hs++(U4 ν.length n).map Val.h))/\(∀i,i<n->(et k (ρ n []) hs ν)[ν.length+i]?=some (.lst []))/\∀j,j<ν.length->j≠k->(et k (ρ n []) hs ν)[j]?=ν[j]?
 | 0,hs,ν,hk,h=>⟨rfl,by rw[show U4 ν.length 0=[] from rfl,List.map_nil,Z4];exact h,λi hi=>absurd hi (X6 _),λ_ _ _=>rfl⟩
 | n+1,hs,ν,hk,h=>by
  obtain⟨ν2,h2⟩:∃ν2,ν2=(ν++[Ob.lst (([]:List D).map Val.d)]).set k (.lst (hs++[Val.h ν.length])):=⟨_,rfl⟩
  have l2:ν2.length=ν.length+1:=by rw[h2,Ω,η];rfl
  obtain⟨i1,i2,i3,i4⟩:=addR (k:=k) n (hs++[Val.h ν.length]) ν2 (by omega) (by rw[h2];exact cw (by rw[η];omega))
  have e:et k (ρ (n+1) []) hs ν=et k (ρ n []) (hs++[Val.h ν.length]) ν2:=by rw[X9,et,h2]
  rw[e]
  refine⟨by rw[i1,l2];omega,by rw[i2,l2,W2,List.range'_succ];rfl,λi hi=>?_,λj hj hne=>?_⟩
  ·cases i with
   | zero =>
    rw[i4 (ν.length+0) (by omega) (by omega),h2,av (by omega),χ (by omega)]
    simp
   | succ i =>
    have:=i3 i (by omega)
    rw[l2] at this
    rw[show ν.length+(i+1)=ν.length+1+i by omega]
    exact this
  ·rw[i4 j (by omega) hne,h2,av (λz=>hne z.symm),ξ hj]
theorem lv_ins(h:μ[0]?=some (.ins "Tree" fs))(ha:df ((fs.map Prod.snd).map (lvN 3 μ))=some ds):lvN 4 μ (.h 0)=some (jm "Tree" ((fs.map Prod.fst).zip ds)):=by
 show(match μ[0]? with
   | some (.lst xs)=>(df (xs.map (lvN 3 μ))).map Ψ
   | some (.ins c fs)=>(df ((fs.map Prod.snd).map (lvN 3 μ))).map λds=>jm c ((fs.map Prod.fst).zip ds)
   | _=>none)=_
 rw[h]
 show(df ((fs.map Prod.snd).map (lvN 3 μ))).map _=_
 rw[ha]
 rfl
theorem es_lst1(h:fa δ μ=R.ret (xs,μ'))(hs:aL xs.length=true):v7 fa δ μ=R.ret (.h μ'.length,μ'++[.lst xs]):=by
 unfold v7
 rw[h,aV,if_pos hs]
theorem f2_rules(a b:D):aY "Tree" "rules" (jm "Tree" [("many",a),("rules",b)])=some b:=by kernel_rfl
theorem f3_rules(a b c:D):aY "Tree" "rules" (jm "Tree" [("many",a),("rules",b),("bounds",c)])=some b:=by kernel_rfl
theorem f7_many(a b c d e f g:D):aY "Tree" "many" (jm "Tree" [("many",a),("rules",b),("bounds",c),("flow",d),("times",e),("over",f),("under",g)])=some a:=by kernel_rfl
abbrev gF(m:Nat)(R:D)(n k:Nat):List (Str×Val):=List.take k [("many",.d (.int (m:Int))),("rules",.d R),("bounds",.h 1),("flow",.h 2),("times",.h 3),("over",.h 4),("under",.h (8+n)),("hooks",.h (9+n)),("depths",.h (10+n))]
abbrev iE(A B:D)(n:Nat)(t:Int):aw:=[some (.h 0),some (.d A),some (.d B),some (.d (.int (n:Int))),some (.d (.int t))]
theorem init_ev(hT:T.length<=900)(hr:rs.length<=1000)(hff:∀r∈rs,r.lo=r.hi->0<r.le->r.w≠none):∃μ0,gW [.h 0,.d (.list (T.map ε)),.d (.list (rs.map rl))] [.ins "Tree" []]=R.ret (.d .none,μ0)/\Rp (Eo T rs) (so T rs) μ0:=by
 obtain⟨n,hn⟩:∃n,n=T.length:=⟨_,rfl⟩
 obtain⟨tt,htt⟩:∃tt,tt=(wts rs).sum:=⟨_,rfl⟩
 obtain⟨RL,hRL⟩:∃RL:D,RL=.list ((aW T rs).map rl):=⟨_,rfl⟩
 have hAl:(aW T rs).length=rs.length+n:=by unfold aW;rw[η,iV,hn]
 have hffA:∀r∈aW T rs,r.lo=r.hi->0<r.le->r.w≠none:=λr hm=>by
  rcases Z7.mp hm with hm | hm
  ·exact hff r hm
  ·intro hl _
   obtain⟨i,hi,rfl⟩:=List.mem_iff_getElem.mp hm
   have:=nA T.length 0 T i (by rw[iV] at hi;exact hi)
   rw[Δ,ψ hi] at this
   have e:(rN T.length 0 T)[i]=⟨0+i,T.length,-T.getD i 0,none,.tuple []⟩:=this
   rw[e] at hl
   have hl:0+i=T.length:=hl
   rw[iV] at hi
   omega
 obtain⟨B,hB⟩:∃B:List D,B=rg (aW T rs).length λk=>.int ((Eo T rs).bd k):=⟨_,rfl⟩
 obtain⟨Fl,hFl⟩:∃Fl:List D,Fl=rg (aW T rs).length λk=>.int ((so T rs).fl k):=⟨_,rfl⟩
 obtain⟨Tm,hTm⟩:∃Tm:List D,Tm=rg (n+1) λp=>.int ((so T rs).tm p):=⟨_,rfl⟩
 obtain⟨Ov,hOv⟩:∃Ov:List D,Ov=rg (n+1) λp=>ovD n ((so T rs).t.ov p) p:=⟨_,rfl⟩
 obtain⟨Hk,hHk⟩:∃Hk:List D,Hk=rg (n+1) λp=>ovD n ((so T rs).t.hk p) p:=⟨_,rfl⟩
 obtain⟨Dp,hDp⟩:∃Dp:List D,Dp=rg (n+1) λp=>.int ((so T rs).dp p:Int):=⟨_,rfl⟩
 have eB:(aW T rs).map (λr=>ε (bdr tt r))=B:=by rw[hB,map_rg,htt];rfl
 have eF:(aW T rs).map (λr=>ε (ffr r))=Fl:=by rw[hFl,map_rg];rfl
 have eT:T.map ε++[.int 0]=Tm:=by
  rw[hTm,ll,ints_rg,hn]
  congr 2
  show ε 0=ε (T.getD T.length 0)
  rw[Δ,Y9 (υ _)]
  rfl
 have eO:ρ n (ε (n:Int))++[.none]=Ov:=by
  rw[hOv,ll,xN]
  congr 1
  ·exact jP λk hk=>by rw[ovD,if_pos hk,hn];rfl
  ·rw[ovD,if_neg (V4 _)]
 have eH:((U4 0 n).map λj:Nat=>ε ((rs.length+j:Nat):Int))++[.none]=Hk:=by
  rw[hHk,ll,<-List.range_eq_range']
  congr 1
  ·exact jP (f:=λj:Nat=>ε ((rs.length+j:Nat):Int)) λk hk=>by rw[ovD,if_pos hk];rfl
  ·rw[ovD,if_neg (V4 _)]
 have eD:ρ n (ε 1)++[.int 0]=Dp:=by
  rw[hDp,ll,xN]
  congr 1
  ·exact jP λk hk=>by
    show ε 1=ε ((if k<T.length then 1 else 0:Nat):Int)
    rw[if_pos (by omega)]
    rfl
  ·show [ε 0]=[ε ((if n<T.length then 1 else 0:Nat):Int)]
   rw[if_neg (by omega)]
   rfl
 have ovfl:∀x p,bL (ovD n x p)=true:=λx p=>by unfold ovD;split<;>rfl
 have fB:aN B=true:=by rw[hB];exact ko λ_=>rfl
 have fF:aN Fl=true:=by rw[hFl];exact ko λ_=>rfl
 have fT:aN Tm=true:=by rw[hTm];exact ko λ_=>rfl
 have fO:aN Ov=true:=by rw[hOv];exact ko λ_=>ovfl _ _
 have fH:aN Hk=true:=by rw[hHk];exact ko λ_=>ovfl _ _
 have fD:aN Dp=true:=by rw[hDp];exact ko λ_=>rfl
 obtain⟨TL,hTL⟩:∃TL:D,TL=.list (T.map ε):=⟨_,rfl⟩
 obtain⟨RS,hRS⟩:∃RS:D,RS=.list (rs.map rl):=⟨_,rfl⟩
 have lenT:cV [TL]=some (.int (n:Int)):=by rw[hTL,hn];show some (ε ((T.map ε).length:Int))=_;rw[θ]
 have lenR:cV [RS]=some (.int (rs.length:Int)):=by rw[hRS];show some (ε ((rs.map rl).length:Int))=_;rw[θ]
 obtain⟨μ6,h6⟩:∃μ6:Sto,μ6=[.ins "Tree" (gF rs.length RL n 6),vls B,vls Fl,vls Tm,vls Ov]:=⟨_,rfl⟩
 have l6:μ6.length=5:=by rw[h6];rfl
 obtain⟨ν,hν⟩:∃ν,ν=et 5 (ρ n []) [] (μ6++[.lst []]):=⟨_,rfl⟩
 obtain⟨a1,a2,a3,a4⟩:=addR (k:=5) n [] (μ6++[.lst []]) (by rw[η,l6];show 5<6;omega) (by rw[χ (by omega),l6];rfl)
 have l6':(μ6++[Ob.lst []]).length=6:=by rw[η,l6];rfl
 rw[<-hν,l6'] at a1 a2 a3 a4
 have nu0:∀j,j<5->ν[j]?=μ6[j]?:=λj hj=>by rw[a4 j (by omega) (by omega),ξ (by omega)]
 obtain⟨Rg,hRg⟩:∃Rg:List D,Rg=bm (Z3 n):=⟨_,rfl⟩
 obtain⟨HS,hHS⟩:∃HS:List Val,HS=(Z3 (n+1)).map λp=>Val.h (6+p):=⟨_,rfl⟩
 have eHS:[]++(U4 6 n).map Val.h++[Val.h (6+n)]=HS:=by
  rw[hHS,List.nil_append,List.range_succ,Y4,List.range_eq_range',List.range'_eq_map_range,Y5]
  congr 1
  rw[<-List.range_eq_range']
  rfl
 obtain⟨μ7,h7⟩:∃μ7,μ7=(((ν++[vls Rg])++[Ob.lst [Val.h (6+n)]])++[Ob.lst HS]).set 0 (.ins "Tree" (gF rs.length RL n 7)):=⟨_,rfl⟩
 have l7:μ7.length=9+n:=by rw[h7,Ω,η,η,η,a1];show 6+n+1+1+1=_;omega
 have b0:μ7[0]?=some (.ins "Tree" (gF rs.length RL n 7)):=by rw[h7];exact cw (by rw[η,η,η,a1];omega)
 have bb:∀j,0<j->j<6+n->μ7[j]?=ν[j]?:=λj h0 hj=>by
  rw[h7,av (by omega),ξ (by rw[η,η,a1];omega),ξ (by rw[η,a1];omega),ξ (by omega)]
 have b1:μ7[1]?=some (vls B):=by rw[bb 1 (by omega) (by omega),nu0 1 (by omega),h6];rfl
 have b2:μ7[2]?=some (vls Fl):=by rw[bb 2 (by omega) (by omega),nu0 2 (by omega),h6];rfl
 have b3:μ7[3]?=some (vls Tm):=by rw[bb 3 (by omega) (by omega),nu0 3 (by omega),h6];rfl
 have b4:μ7[4]?=some (vls Ov):=by rw[bb 4 (by omega) (by omega),nu0 4 (by omega),h6];rfl
 have bn:μ7[6+n]?=some (vls Rg):=by
  rw[h7,av (by omega),ξ (by rw[η,η,a1];show 6+n<6+n+1+1;omega),ξ (by rw[η,a1];show 6+n<6+n+1;omega),<-a1,χ (υ _),X0]
  rfl
 have bu:μ7[8+n]?=some (.lst HS):=by
  have e:((ν++[vls Rg])++[Ob.lst [Val.h (6+n)]]).length=8+n:=by rw[η,η,a1];show 6+n+1+1=_;omega
  rw[h7,av (by omega),<-e,χ (υ _),X0]
  rfl
 have bc:∀p,p<=n->μ7[6+p]?=some (vls (bm ((so T rs).t.un p))):=λp hp=>by
  show _=some (vls (bm (if p=T.length then Z3 T.length else [])))
  by_cases e:p=T.length
  ·rw[if_pos e,e,<-hn,bn,hRg]
  ·rw[if_neg e,bb (6+p) (by omega) (by omega),a3 p (by omega)]
   rfl
 have hview:∃X,lvN 4 μ7 (.h 0)=some X/\aY "Tree" "many" X=some (.int (rs.length:Int)):=by
  have hU:lvN 3 μ7 (.h (8+n))=some (.list ((Z3 (n+1)).map λp=>Ψ (bm ((so T rs).t.un p)))):=by
   show(match μ7[8+n]? with
     | some (.lst xs)=>(df (xs.map (lvN 2 μ7))).map Ψ
     | some (.ins c fs)=>(df ((fs.map Prod.snd).map (lvN 2 μ7))).map λds=>jm c ((fs.map Prod.fst).zip ds)
     | _=>none)=_
   rw[bu]
   show(df (HS.map (lvN 2 μ7))).map Ψ=_
   rw[hHS,Y5,lM (f:=lvN 2 μ7∘λp=>Val.h (6+p)) (g:=λp=>Ψ (bm ((so T rs).t.un p))) (l:=Z3 (n+1)) λp hp=>cG (bc p (by have:=List.mem_range.mp hp;omega))]
   rfl
  refine⟨_,lv_ins (ds:=[.int (rs.length:Int),RL,.list B,.list Fl,.list Tm,.list Ov,.list ((Z3 (n+1)).map λp=>Ψ (bm ((so T rs).t.un p)))]) b0 ?_,f7_many _ _ _ _ _ _ _⟩
  show df [lvN 3 μ7 (.d _),lvN 3 μ7 (.d _),lvN 3 μ7 (.h 1),lvN 3 μ7 (.h 2),lvN 3 μ7 (.h 3),lvN 3 μ7 (.h 4),lvN 3 μ7 (.h (8+n))]=_
  rw[aZ,aZ,cG b1,cG b2,cG b3,cG b4,hU]
  rfl
 obtain⟨X7,hX7,hm7⟩:=hview
 obtain⟨μ8,h8⟩:∃μ8,μ8=(μ7++[vls Hk]).set 0 (.ins "Tree" (gF rs.length RL n 8)):=⟨_,rfl⟩
 have l8:μ8.length=10+n:=by rw[h8,Ω,η,l7];show 9+n+1=_;omega
 obtain⟨μ9,h9⟩:∃μ9,μ9=(μ8++[vls Dp]).set 0 (.ins "Tree" (gF rs.length RL n 9)):=⟨_,rfl⟩
 have l9:μ9.length=11+n:=by rw[h9,Ω,η,l8];show 10+n+1=_;omega
 have c0:μ8[0]?=some (.ins "Tree" (gF rs.length RL n 8)):=by rw[h8];exact cw (by rw[η];omega)
 have d0:μ9[0]?=some (.ins "Tree" (gF rs.length RL n 9)):=by rw[h9];exact cw (by rw[η];omega)
 have cc:∀j,0<j->j<9+n->μ9[j]?=μ7[j]?:=λj h0 hj=>by
  rw[h9,av (by omega),ξ (by omega),h8,av (by omega),ξ (by omega)]
 have ch:μ9[9+n]?=some (vls Hk):=by
  rw[h9,av (by omega),ξ (by omega),h8,av (by omega),<-l7,χ (υ _),X0]
  rfl
 have cd:μ9[10+n]?=some (vls Dp):=by
  rw[h9,av (by omega),<-l8,χ (υ _),X0]
  rfl
 refine⟨μ9.set 0 (.ins "Tree" (tfs (Eo T rs))),?_,?_⟩
 ·refine lG (δ:=(iE TL RS n tt)) ?_
  rw[<-hTL,<-hRS]
  unfold j3
  refine aB (bw (bS (bt (ad (aa rfl) af) lenT))) ?_
  refine aB (bw (v:=.d (.int tt)) (bS (bt (ds:=[.list ((wts rs).map ε)]) (ad (bO (ds:=rs.map rl) (cM (x:=RS) (aa rfl) (by rw[hRS];rfl)) (ax (by rw[θ];omega)) (np rs _)) af) (by rw[htt];exact tZ _)))) ?_
  refine aB (dw (fs:=[]) (bS (bt (ad (aa rfl) af) lenR)) (aR rfl) rfl (by show(0:Nat)<1000;omega)) ?_
  refine aB (dw (v:=.d RL) (fs:=(gF rs.length RL n 1)) (bS ?_) (aR rfl) rfl (by show(1:Nat)<1000;omega)) ?_
  ·rw[hRL]
   unfold aW
   rw[Y4]
   refine eE (gJ (eE (p6 (ad (by rw[<-hRS];exact aa rfl) af))) (bO (ds:=b5 0 (T.map ε)) (j7 (ad (by rw[<-hTL];exact aa rfl) af)) (ax ?_) ?_) (ax (by rw[θ,θ,iV];omega)))
   ·have:∀(i:Nat) (l:List D),(b5 i l).length=l.length:=λi l=>by
     induction l generalizing i with
     | nil=>rfl
     | cons a l ih=>rw[b5,Φ,Φ,ih]
    rw[this,θ]
    omega
   ·rw[<-hn]
    exact rO n T 0 _ _
  have v2:lvN 4 [Ob.ins "Tree" (gF rs.length RL n 2)] (.h 0)=some (jm "Tree" [("many",.int (rs.length:Int)),("rules",RL)]):=rfl
  refine aB (dw (v:=.h 1) (μ1:=[.ins "Tree" (gF rs.length RL n 2),vls B]) (fs:=(gF rs.length RL n 2)) (j9 (ds:=B) (bO (ds:=(aW T rs).map rl) (cM (x:=RL) (cm (ak rfl v2) (f2_rules _ _)) (by rw[hRL];rfl)) (ax (by rw[θ];omega)) (by rw[<-eB];exact vU tt _ _)) fB) (aR rfl) rfl (by show(2:Nat)<1000;omega)) ?_
  have v3:lvN 4 [Ob.ins "Tree" (gF rs.length RL n 3),vls B] (.h 0)=some (jm "Tree" [("many",.int (rs.length:Int)),("rules",RL),("bounds",.list B)]):=by
   refine lv_ins (μ:=[Ob.ins "Tree" (gF rs.length RL n 3),vls B]) (fs:=(gF rs.length RL n 3)) (ds:=[.int (rs.length:Int),RL,.list B]) rfl ?_
   show df [lvN 3 _ (.d _),lvN 3 _ (.d _),lvN 3 _ (.h 1)]=_
   rw[aZ,aZ,cG (ds:=B) rfl]
   rfl
  refine aB (dw (v:=.h 2) (μ1:=[.ins "Tree" (gF rs.length RL n 3),vls B,vls Fl]) (fs:=(gF rs.length RL n 3)) (j9 (ds:=Fl) (bO (ds:=(aW T rs).map rl) (cM (x:=RL) (cm (ak rfl v3) (f3_rules _ _ _)) (by rw[hRL];rfl)) (ax (by rw[θ];omega)) (by rw[<-eF];exact vE _ _ hffA)) fF) (aR rfl) rfl (by show(3:Nat)<1000;omega)) ?_
  refine aB (dw (v:=.h 3) (μ1:=[.ins "Tree" (gF rs.length RL n 4),vls B,vls Fl,vls Tm]) (fs:=(gF rs.length RL n 4)) (gK (ds:=Tm) (by rw[<-eT];exact gJ (eE (p6 (ad (by rw[<-hTL];exact ak rfl aZ) af))) (eE (bI (ad aj af) rfl)) (ax (by rw[θ];show T.length+1<=_;omega))) fT) (aR rfl) rfl (by show(4:Nat)<1000;omega)) ?_
  refine aB (dw (v:=.h 4) (μ1:=[.ins "Tree" (gF rs.length RL n 5),vls B,vls Fl,vls Tm,vls Ov]) (fs:=(gF rs.length RL n 5)) (gK (ds:=Ov) (by
   rw[<-eO]
   refine gJ (eE ?_) (eE (bI (ad aj af) rfl)) (ax (by rw[Z1];show n+1<=_;omega))
   have:=jx (δ:=viewN 4 [Ob.ins "Tree" (gF rs.length RL n 5),vls B,vls Fl,vls Tm] (iE TL RS n tt)) (fn:=cr (ae (ac 3) ai)) (g:=ac 3) (d:=.int (n:Int)) (k:=(n:Int)) (bI (ad (ak rfl aZ) af) rfl) (ak rfl aZ) (by omega) (by omega)
   rw[Y8] at this
   exact this) fO) (aR rfl) rfl (by show(5:Nat)<1000;omega)) ?_
  refine aB (dw (v:=.h (8+n)) (μ1:=((ν++[vls Rg])++[Ob.lst [Val.h (6+n)]])++[Ob.lst HS]) (μ2:=((ν++[vls Rg])++[Ob.lst [Val.h (6+n)]])++[Ob.lst HS]) (k:=0) (fs:=(gF rs.length RL n 6)) ?_ (aR rfl) ?_ (by show(6:Nat)<1000;omega)) ?_
  ·have hc:lR (kf gY (ae (ac 3) ai)) (cr ai) (iE TL RS n tt) μ6=R.ret (.h 5,ν):=by
    have hrg:gY [.int (n:Int)]=some (b6 0 n):=by
     show(if b62 (n:Int)=true then some (b6 0 (n:Int).toNat) else none)=_
     rw[if_pos (by unfold b62;simp;omega),Y8]
    have hcn:∀l:List D,oR (cr ai) l=M.ret (ρ l.length []):=λl=>by
     induction l with
     | nil=>rfl
     | cons a l ih =>
      show(nX (cr ai) [.vl a]).thn (λr=>if aN r=true then (oR (cr ai) l).thn λrest=>M.ret (r::rest) else none)=_
      rw[ih]
      rfl
    have hlr:(b6 0 n).length=n:=by unfold b6;rw[θ,Z9]
    have:=es_compN (δ:=(iE TL RS n tt)) (μ:=μ6) (fi:=kf gY (ae (ac 3) ai)) (fn:=cr ai) (ds:=b6 0 n) (rows:=ρ n []) (jv (ad (aa rfl) af) hrg) (ax (by rw[hlr];omega)) (by rw[hcn,hlr])
    rw[this,l6,hν]
   have hl:v7 (cx (gX (k6 (ae (ac 3) ai))) jh) (iE TL RS n tt) ν=R.ret (.h (7+n),(ν++[vls Rg])++[Ob.lst [Val.h (6+n)]]):=by
    have e1:gX (k6 (ae (ac 3) ai)) (iE TL RS n tt) ν=R.ret (.h (6+n),ν++[vls Rg]):=by
     have:=gK (δ:=(iE TL RS n tt)) (μ:=ν) (fn:=k6 (ae (ac 3) ai)) (ds:=Rg) (by
      unfold k6
      rw[ad (ak rfl aZ) af,aD]
      show(if 0<=(n:Int)/\(n:Int)<=100000 then M.ret _ else none)=_
      rw[if_pos ⟨by omega,by omega⟩,hRg,Y8]
      rfl) (by rw[hRg];exact jU _)
     rw[this,a1]
    have e:(ν++[vls Rg]).length=7+n:=by rw[η,a1];show 6+n+1=_;omega
    have:=es_lst1 (cJ e1 ip) rfl
    rw[e] at this
    exact this
   rw[h6] at hc
   have hcat:=es_cat hc hl (xs:=[]++(U4 6 n).map Val.h) (zs:=[Val.h (6+n)]) (by
    rw[ξ (by rw[η,a1];omega),ξ (by omega)]
    exact a2) (by
    have e:(ν++[vls Rg]).length=7+n:=by rw[η,a1];show 6+n+1=_;omega
    rw[<-e,χ (υ _),X0]
    rfl) (ax (by rw[η,θ,List.length_range'];show 0+n+1<=_;omega))
   rw[eHS] at hcat
   have e:((ν++[vls Rg])++[Ob.lst [Val.h (6+n)]]).length=8+n:=by rw[η,η,a1];show 6+n+1+1=_;omega
   rw[e] at hcat
   exact hcat
  ·rw[ξ (by rw[η,η,a1];omega),ξ (by rw[η,a1];omega),ξ (by omega),nu0 0 (by omega),h6]
   rfl
  rw[show((((ν++[vls Rg])++[Ob.lst [Val.h (6+n)]])++[Ob.lst HS]).set 0 (.ins "Tree" (gv "under" (.h (8+n)) (gF rs.length RL n 6))):Sto)=μ7 from h7.symm]
  refine aB (dw (v:=.h (9+n)) (μ1:=μ7++[vls Hk]) (μ2:=μ7++[vls Hk]) (k:=0) (fs:=(gF rs.length RL n 7)) ?_ (aR rfl) (by rw[ξ (by omega)];exact b0) (by show(7:Nat)<1000;omega)) ?_
  ·have hrg:gY [.int (n:Int)]=some (b6 0 n):=by
    show(if b62 (n:Int)=true then some (b6 0 (n:Int).toNat) else none)=_
    rw[if_pos (by unfold b62;simp;omega),Y8]
   have hlr:(b6 0 n).length=n:=by unfold b6;rw[θ,Z9]
   have:=gK (δ:=(iE TL RS n tt)) (μ:=μ7) (fn:=jW (bx 1 [0] (tgN 0) (kf gY (ae (ac 3) ai)) cH (d2 bg (d1 (aY "Tree" "many") (ac 1)) (ac 0))) (gp (cr (ae (dC .none) ai)))) (ds:=Hk) (by
    rw[<-eH]
    refine gJ (bO (ds:=b6 0 n) (jv (ad (ak rfl aZ) af) hrg) (ax (by rw[hlr];omega)) ?_) (eE (bI (ad aj af) rfl)) (ax (by rw[θ,List.length_range'];show n+1<=_;omega))
    show bP _ _ _ _ [Sl.un,_]=_
    rw[uP rfl hX7,rZ]
    exact vy rs.length X7 hm7 n 0 _) fH
   rw[l7] at this
   exact this
  rw[show((μ7++[vls Hk]).set 0 (.ins "Tree" (gv "hooks" (.h (9+n)) (gF rs.length RL n 7))):Sto)=μ8 from h8.symm]
  refine aB (dw (v:=.h (10+n)) (μ1:=μ8++[vls Dp]) (μ2:=μ8++[vls Dp]) (k:=0) (fs:=(gF rs.length RL n 8)) ?_ (aR rfl) (by rw[ξ (by omega)];exact c0) (by show(8:Nat)<1000;omega)) ?_
  ·have:=gK (δ:=(iE TL RS n tt)) (μ:=μ8) (fn:=jW (gp (jV (cr (ae (dC (.int 1)) ai)) (ac 3))) (gp (cr (ae (dC (.int 0)) ai)))) (ds:=Dp) (by
    rw[<-eD]
    refine gJ (eE ?_) (eE (bI (ad aj af) rfl)) (ax (by rw[Z1];show n+1<=_;omega))
    have:=jx (δ:=viewN 4 μ8 (iE TL RS n tt)) (fn:=cr (ae (dC (.int 1)) ai)) (g:=ac 3) (d:=.int 1) (k:=(n:Int)) (bI (ad aj af) rfl) (ak rfl aZ) (by omega) (by omega)
    rw[Y8] at this
    exact this) fD
   rw[l8] at this
   exact this
  rw[show((μ8++[vls Dp]).set 0 (.ins "Tree" (gv "depths" (.h (10+n)) (gF rs.length RL n 8))):Sto)=μ9 from h9.symm]
  have hlast:=dw (n:=([.ins "Tree" []]:Sto).length) (x := "begin") (fe:=cf (dC (.int 0))) (fo:=aQ 0) (δ:=(iE TL RS n tt)) (v:=.d (.int 0)) (μ:=μ9) (bS aj) (aR rfl) d0 (by show(9:Nat)<1000;omega)
  have ef:gv "begin" (.d (.int 0)) (gF rs.length RL n 9)=tfs (Eo T rs):=by
   unfold tfs Eo
   rw[hRL,hn]
   rfl
  rw[ef] at hlast
  exact hlast
 ·have hs:∀j,0<j->(μ9.set 0 (.ins "Tree" (tfs (Eo T rs))))[j]?=μ9[j]?:=λj hj=>av (by omega)
  refine⟨cw (by omega),?_,?_,?_,?_,?_,λp hp=>?_,?_,?_⟩
  ·rw[hs 1 (by omega),cc 1 (by omega) (by omega),b1,hB];rfl
  ·rw[hs 2 (by omega),cc 2 (by omega) (by omega),b2,hFl];rfl
  ·rw[hs 3 (by omega),cc 3 (by omega) (by omega),b3,hTm,hn];rfl
  ·rw[hs 4 (by omega),cc 4 (by omega) (by omega),b4,hOv,hn];rfl
  ·show(μ9.set 0 _)[8+T.length]?=some (.lst ((Z3 (T.length+1)).map λp=>Val.h (6+p)))
   rw[<-hn,hs _ (by omega),cc _ (by omega) (by omega),bu,hHS]
  ·have hp:p<=n:=by rw[hn];exact hp
   rw[hs _ (by omega),cc _ (by omega) (by omega)]
   exact bc p hp
  ·show(μ9.set 0 _)[9+T.length]?=some (vls (rg (T.length+1) λp=>ovD T.length ((so T rs).t.hk p) p))
   rw[<-hn,hs _ (by omega),ch,hHk]
  ·show(μ9.set 0 _)[10+T.length]?=some (vls (rg (T.length+1) λp=>.int ((so T rs).dp p:Int)))
   rw[<-hn,hs _ (by omega),cd,hDp]
theorem vQ(xs:List D):my none (some (-1)) (.list xs)=some (.list xs.dropLast):=by
 show some (Ψ (lf xs none (some (-1))))=_
 unfold lf HT.sIx
 rw[List.dropLast_eq_take]
 congr 2
 by_cases h:xs.length=0
 ·rw[List.length_eq_zero_iff.mp h];rfl
 ·simp
  congr 1
  omega
theorem vR(xs:List D)(n:Nat):my none (some (n:Int)) (.list xs)=some (.list (xs.take n)):=by
 show some (Ψ (lf xs none (some (n:Int))))=_
 rw[wW]
section
variable{T:List Int}{rs:List Rl}
theorem jb{k:Nat}(h:k<rs.length):(aW T rs).getD k r0=rs.getD k r0:=by
 unfold aW
 rw[Δ,ξ h,Δ]
theorem mL{p:Nat}(h:p<T.length):(aW T rs).getD (rs.length+p) r0=⟨p,T.length,-T.getD p 0,none,.tuple []⟩:=by
 unfold aW
 rw[Δ,χ (by omega),Nat.add_sub_cancel_left,<-Δ,nA _ _ _ _ h,Nat.zero_add]
theorem ms:(aW T rs).length=rs.length+T.length:=by unfold aW;rw[η,iV]
theorem wts_nn(hw:∀r∈rs,∀w,r.w=some w->0<=w):0<=(wts rs).sum:=by
 induction rs with
 | nil=>exact T7 _
 | cons r rs ih =>
  have ih:=ih λq hq=>hw q (ι _ hq)
  unfold wts
  split
  ·exact ih
  ·rename_i w e
   have:=hw r ο w e
   rw[V3];omega
theorem ia{k:Nat}(h:k<rs.length):rs.getD k r0∈rs:=by
 rw[Δ,ψ h]
 exact List.getElem_mem h
theorem qs(f:Nat->Int):∀k,TR.sm (k+1) f=f 0+TR.sm k λj=>f (j+1)
 | 0=>by show 0+f 0=f 0+0;omega
 | k+1=>by rw[TR.sm,qs f k,TR.sm];omega
theorem qr(f:Rl->Int):∀l:List Rl,TR.sm l.length (λk=>f (l.getD k r0))=(l.map f).sum
 | []=>rfl
 | a::l=>by
  rw[Φ,qs,Θ,V3,<-qr f l]
  rfl
theorem uG(tt:Int):∀l:List Rl,(l.map λr=>if r.w.isNone=true then 0 else bdr tt r).sum=(wts l).sum
 | []=>rfl
 | r::l=>by
  rw[Θ,V3,uG tt l,wts]
  unfold bdr
  cases hw:r.w with
  | none=>exact Int.zero_add _
  | some w=>exact(V3).symm
theorem Inv0(hp:Pts T.length rs)(hw:∀r∈rs,∀w,r.w=some w->0<=w)(hk:kX (λv=>T.getD v 0) rs):TR.Inv (Eo T rs).net (so T rs):=by
 have ht:=wts_nn hw
 have T0:T.getD T.length 0=0:=by rw[Δ,Y9 (υ _)];rfl
 have cas:∀k,k<(aW T rs).length->(k<rs.length/\(aW T rs).getD k r0=rs.getD k r0/\rs.getD k r0∈rs)\/∃p,p<T.length/\k=rs.length+p/\(aW T rs).getD k r0=⟨p,T.length,-T.getD p 0,none,.tuple []⟩:=λk hk=>by
  rw[ms] at hk
  rcases Y6 k rs.length with z | z
  ·exact .inl ⟨z,jb z,ia z⟩
  ·exact .inr ⟨k-rs.length,by omega,by omega,by rw[show k=rs.length+(k-rs.length) by omega];rw[mL (by omega)];rw[Nat.add_sub_cancel_left]⟩
 have must0:∀r∈rs,r.w=none->r.lo=r.hi->r.le<=0:=λr hr hn hl=>by
  have:=hk r hr hn
  rw[hl] at this
  omega
 have ff:∀k,k<(aW T rs).length->(ffr ((aW T rs).getD k r0)=0\/(((aW T rs).getD k r0).lo=((aW T rs).getD k r0).hi/\0<((aW T rs).getD k r0).le/\ffr ((aW T rs).getD k r0)=bdr (wts rs).sum ((aW T rs).getD k r0)))/\0<=bdr (wts rs).sum ((aW T rs).getD k r0):=λk hk=>by
  rcases cas k hk with ⟨_,e,hm⟩ | ⟨p,hp,_,e⟩
  ·rw[e]
   have h1:=hw _ hm
   have h2:=must0 _ hm
   generalize rs.getD k r0=r at h1 h2
   unfold ffr bdr
   cases hw:r.w with
   | none =>
    refine⟨.inl ?_,by show 0<=(wts rs).sum+1;omega⟩
    split<;>rfl
   | some w =>
    refine⟨?_,h1 w hw⟩
    by_cases c:r.lo=r.hi/\0<r.le
    ·rw[if_pos c];exact .inr ⟨c.1,c.2,rfl⟩
    ·rw[if_neg c];exact .inl rfl
  ·rw[e]
   refine⟨.inl ?_,by show 0<=(wts rs).sum+1;omega⟩
   unfold ffr
   split<;>rfl
 refine⟨⟨rfl,?_,λp hp=>?_⟩,λq hq=>?_,λp hp=>?_,λp hp=>?_,λk hk=>?_,λk hk _=>?_,λp=>?_,λp hp=>?_,λk hk hl=>?_,T0⟩
 ·show(if T.length<T.length then 1 else 0)=0
  rw[if_neg (V4 _)]
 ·have hp:p<T.length:=hp
  refine⟨υ _,?_⟩
  show(if p<T.length then 1 else 0)=(if T.length<T.length then 1 else 0)+1
  rw[if_pos hp,if_neg (V4 _)]
 ·show(if q=T.length then Z3 T.length else []).Nodup/\∀p,p∈(if q=T.length then Z3 T.length else [])↔p<T.length/\T.length=q
  by_cases e:q=T.length
  ·rw[if_pos e]
   exact⟨List.nodup_range,λp=>by rw[List.mem_range];omega⟩
  ·rw[if_neg e]
   exact⟨List.nodup_nil,λp=>⟨(λz=>by cases z),λz=>absurd z.2.symm e⟩⟩
 ·have hp:p<T.length:=hp
  refine⟨?_,.inl ⟨?_,?_⟩⟩
  ·show rs.length+p<(aW T rs).length
   rw[ms];omega
  ·show((aW T rs).getD (rs.length+p) r0).lo=p
   rw[mL hp]
  ·show((aW T rs).getD (rs.length+p) r0).hi=T.length
   rw[mL hp]
 ·have hp:p<T.length:=hp
  show((aW T rs).getD (rs.length+p) r0).le-T.getD ((aW T rs).getD (rs.length+p) r0).hi 0+T.getD ((aW T rs).getD (rs.length+p) r0).lo 0=0
  rw[mL hp]
  show -T.getD p 0-T.getD T.length 0+T.getD p 0=0
  rw[T0];omega
 ·show 0<=ffr ((aW T rs).getD k r0)/\ffr ((aW T rs).getD k r0)<=bdr (wts rs).sum ((aW T rs).getD k r0)
  obtain⟨h1,h2⟩:=ff k hk
  rcases h1 with z | ⟨_,_,z⟩<;>rw[z]<;>omega
 ·show ffr ((aW T rs).getD k r0)=0\/ffr ((aW T rs).getD k r0)=bdr (wts rs).sum ((aW T rs).getD k r0)
  rcases (ff k hk).1 with z | ⟨_,_,z⟩
  ·exact .inl z
  ·exact .inr z
 ·rw[TR.bN (g:=λ_=>0) λk hk=>?_,TR.kl]
  show ffr ((aW T rs).getD k r0)*TR.inc _ p k=0
  rcases (ff k hk).1 with z | ⟨z,_,_⟩
  ·rw[z,Int.zero_mul]
  ·unfold TR.inc
   show _*((if ((aW T rs).getD k r0).hi=p then 1 else 0)-(if ((aW T rs).getD k r0).lo=p then 1 else 0))=0
   rw[z,Int.sub_self,U8]
 ·have hp:p<T.length:=hp
  show 0<(if ((aW T rs).getD (rs.length+p) r0).lo=p then bdr (wts rs).sum ((aW T rs).getD (rs.length+p) r0)-ffr ((aW T rs).getD (rs.length+p) r0) else ffr ((aW T rs).getD (rs.length+p) r0))
  rw[mL hp,if_pos rfl]
  unfold bdr ffr
  show 0<(wts rs).sum+1-(if p=T.length/\_ then _ else 0)
  rw[if_neg (by omega)]
  omega
 ·have hl:((aW T rs).getD k r0).lo=((aW T rs).getD k r0).hi:=hl
  show(0<((aW T rs).getD k r0).le->ffr ((aW T rs).getD k r0)=bdr (wts rs).sum ((aW T rs).getD k r0))/\(((aW T rs).getD k r0).le<=0->ffr ((aW T rs).getD k r0)=0)
  refine⟨λh=>?_,λh=>?_⟩
  ·rcases cas k hk with ⟨_,e,hm⟩ | ⟨p,hp,_,e⟩
   ·rw[e] at hl h ⊢
    have h2:=must0 _ hm
    generalize rs.getD k r0=r at hl h h2
    unfold ffr bdr
    rw[if_pos ⟨hl,h⟩]
    cases hw:r.w with
    | none=>have:=h2 hw hl;omega
    | some w=>rfl
   ·rw[e] at hl
    have hl:p=T.length:=hl
    omega
  ·unfold ffr
   rw[if_neg (by omega)]
theorem Nw0(hp:Pts T.length rs)(hk:kX (λv=>T.getD v 0) rs):TR.Nw (Eo T rs).net rs.length (λk=>(rs.getD k r0).w.isNone) (wts rs).sum (λv=>T.getD v 0):=by
 refine⟨ms,λk h=>?_,λk h=>?_,λp h=>?_,?_,λk h hm=>?_,λk h hm=>?_⟩
 ·show((aW T rs).getD k r0).lo<T.length
  rw[jb h];exact(hp _ (ia h)).1
 ·show((aW T rs).getD k r0).hi<T.length
  rw[jb h];exact(hp _ (ia h)).2
 ·have h:p<T.length:=h
  show((aW T rs).getD (rs.length+p) r0).lo=p/\((aW T rs).getD (rs.length+p) r0).hi=T.length
  rw[mL h]
  exact⟨rfl,rfl⟩
 ·rw[<-uG (wts rs).sum rs,<-qr]
  refine TR.bN λk h=>?_
  show(if (rs.getD k r0).w.isNone=true then 0 else bdr (wts rs).sum ((aW T rs).getD k r0))=_
  rw[jb h]
 ·show bdr (wts rs).sum ((aW T rs).getD k r0)=(wts rs).sum+1
  rw[jb h]
  unfold bdr
  rw[Option.isNone_iff_eq_none.mp hm]
 ·show((aW T rs).getD k r0).le<=T.getD ((aW T rs).getD k r0).hi 0-T.getD ((aW T rs).getD k r0).lo 0
  rw[jb h]
  have this:T.getD (rs.getD k r0).lo 0+(rs.getD k r0).le<=T.getD (rs.getD k r0).hi 0:=hk _ (ia h) (Option.isNone_iff_eq_none.mp hm)
  omega
end
noncomputable def cst(T:List Int)(r:Rl):Int:=match r.w with
 | none=>0
 | some w=>w*max 0 (r.le-T.getD r.hi 0+T.getD r.lo 0)
structure Lt(m:Nat)(rs:List Rl)(T F:List Int):Prop where
 lT:T.length=m+1
 t0:T.getD 0 0=0
 lF:F.length=rs.length
 bb:∀k,k<rs.length->0<=F.getD k 0/\∀w,(rs.getD k r0).w=some w->F.getD k 0<=w
 cs:∀p,p<m+1->TR.sm rs.length (λk=>F.getD k 0*((if (rs.getD k r0).hi=p then 1 else 0)-(if (rs.getD k r0).lo=p then 1 else 0)))=0
 kp:kX (λv=>T.getD v 0) rs
 eq:TR.sm rs.length (λk=>F.getD k 0*(rs.getD k r0).le)=TR.sm rs.length (λk=>cst T (rs.getD k r0))
theorem iG{n:Nat}{f:Nat->Int}{k:Nat}(h:k<n):((Z3 n).map f).getD k 0=f k:=by
 rw[Δ,Λ,W0 h]
 rfl
theorem rM{n:Nat}{f:Nat->Int}{X:D}{t0:Int}(h:aY "Tree" "times" X=some (.list (rg n λp=>.int (f p))))(h0:oIx (.list (rg n λp=>.int (f p))) (.int 0)=some (.int t0)):∀(q:List Int) (x:Sl),bP (tgN 0) (nX cH) (nX (d2 gm (ac 0) (d2 oIx (d1 (aY "Tree" "times") (ac 1)) (dC (.int 0))))) (q.map ε) [x,.vl X]=M.ret ((q.map λt=>t-t0).map ε)
 | [],x=>rfl
 | t::q,x=>ck (δ':=[.vl (.int t),.vl X]) rfl (ag (aa rfl) (ag (cm (aa rfl) h) aj h0) gA) (rM h h0 q _)
theorem vY{E:Tn}{s:TR.St}{X:D}(Tf':Tf E s X)(hn:0<E.n)(hz:E.n<=900):gh [X]=M.ret (.list (((Z3 E.n).map λp=>s.tm p-s.tm 0).map ε)):=by
 refine aE ?_
 unfold iR
 have hc:my none (some (-1)) (.list (rg (E.n+1) λp=>.int (s.tm p)))=some (.list (((Z3 E.n).map s.tm).map ε)):=by
  rw[vQ,ll,List.dropLast_concat]
  unfold rg
  rw[Y5]
  rfl
 have e:((Z3 E.n).map λp=>s.tm p-s.tm 0)=((Z3 E.n).map s.tm).map λt=>t-s.tm 0:=by rw[Y5];rfl
 rw[e]
 exact aO (bO (ds:=((Z3 E.n).map s.tm).map ε) (cM (kC (cm (aa rfl) Tf'.times) i7 (jw (cm aj rfl)) hc) rfl) (ax (by rw[θ,θ,Z9];omega)) (rM Tf'.times (dU (k:=0) (by omega)) _ _))
theorem flow_ev{E:Tn}{s:TR.St}{X:D}(Tf':Tf E s X)(hm:E.m<=E.rs.length):bY [X]=M.ret (.list (((Z3 E.m).map s.fl).map ε)):=by
 refine aE ?_
 unfold dr
 refine aO (kC (cm (aa rfl) Tf'.flow) i7 (jw (cm (aa rfl) Tf'.many)) ?_)
 rw[vR]
 unfold rg
 rw[<-List.map_take,List.take_range,Nat.min_eq_left hm,Y5]
 rfl
theorem least_ev{m:Nat}{rs:List Rl}(hp:Pts (m+1) rs)(hm:m<=800)(hr:rs.length<50)(hw:∀r∈rs,∀w,r.w=some w->0<=w)(hy:∀r∈rs,bL r.why=true) :
  (∃L:List Int,cS [.int (m:Int),.list (rs.map rl)]=M.ret (.tuple [.str "ring",.list (L.map ε)])/\0<L.length/\L.length<=m+1/\pF rs (L.map ε)=true) \/
  (∃T F:List Int,cS [.int (m:Int),.list (rs.map rl)]=M.ret (.tuple [.str "timed",.list (T.map ε),.list (F.map ε)])/\Lt m rs T F):=by
 have toF:∀{d:D} {μ:Sto},eu [.d (.int (m:Int)),.d (.list (rs.map rl))] []=R.ret (.d d,μ)->cS [.int (m:Int),.list (rs.map rl)]=M.ret d:=λ{d μ} h=>by
  unfold cS asD
  show(match eu [.d (.int (m:Int)),.d (.list (rs.map rl))] [] with | some (.ok (.d x,_))=>M.ret x | _=>none)=_
  rw[h]
  rfl
 have eqr:oEq (.str "ring") (.str "ring")=some (.bool true):=by kernel_rfl
 have eqk:oEq (.str "kept") (.str "ring")=some (.bool false):=by kernel_rfl
 rcases oX hp (by omega) with ⟨T,h1,h2,h3,h4⟩ | ⟨L,h1,h2,h3,h4⟩
 ·right
  obtain⟨RS,hRS⟩:∃RS:D,RS=.list (rs.map rl):=⟨_,rfl⟩
  have hp':Pts T.length rs:=by rw[h2];exact hp
  have hE:(Eo T rs).n=m+1:=h2
  have hm':(Eo T rs).m<=(Eo T rs).rs.length:=by show rs.length<=(aW T rs).length;rw[ms];omega
  obtain⟨μ0,e0,P0⟩:=init_ev (T:=T) (rs:=rs) (by omega) (by omega) λr hr hl h0 hn=>by
   have:=h4 r hr hn
   rw[hl] at this
   omega
  have hPin:Pin (Eo T rs):=λk hk=>by
   show((aW T rs).getD k r0).lo<=T.length/\((aW T rs).getD k r0).hi<=T.length
   have hk:k<(aW T rs).length:=hk
   rw[ms] at hk
   rcases Y6 k rs.length with z | z
   ·rw[jb z];have:=hp' _ (ia z);omega
   ·rw[show k=rs.length+(k-rs.length) by omega,mL (by omega)]
    show k-rs.length<=T.length/\T.length<=T.length
    omega
  have hFla:Fla (Eo T rs):=λk hk=>by
   show bL (rl ((aW T rs).getD k r0))=true
   have hk:k<(aW T rs).length:=hk
   rw[ms] at hk
   have fl:∀r:Rl,bL r.why=true->bL (rl r)=true:=λr h=>by
    show(true&&(true&&(true&&(bL (wD r.w)&&(bL r.why&&true)))))=true
    rw[h]
    cases r.w<;>rfl
   rcases Y6 k rs.length with z | z
   ·rw[jb z];exact fl _ (hy _ (ia z))
   ·rw[show k=rs.length+(k-rs.length) by omega,mL (by omega)];rfl
  obtain⟨s,μ1,e1,P1,I1,hno⟩:=vZ P0 (Inv0 hp' hw h4) hPin hFla hm' (show rs.length<50 from hr) (by omega)
  have G:=I1.ends (Nw0 hp' h4) hno
  obtain⟨X,hX,Tf'⟩:=P1.tf
  have ht:=vY Tf' (by omega) (by omega)
  have hf:=flow_ev Tf' hm'
  rw[hE] at ht
  have hf:bY [X]=M.ret (.list (((Z3 rs.length).map s.fl).map ε)):=hf
  refine⟨(Z3 (m+1)).map λp=>s.tm p-s.tm 0,(Z3 rs.length).map s.fl,toF (μ:=[]) ?_,⟨by rw[θ,Z9],?_,by rw[θ,Z9],λk hk=>?_,λp hpm=>?_,λr hr hn=>?_,?_⟩⟩
  ·refine oO ?_
   unfold eP
   refine aB (bw (qW (cJ (aR rfl) (cJ (aR rfl) ip)) h1)) ?_
   refine aB (iH (b:=false) (eh (aC (ag (ag (aa rfl) aj (rfl:oIx (.tuple [.str "kept",.list (T.map ε)]) (.int 0)=some (.str "kept"))) aj eqk))) (iF rfl rfl)) ?_
   refine aB (bw (es_mk (cJ (bS (ag (aa rfl) aj (rfl:oIx (.tuple [.str "kept",.list (T.map ε)]) (.int 1)=some (.list (T.map ε))))) (cJ (aR rfl) ip)) e0)) ?_
   refine aB (jz (mq (aR rfl) P0.h0 rfl ip e1)) ?_
   exact es_retN (eV (ad aj (ad (cL Tf' wB (ak rfl hX) af ht) (ad (cL Tf' nf_fr (ak rfl hX) af hf) af))) rfl)
  ·rw[iG (by omega)];exact Int.sub_self _
  ·rw[iG hk]
   obtain⟨g1,g2⟩:=G.bb k hk
   refine⟨g1,λw hw=>?_⟩
   have:=g2 (by rw[hw];rfl)
   have hb:(Eo T rs).net.bd k=w:=by
    show bdr (wts rs).sum ((aW T rs).getD k r0)=w
    rw[jb hk]
    unfold bdr
    rw[hw]
   omega
  ·have:=G.cs p (by show p<T.length;omega)
   refine Eq.trans (TR.bN λk hk=>?_) this
   rw[iG hk]
   unfold TR.inc
   show _=s.fl k*((if ((aW T rs).getD k r0).hi=p then 1 else 0)-(if ((aW T rs).getD k r0).lo=p then 1 else 0))
   rw[jb hk]
  ·obtain⟨k,hk,rfl⟩:=List.mem_iff_getElem.mp hr
   have hg:rs.getD k r0=rs[k]:=by rw[Δ,ψ hk];rfl
   have:=G.mu k hk (by rw[hg,hn];rfl)
   obtain⟨p1,p2⟩:=hp _ hr
   show((Z3 (m+1)).map λp=>s.tm p-s.tm 0).getD (rs[k]).lo 0+(rs[k]).le<=((Z3 (m+1)).map λp=>s.tm p-s.tm 0).getD (rs[k]).hi 0
   rw[iG p1,iG p2]
   have this:((aW T rs).getD k r0).le-s.tm ((aW T rs).getD k r0).hi+s.tm ((aW T rs).getD k r0).lo<=0:=this
   rw[jb hk,hg] at this
   omega
  ·have:=G.eq
   rw[TR.bN (g:=λk=>s.fl k*(Eo T rs).net.ln k) λk hk=>?_,this]
   ·refine TR.bN λk hk=>?_
    obtain⟨p1,p2⟩:=hp _ (ia hk)
    unfold cst TR.lack
    show(if (rs.getD k r0).w.isNone=true then 0 else bdr (wts rs).sum ((aW T rs).getD k r0)*max 0 (((aW T rs).getD k r0).le-s.tm ((aW T rs).getD k r0).hi+s.tm ((aW T rs).getD k r0).lo))=_
    rw[jb hk,iG p1,iG p2]
    generalize rs.getD k r0=r
    unfold bdr
    cases hw:r.w with
    | none=>rfl
    | some w =>
     show w*max 0 _=w*max 0 _
     congr 2
     omega
   ·rw[iG hk]
    show _=s.fl k*((aW T rs).getD k r0).le
    rw[jb hk]
 ·left
  refine⟨L,toF (μ:=[]) ?_,h2,h3,h4⟩
  refine oO ?_
  unfold eP
  refine aB (bw (qW (cJ (aR rfl) (cJ (aR rfl) ip)) h1)) ?_
  exact qT (iH (b:=true) (eh (aC (ag (ag (aa rfl) aj (rfl:oIx (.tuple [.str "ring",.list (L.map ε)]) (.int 0)=some (.str "ring"))) aj eqr))) (b7 rfl (qU (aR rfl))))
theorem pX:∀(l acc:List Int),mj acc l=true↔(∀x∈l,x∉acc)/\l.Nodup
 | [],acc=>⟨λ_=>⟨λx h=>(nomatch h),List.nodup_nil⟩,λ_=>rfl⟩
 | a::l,acc=>by
  rw[mj,Z5,pX l (acc++[a]),W5]
  have h1:(!(acc.any (·==a)))=true↔a∉acc:=by
   rw[Bool.not_eq_true',List.any_eq_false]
   exact⟨λh z=>h a z (by simp),λh x hx z=>h ((show x=a from by simpa using z)▸hx)⟩
  rw[h1]
  constructor
  ·rintro⟨g1,g2,g3⟩
   refine⟨λx hx=>?_,λz=>g2 a z (by simp),g3⟩
   rcases Γ.mp hx with rfl | hx
   ·exact g1
   ·exact λz=>g2 x hx (List.mem_append_left _ z)
  ·rintro⟨g1,g2,g3⟩
   refine⟨g1 a ο,λx hx z=>?_,g3⟩
   rcases Z7.mp z with z | z
   ·exact g1 x (ι _ hx) z
   ·rw[W9] at z
    exact g2 (z▸hx)
structure IsR(q:List Rl):Prop where
 rnd:q.map hiI=(q.map loI).drop 1++(q.map loI).take 1
 nd:(q.map loI).Nodup
 no:∀r∈q,r.w=none
 pos:0<(q.map leI).sum
 ne:q≠[]
theorem isR_of{rs:List Rl}{L:List Int}(h:pF rs (L.map ε)=true):IsR ((L.map ε).map (atR rs))/\∀r∈(L.map ε).map (atR rs),r∈rs:=by
 unfold pF xM at h
 simp only[Z5,decide_eq_true_eq] at h
 obtain⟨h1,h2,⟨h3,h4⟩,h5,h6⟩:=h
 refine⟨⟨h3,((pX _ _).mp h4).2,λr hr=>?_,h6,λz=>?_⟩,λr hr=>?_⟩
 ·have:=List.all_eq_true.mp h5 r hr
  exact Option.isNone_iff_eq_none.mp this
 ·have:L.map ε=[]:=List.map_eq_nil_iff.mp z
  rw[this] at h1
  cases h1
 ·obtain⟨d,hd,rfl⟩:=W8.mp hr
  have:=List.all_eq_true.mp h2 d hd
  obtain⟨i,_,rfl⟩:=W8.mp hd
  unfold okE at this
  rw[Z5,decide_eq_true_eq,decide_eq_true_eq] at this
  show rs.getD i.toNat r0∈rs
  rw[Δ,ψ (by omega)]
  exact List.getElem_mem _
theorem rot_sum(g:α->Int)(l:List α):((l.drop 1++l.take 1).map g).sum=(l.map g).sum:=by
 cases l with
 | nil=>rfl
 | cons a l=>simp [Y4,List.sum_append,Int.add_comm]
theorem xx{t:Nat->Int}:∀(q:List Rl),(∀r∈q,t r.lo+r.le<=t r.hi)->(q.map λr=>t r.lo).sum+(q.map leI).sum<=(q.map λr=>t r.hi).sum
 | [],_=>T7 _
 | r::q,h=>by
  have ih:=xx q λa ha=>h a (ι _ ha)
  have hr:=h r ο
  simp only[Θ,V3]
  have:leI r=r.le:=rfl
  omega
theorem IsR.not_kept{q:List Rl}(h:IsR q){t:Nat->Int}(hk:∀r∈q,t r.lo+r.le<=t r.hi):False:=by
 have h1:=xx q hk
 have e1:(q.map λr=>t r.lo).sum=((q.map loI).map λi=>t i.toNat).sum:=by
  rw[Y5];rfl
 have e2:(q.map λr=>t r.hi).sum=((q.map hiI).map λi=>t i.toNat).sum:=by
  rw[Y5];rfl
 rw[e1,e2,h.rnd,rot_sum] at h1
 have:=h.pos
 omega
theorem ou{T:List Int}{r:Rl}(h1:r.lo<T.length)(h2:r.hi<T.length):fW [rl r,.list (T.map ε)]=M.ret (.int (max 0 (r.le-T.getD r.hi 0+T.getD r.lo 0))):=by
 have a1:=bE h1
 have a2:=bE h2
 obtain⟨TT,hTT⟩:∃TT:D,TT=.list (T.map ε):=⟨_,rfl⟩
 rw[<-hTT] at a1 a2 ⊢
 rw[show r.le-T.getD r.hi 0+T.getD r.lo 0=r.le-(T.getD r.hi 0-T.getD r.lo 0) by omega]
 refine aE ?_
 unfold md
 exact aO (bt (ad aj (ad (ag (ag (aa rfl) aj (k8 r)) (ag (ag (aa rfl) (ag (aa rfl) aj (eN r)) a2) (ag (aa rfl) (ag (aa rfl) aj (fQ r)) a1) gA) gA) af)) o_max)
noncomputable def brN(T:List Int):Nat->List Rl->List Int
 | _,[]=>[]
 | k,r::rs=>if r.w=none/\T.getD r.hi 0<T.getD r.lo 0+r.le then (k:Int)::brN T (k+1) rs else brN T (k+1) rs
theorem rz:∀(rs:List Rl) (k:Nat),brN T k rs=[]↔kX (λv=>T.getD v 0) rs
 | [],_=>⟨(λ_ r h=>nomatch h),λ_=>rfl⟩
 | r::rs,k=>by
  by_cases hb:r.w=none/\T.getD r.hi 0<T.getD r.lo 0+r.le
  ·rw[show brN T k (r::rs)=(k:Int)::brN T (k+1) rs from if_pos hb]
   refine⟨λh=>(nomatch h),λh=>?_⟩
   have this:T.getD r.lo 0+r.le<=T.getD r.hi 0:=h r ο hb.1
   omega
  ·rw[show brN T k (r::rs)=brN T (k+1) rs from if_neg hb,rz rs]
   refine⟨λh q hq hn=>?_,λh q hq=>h q (ι _ hq)⟩
   rcases Γ.mp hq with rfl | hq
   ·show T.getD q.lo 0+q.le<=T.getD q.hi 0
    rcases Int.lt_or_le (T.getD q.hi 0) (T.getD q.lo 0+q.le) with z | z
    ·exact absurd ⟨hn,z⟩ hb
    ·exact z
   ·exact h q hq hn
theorem xb{T:List Int}{rs:List Rl}(hp:Pts T.length rs)(hz:rs.length<=16000000):kj [.list (rs.map rl),.list (T.map ε)]=M.ret (.list ((brN T 0 rs).map ε)):=by
 refine aE ?_
 unfold oG
 refine aO (bO (j7 (ad (aa rfl) af)) (ax (by rw[mr,θ];exact hz)) ?_)
 have main:∀(rs:List Rl) (k:Nat) (x0 x1:Sl),Pts T.length rs->bP (dR 2 (aU (tgN 0) (aU (tgN 1) dS))) (nX (jD (dB (aI (λds=>noX (aP ds)) (ae (ac 1) ai))) (dB (d2 oGt (aI (λds=>noX (fW ds)) (ae (ac 1) (ae (ac 2) ai))) (dC (.int 0)))))) (nX (ac 0)) (b5 k (rs.map rl)) [x0,x1,.vl (.list (T.map ε))]=M.ret ((brN T k rs).map ε):=by
  intro rs
  induction rs with
  | nil=>intro k x0 x1 _;rfl
  | cons r rs ih =>
   intro k x0 x1 h
   have hk:=ku r
   have hl:=ou (T:=T) (h r ο).1 (h r ο).2
   have ih:=ih (k+1) (.vl (.int (k:Int))) (.vl (rl r)) λq hq=>h q (ι _ hq)
   by_cases hb:r.w=none/\T.getD r.hi 0<T.getD r.lo 0+r.le
   ·rw[show brN T k (r::rs)=(k:Int)::brN T (k+1) rs from if_pos hb,Θ,Θ]
    rw[hb.1] at hk
    exact oK (δ':=[.vl (.int (k:Int)),.vl (rl r),.vl (.list (T.map ε))]) rfl (lE (aC (az (ad (aa rfl) af) hk)) (aC (ag (az (ad (aa rfl) (ad (aa rfl) af)) hl) aj (by rw[mP,decide_eq_true (by omega)])))) (aa rfl) ih
   ·rw[show brN T k (r::rs)=brN T (k+1) rs from if_neg hb,Θ]
    refine oM (δ':=[.vl (.int (k:Int)),.vl (rl r),.vl (.list (T.map ε))]) rfl ?_ ih
    cases e:r.w with
    | some w=>rw[e] at hk;exact oN (aC (az (ad (aa rfl) af) hk))
    | none =>
     rw[e] at hk
     have:¬T.getD r.hi 0<T.getD r.lo 0+r.le:=λz=>hb ⟨e,z⟩
     exact lE (aC (az (ad (aa rfl) af) hk)) (aC (ag (az (ad (aa rfl) (ad (aa rfl) af)) hl) aj (by rw[mP,decide_eq_false (by omega)])))
 exact main rs 0 .un .un hp
theorem xR{T:List Int}{rs:List Rl}(hp:Pts T.length rs)(hz:rs.length<=16000000)(hm:∀r∈rs,∀w,r.w=some w->0<=w/\w<=99):nj [.list (rs.map rl),.list (T.map ε)]=M.ret (.int (rs.map (cst T)).sum):=by
 have main:∀(rs:List Rl) (x0:Sl),Pts T.length rs->(∀r∈rs,∀w,r.w=some w->0<=w/\w<=99)->∃l:List Int,l.sum=(rs.map (cst T)).sum/\bP (tgN 0) (nX (eG (dB (aI (λds=>noX (aP ds)) (ae (ac 0) ai))))) (nX (d2 oe (d2 oIx (ac 0) (dC (.int 3))) (aI (λds=>noX (fW ds)) (ae (ac 0) (ae (ac 1) ai))))) (rs.map rl) [x0,.vl (.list (T.map ε))]=M.ret (l.map ε):=by
  intro rs
  induction rs with
  | nil=>intro x0 _ _;exact⟨[],rfl,rfl⟩
  | cons r rs ih =>
   intro x0 h hw
   have hk:=ku r
   have hl:=ou (T:=T) (h r ο).1 (h r ο).2
   obtain⟨l,s,ih⟩:=ih (.vl (rl r)) (λq hq=>h q (ι _ hq)) λq hq=>hw q (ι _ hq)
   rw[Θ,Θ,V3]
   cases e:r.w with
   | none =>
    rw[e] at hk
    exact⟨l,by rw[s,show cst T r=0 by unfold cst;rw[e],Int.zero_add],oM (δ':=[.vl (rl r),.vl (.list (T.map ε))]) rfl (bH (b:=true) (aC (az (ad (aa rfl) af) hk))) ih⟩
   | some w =>
    rw[e] at hk
    have hw1:=hw r ο w e
    have g3:oIx (rl r) (.int 3)=some (.int w):=by rw[gx,e];rfl
    exact⟨cst T r::l,by rw[V3,s],oK (δ':=[.vl (rl r),.vl (.list (T.map ε))]) rfl (bH (b:=false) (aC (az (ad (aa rfl) af) hk))) (ag (ag (aa rfl) aj g3) (az (ad (aa rfl) (ad (aa rfl) af)) hl) (by unfold cst;rw[e];exact pL (rC (by omega) (by omega)))) ih⟩
 obtain⟨l,s,h⟩:=main rs .un hp hm
 refine aE ?_
 unfold qR
 rw[<-s]
 exact aO (bt (ad (bO (cM (aa rfl) rfl) (ax (by rw[θ];exact hz)) h) af) (tZ l))
noncomputable def lW:D->Bool
 | .none=>true
 | .bool _=>true
 | .int _=>true
 | .str _=>true
 | _=>false
noncomputable def sH:D->Bool
 | .int _=>true
 | _=>false
theorem o9(h:lW d=true):dG [d]=M.ret (.bool (sH d)):=by
 cases d with
 | int f=>rfl
 | none=>rfl
 | bool b=>rfl
 | str b=>rfl
 | _=>cases h
def may(r:Rl)(f:Int):Prop:=0<=f/\∀w,r.w=some w->f<=w
def MayD(r:Rl)(d:D):Prop:=∃f,d=.int f/\may r f
theorem mayD_ev(r:Rl)(h:lW d=true):∃b:Bool,cR [rl r,d]=M.ret (.bool b)/\(b=true↔MayD r d):=by
 have hw:=o9 h
 have hk:=ku r
 cases hi:sH d with
 | false =>
  rw[hi] at hw
  refine⟨false,aE (bG (b:=true) (gI (bH (b:=false) (aC (az (ad (aa rfl) af) hw)))) (b7 rfl (b9 (aO aj)))),λz=>(nomatch z),λ⟨f,e,_⟩=>?_⟩
  rw[e] at hi
  cases hi
 | true =>
  rw[hi] at hw
  cases d with
  | int f =>
   by_cases h0:0<=f
   ·have p:∀{g:DS->M Out} {r':M Out},g [.vl (rl r),.vl (.int f)]=r'->aM (gIf (dOr (eG (dB (aI (λds=>noX (dG ds)) (ae (ac 1) ai)))) (dB (d2 oLt (ac 1) (dC (.int 0))))) (bW (dC (.bool false))) cA) g [.vl (rl r),.vl (.int f)]=r':=λh=>eW (b:=false) (bM (bH (b:=true) (aC (az (ad (aa rfl) af) hw))) (aC (ag (aa rfl) aj (by rw[nZ,decide_eq_false (by omega)])))) rfl h
    cases e:r.w with
    | none =>
     rw[e] at hk
     exact⟨true,aE (p (aO (ev_orV_t (az (ad (aa rfl) af) hk)))),λ_=>⟨f,rfl,h0,λw hw=>by rw[e] at hw;cases hw⟩,λ_=>rfl⟩
    | some w =>
     rw[e] at hk
     have g3:oIx (rl r) (.int 3)=some (.int w):=by rw[gx,e];rfl
     refine⟨decide (f<=w),aE (p (aO (ev_orV_f (az (ad (aa rfl) af) hk) (ag (aa rfl) (ag (aa rfl) aj g3) rfl)))),λz=>⟨f,rfl,h0,λw' hw=>by rw[e] at hw;cases hw;exact of_decide_eq_true z⟩,λ⟨f',e',h⟩=>?_⟩
     cases e'
     exact decide_eq_true (h.2 w e)
   ·refine⟨false,aE (bG (b:=true) (bM (bH (b:=true) (aC (az (ad (aa rfl) af) hw))) (aC (ag (aa rfl) aj (by rw[nZ,decide_eq_true (by omega)])))) (b7 rfl (b9 (aO aj)))),λz=>(nomatch z),λ⟨f',e',h⟩=>?_⟩
    cases e'
    exact absurd h.1 h0
  | _=>cases hi
theorem xc(l:List Bool):lL (l.map W3)=some l:=by
 induction l with
 | nil=>rfl
 | cons a r ih=>show(lL (r.map W3)).map _=_;rw[ih];rfl
theorem o_all(l:List Bool):su [.list (l.map W3)]=some (.bool (l.all id)):=by
 show(lL (l.map W3)).map _=_
 rw[xc]
 rfl
theorem m6(h:i<n):L2.ixN n (i:Int)=some i:=by
 unfold L2.ixN
 rw[if_pos (by omega),if_pos (by omega),Y8]
theorem vA{o:List Int}{i:Nat}(h:i<o.length):(o.map ε)[i]?=some (.int (o.getD i 0)):=by
 rw[Λ,ψ h,Δ,ψ h]
 rfl
def Kd(d:D):Prop:=isD "list" d=false/\sA d=true\/∃ds,d=.list ds/\ds.length<=1000/\∀e∈ds,lW e=true
theorem qM:∀{ds:List D},(∀e∈ds,lW e=true)->∃b:Bool,(ds.map sH).all id=b/\(b=true↔∃U:List Int,ds=U.map ε)
 | [],_=>⟨true,rfl,λ_=>⟨[],rfl⟩,λ_=>rfl⟩
 | d::ds,h=>by
  obtain⟨b,b1,b2⟩:=qM (ds:=ds) λe he=>h e (ι _ he)
  refine⟨sH d&&b,by rw[<-b1];rfl,λz=>?_,λ⟨U,e⟩=>?_⟩
  ·rw[Z5] at z
   obtain⟨U,hU⟩:=b2.mp z.2
   cases d with
   | int f=>exact⟨f::U,by rw[hU];rfl⟩
   | _=>cases z.1
  ·cases U with
   | nil=>cases e
   | cons f U =>
    rw[Θ,List.cons.injEq] at e
    rw[e.1,b2.mpr ⟨U,e.2⟩]
    rfl
theorem nu:∀(ds:List D) (x:Sl),(∀e∈ds,lW e=true)->bP (tgN 0) (nX cH) (nX (aI (λds=>noX (dG ds)) (ae (ac 0) ai))) ds [x]=M.ret ((ds.map sH).map W3)
 | [],_,_=>rfl
 | d::ds,x,h=>ck (δ':=[.vl d]) rfl (az (ad (aa rfl) af) (o9 (h d ο))) (nu ds _ λe he=>h e (ι _ he))
def Tm(n:Nat)(d:D):Prop:=∃U:List Int,d=.list (U.map ε)/\U.length=n/\U.getD 0 0=0
theorem qL{m:Nat}(hm:m<=900){d:D}(h:Kd d):∃b:Bool,gq [.int (m:Int),d]=M.ret (.bool b)/\(b=true↔Tm (m+1) d):=by
 rcases h with ⟨h1,h2⟩ | ⟨ds,rfl,h1,h2⟩
 ·refine⟨false,aE (bG (b:=true) (gI (bH (b:=false) (aC (by rw[<-h1];exact lC (aa rfl) h2)))) (b7 rfl (b9 (aO aj)))),λz=>(nomatch z),λ⟨U,e,_⟩=>?_⟩
  rw[e] at h1
  cases h1
 ·have hi:dIs "list" (ac 1) [.vl (.int (m:Int)),.vl (.list ds)]=M.ret (.bool true):=lC (d:=.list ds) (aa rfl)
  by_cases hl:ds.length=m+1
  ·obtain⟨b,b1,b2⟩:=qM h2
   have p:∀{g:DS->M Out} {r':M Out},g [.vl (.int (m:Int)),.vl (.list ds)]=r'->aM (gIf (dOr (eG (dB (dIs "list" (ac 1)))) (dB (d2 oNe (dCB cV (ae (ac 1) ai)) (d2 bg (ac 0) (dC (.int 1)))))) (bW (dC (.bool false))) cA) g [.vl (.int (m:Int)),.vl (.list ds)]=r':=λh=>eW (b:=false) (bM (bH (b:=true) (aC hi)) (aC (ag (bt (ad (aa rfl) af) eA) (ag (aa rfl) aj cu) (by rw[jI,hl,decide_eq_true (by omega)];rfl)))) rfl h
   have al:dCB su (ae (bx 1 [] (tgN 0) (dc (ac 1)) cH (aI (λds=>noX (dG ds)) (ae (ac 0) ai))) ai) [.vl (.int (m:Int)),.vl (.list ds)]=M.ret (.bool b):=bt (ad (bO (ds:=ds) (cM (aa rfl) rfl) (ax (by omega)) (nu ds _ h2)) af) (by rw[o_all,b1])
   cases b with
   | false =>
    refine⟨false,aE (p (aO (mn al))),λz=>(nomatch z),λ⟨U,e,_⟩=>?_⟩
    cases e
    exact b2.mpr ⟨U,rfl⟩
   | true =>
    obtain⟨U,rfl⟩:=b2.mp rfl
    rw[θ] at hl
    have g0:=bE (T:=U) (i:=0) (by omega)
    refine⟨decide (U.getD 0 0=0),aE (p (aO (kD al (ag (ag (aa rfl) aj g0) aj mQ)))),λz=>⟨U,rfl,hl,of_decide_eq_true z⟩,λ⟨V,e,_,e2⟩=>decide_eq_true ?_⟩
    have e:U=V:=U7 (f:=ε) (λa b h=>by cases h;rfl) |>.mp (by injection e)
    rw[e]
    exact e2
  ·refine⟨false,aE (bG (b:=true) (bM (bH (b:=true) (aC hi)) (aC (ag (bt (ad (aa rfl) af) eA) (ag (aa rfl) aj cu) (by rw[jI,decide_eq_false (by omega)];rfl)))) (b7 rfl (b9 (aO aj)))),λz=>(nomatch z),λ⟨U,e,e2,_⟩=>?_⟩
   cases e
   rw[θ] at hl
   exact absurd e2 hl
abbrev Fl:=List (Rl×Int)
noncomputable def flD(x:Rl×Int):D:=.tuple [rl x.1,.int x.2]
theorem tE:∀(rs:List Rl) (G:List Int),mN (rs.map rl) (G.map ε)=(rs.zip G).map flD
 | [],_=>rfl
 | _::_,[]=>rfl
 | r::rs,g::G=>by
  show _::mN (rs.map rl) (G.map ε)=_
  rw[tE rs G]
  rfl
noncomputable def mi(o:List Int)(x:Rl×Int):List Int:=(o.set x.1.lo (o.getD x.1.lo 0-x.2)).set x.1.hi ((o.set x.1.lo (o.getD x.1.lo 0-x.2)).getD x.1.hi 0+x.2)
theorem lA(o:List Int)(x:Rl×Int):(mi o x).length=o.length:=by unfold mi;rw[Ω,Ω]
noncomputable def ovr(o:List Int)(l:Fl):List Int:=l.foldl mi o
theorem vj(o:List Int)(l:Fl):(ovr o l).length=o.length:=by
 induction l generalizing o with
 | nil=>rfl
 | cons a r ih=>show(ovr (mi o a) r).length=_;rw[ih,lA]
theorem pZ{n:Nat}(A B C:Sl):∀(l:Fl) (o:List Int) (x4 x5:Sl),o.length=n->(∀x∈l,x.1.lo<n/\x.1.hi<n)->∃y4 y5,im (cn (dR 2 (aU (tgN 4) (aU (tgN 5) dS))) iL) (l.map flD) [A,B,C,.ow (o.map ε),x4,x5]=M.ret (.nx [A,B,C,.ow ((ovr o l).map ε),y4,y5])
 | [],o,x4,x5,_,_=>⟨x4,x5,rfl⟩
 | x::l,o,x4,x5,ho,h=>by
  obtain⟨y4,y5,hI⟩:=pZ A B C l (mi o x) (.vl (rl x.1)) (.vl (.int x.2)) (by rw[lA];exact ho) λy hy=>h y (ι _ hy)
  refine⟨y4,y5,bh ?_ hI⟩
  have h1:=(h x ο).1
  have h2:=(h x ο).2
  refine cB (δ':=[A,B,C,.ow (o.map ε),.vl (rl x.1),.vl (.int x.2)]) rfl ?_
  unfold iL
  have s1:=vI (i:=3) (h:=λi j=>i-j) (fi:=d2 oIx (ac 4) (dC (.int 0))) (f:=ac 5) (δ:=[A,B,C,.ow (o.map ε),.vl (rl x.1),.vl (.int x.2)]) (k:=(x.1.lo:Int)) rfl (ag (x:=rl x.1) (aa rfl) aj rfl) (m6 (by rw[θ,ho];exact h1)) (vA (by rw[ho];exact h1)) (aa rfl)
  rw[<-U6] at s1
  refine aA s1 ?_
  generalize hO:o.set x.1.lo (o.getD x.1.lo 0-x.2)=O'
  have hO':O'.length=n:=by rw[<-hO,Ω];exact ho
  have s2:=vI (i:=3) (h:=λi j=>i+j) (fi:=d2 oIx (ac 4) (dC (.int 1))) (f:=ac 5) (δ:=[A,B,C,.ow (O'.map ε),.vl (rl x.1),.vl (.int x.2)]) (k:=(x.1.hi:Int)) rfl (ag (x:=rl x.1) (aa rfl) aj rfl) (m6 (by rw[θ,hO'];exact h2)) (vA (by rw[hO'];exact h2)) (aa rfl)
  rw[<-U6] at s2
  refine s2.trans ?_
  unfold mi
  rw[hO]
  rfl
theorem tu:∀(O:List Int),((O.map λv=>decide (v=0)).all id)=decide (O=ρ O.length 0)
 | []=>rfl
 | v::O=>by
  rw[Θ,U9,tu O,Φ,X9]
  show(decide (v=0)&&_)=_
  rw[<-Bool.decide_and]
  exact decide_eq_decide.mpr ⟨λ⟨a,b⟩=>by rw[a,<-b],λe=>by
   rw[List.cons.injEq] at e
   exact e⟩
def o7(rs:List Rl)(ds:List D):Prop:=∀(k:Nat) (r:Rl) (d:D),rs[k]?=some r->ds[k]?=some d->MayD r d
theorem sE:∀(rs:List Rl) (ds:List D) (x0 x1:Sl),(∀e∈ds,lW e=true)->ds.length=rs.length->∃bs:List Bool,(bs.all id=true↔o7 rs ds)/\bP (dR 2 (aU (tgN 0) (aU (tgN 1) dS))) (nX cH) (nX (aI (λds=>noX (cR ds)) (ae (ac 0) (ae (ac 1) ai)))) (mN (rs.map rl) ds) [x0,x1]=M.ret (bs.map W3)
 | [],[],_,_,_,_=>⟨[],⟨λ_ k r d h _=>by simp at h,λ_=>rfl⟩,rfl⟩
 | r::rs,d::ds,x0,x1,h,hl=>by
  obtain⟨b,b1,b2⟩:=mayD_ev r (h d ο)
  obtain⟨bs,c1,c2⟩:=sE rs ds (.vl (rl r)) (.vl d) (λe he=>h e (ι _ he)) (by simpa using hl)
  refine⟨b::bs,⟨λz k r' d' e1 e2=>?_,λz=>?_⟩,ck (δ':=[.vl (rl r),.vl d]) rfl (az (ad (aa rfl) (ad (aa rfl) af)) b1) c2⟩
  ·have z:(b&&bs.all id)=true:=z
   rw[Z5] at z
   cases k with
   | zero=>cases e1;cases e2;exact b2.mp z.1
   | succ k=>exact c1.mp z.2 k r' d' e1 e2
  ·show(b&&bs.all id)=true
   rw[b2.mpr (z 0 r d rfl rfl),c1.mpr λk r' d' e1 e2=>z (k+1) r' d' e1 e2]
   rfl
theorem lY:∀{rs:List Rl} {ds:List D},ds.length=rs.length->o7 rs ds->∃G:List Int,ds=G.map ε/\G.length=rs.length
 | [],[],_,_=>⟨[],rfl,rfl⟩
 | r::rs,d::ds,hl,h=>by
  obtain⟨f,e,_⟩:=h 0 r d rfl rfl
  obtain⟨G,g1,g2⟩:=lY (rs:=rs) (ds:=ds) (by simpa using hl) λk r' d' e1 e2=>h (k+1) r' d' e1 e2
  exact⟨f::G,by rw[e,g1];rfl,by rw[Φ,g2,Φ]⟩
theorem uf(hm:m<=900)(hp:Pts (m+1) rs)(hz:rs.length<=1000)(h:Kd d):∃b:Bool,jc [.int (m:Int),.list (rs.map rl),d]=M.ret (.bool b)/\(b=true↔∃G:List Int,d=.list (G.map ε)/\G.length=rs.length/\o7 rs (G.map ε)/\ovr (ρ (m+1) 0) (rs.zip G)=ρ (m+1) 0):=by
 obtain⟨RR,hRR⟩:∃RR:D,RR=.list (rs.map rl):=⟨_,rfl⟩
 have lenR:cV [RR]=some (.int (rs.length:Int)):=by rw[hRR,eA,θ]
 rw[<-hRR]
 rcases h with ⟨h1,h2⟩ | ⟨ds,rfl,h1,h2⟩
 ·refine⟨false,aE (bG (b:=true) (gI (bH (b:=false) (aC (by rw[<-h1];exact lC (aa rfl) h2)))) (b7 rfl (b9 (aO aj)))),λz=>(nomatch z),λ⟨U,e,_⟩=>?_⟩
  rw[e] at h1
  cases h1
 ·have hi:∀a b c:Sl,dIs "list" (ac 2) [.vl (.int (m:Int)),.vl RR,.vl (.list ds),a,b,c]=M.ret (.bool true):=λa b c=>lC (d:=.list ds) (aa rfl)
  by_cases hl:ds.length=rs.length
  ·obtain⟨bs,c1,c2⟩:=sE rs ds .un .un h2 hl
   have zp:∀a b c:Sl,sW (ae (ac 1) (ae (ac 2) ai)) [.vl (.int (m:Int)),.vl RR,.vl (.list ds),a,b,c]=M.ret (mN (rs.map rl) ds):=λa b c=>vF (ad (by rw[<-hRR];exact aa rfl) (ad (aa rfl) af))
   have hzl:(mN (rs.map rl) ds).length<=1000:=by unfold mN;rw[List.length_zipWith,θ];omega
   have p:∀{g:DS->M Out} {r':M Out},g [.vl (.int (m:Int)),.vl RR,.vl (.list ds),.un,.un,.un]=r'->aM (gIf (dOr (eG (dB (dIs "list" (ac 2)))) (dB (d2 oNe (dCB cV (ae (ac 2) ai)) (dCB cV (ae (ac 1) ai))))) (bW (dC (.bool false))) cA) g [.vl (.int (m:Int)),.vl RR,.vl (.list ds),.un,.un,.un]=r':=λh=>eW (b:=false) (bM (bH (b:=true) (aC (hi _ _ _))) (aC (ag (bt (ad (aa rfl) af) eA) (bt (ad (aa rfl) af) lenR) (by rw[jI,hl,decide_eq_true rfl];rfl)))) rfl h
   have al:=bt (ad (bO (n:=2) (js:=[]) (zp .un .un .un) (ax (W1 hzl (by decide))) c2) af) (o_all bs)
   cases hb:bs.all id with
   | false =>
    rw[hb] at al
    refine⟨false,aE (p (bG (b:=true) (bH (b:=false) (aC al)) (b7 rfl (b9 (aO aj))))),λz=>(nomatch z),λ⟨G,e,_,e2,_⟩=>?_⟩
    cases e
    rw[c1.mpr e2] at hb
    cases hb
   | true =>
    rw[hb] at al
    have hG:=c1.mp hb
    obtain⟨G,rfl,gl⟩:=lY hl hG
    obtain⟨y4,y5,hI⟩:=pZ (n:=m+1) (.vl (.int (m:Int))) (.vl RR) (.vl (.list (G.map ε))) (rs.zip G) (ρ (m+1) 0) .un .un (Z1) λx hx=>hp _ (T9 hx).1
    obtain⟨O,hO⟩:∃O,O=ovr (ρ (m+1) 0) (rs.zip G):=⟨_,rfl⟩
    have hOl:O.length=m+1:=by rw[hO,vj,Z1]
    rw[<-hO] at hI
    have zc:∀(O:List Int) (x0:Sl),bP (tgN 0) (nX cH) (nX (d2 oEq (ac 0) (dC (.int 0)))) (O.map ε) [x0]=M.ret ((O.map λv=>decide (v=0)).map W3):=by
     intro O
     induction O with
     | nil=>intro x0;rfl
     | cons v O ih=>intro x0;exact ck (δ':=[.vl (.int v)]) rfl (ag (aa rfl) aj mQ) (ih _)
    have rp:(ρ ((m:Int)+1).toNat (ε 0))=(ρ (m+1) (0:Int)).map ε:=by rw[List.map_replicate];rfl
    refine⟨decide (O=ρ (m+1) 0),aE (p (eW (b:=false) (bH (b:=true) (aC al)) rfl (aA (f8 (ds:=(ρ (m+1) (0:Int)).map ε) (by rw[<-rp];exact jx (d:=.int 0) (k:=(m:Int)+1) (bI (ad aj af) rfl) (ag (aa rfl) aj cu) (by omega) (by omega))) (aA (cY (ds:=(rs.zip G).map flD) (by rw[<-tE];exact zp _ _ _) hI) (um (aO (bt (ad (bO (ds:=O.map ε) (cM (aa rfl) rfl) (ax (by rw[θ];omega)) (zc O _)) af) (by rw[o_all,tu,hOl])))))))),λz=>⟨G,rfl,gl,hG,hO▸of_decide_eq_true z⟩,λ⟨G',e,_,_,e2⟩=>decide_eq_true ?_⟩
    have e:G=G':=U7 (f:=ε) (λa b h=>by cases h;rfl) |>.mp (by injection e)
    rw[hO,e]
    exact e2
  ·refine⟨false,aE (bG (b:=true) (bM (bH (b:=true) (aC (hi _ _ _))) (aC (ag (bt (ad (aa rfl) af) eA) (bt (ad (aa rfl) af) lenR) (by rw[jI,decide_eq_false (by omega)];rfl)))) (b7 rfl (b9 (aO aj)))),λz=>(nomatch z),λ⟨U,e,e2,_⟩=>?_⟩
   cases e
   rw[θ] at hl
   exact absurd e2 hl
theorem xi{rs:List Rl}{G:List Int}(hz:rs.length<=1000)(hb:∀r∈rs,-10000000000<=r.le/\r.le<=10000000000):ni [.list (rs.map rl),.list (G.map ε)]=M.ret (.int ((rs.zip G).map λx=>x.1.le*x.2).sum):=by
 have main:∀(l:Fl) (x0 x1:Sl),(∀x∈l,-10000000000<=x.1.le/\x.1.le<=10000000000)->bP (dR 2 (aU (tgN 0) (aU (tgN 1) dS))) (nX cH) (nX (d2 oe (d2 oIx (ac 0) (dC (.int 2))) (ac 1))) (l.map flD) [x0,x1]=M.ret ((l.map λx=>x.1.le*x.2).map ε):=by
  intro l
  induction l with
  | nil=>intro x0 x1 _;rfl
  | cons x l ih =>
   intro x0 x1 h
   have hx:=h x ο
   exact ck (δ':=[.vl (rl x.1),.vl (.int x.2)]) rfl (ag (x:=.int x.1.le) (ag (x:=rl x.1) (aa rfl) aj rfl) (aa rfl) (pL (rC (by omega) (by omega)))) (ih _ _ λy hy=>h y (ι _ hy))
 refine aE ?_
 unfold qQ
 refine aO (bt (ad (bO (ds:=(rs.zip G).map flD) (by rw[<-tE];exact vF (ad (aa rfl) (ad (aa rfl) af))) (ax (by rw[θ,List.length_zip];omega)) (main _ .un .un λx hx=>hb _ (T9 hx).1)) af) (tZ _))
theorem fstp_at(h1:x.1.lo<o.length)(h2:x.1.hi<o.length):(mi o x).getD p 0=o.getD p 0+x.2*((if x.1.hi=p then 1 else 0)-(if x.1.lo=p then 1 else 0)):=by
 have gs:∀(l:List Int) (i j:Nat) (v:Int),i<l.length->(l.set i v).getD j 0=if i=j then v else l.getD j 0:=λl i j v hi=>by
  rw[Δ,V5]
  by_cases e:i=j
  ·rw[if_pos e,if_pos e,if_pos hi];rfl
  ·rw[if_neg e,if_neg e,Δ]
 unfold mi
 rw[gs _ _ _ _ (by rw[Ω];exact h2),gs _ _ _ _ h1,gs _ _ _ _ h1]
 by_cases e2:x.1.hi=p
 ·rw[if_pos e2,if_pos e2]
  by_cases e1:x.1.lo=p
  ·rw[if_pos (e1.trans e2.symm),if_pos e1,e1];omega
  ·rw[if_neg (λz=>e1 (z.trans e2)),if_neg e1,e2];omega
 ·rw[if_neg e2,if_neg e2]
  by_cases e1:x.1.lo=p
  ·rw[if_pos e1,if_pos e1,e1];omega
  ·rw[if_neg e1,if_neg e1];omega
theorem ovr_at(p:Nat):∀(l:Fl) (o:List Int),(∀x∈l,x.1.lo<o.length/\x.1.hi<o.length)->(ovr o l).getD p 0=o.getD p 0+(l.map λx=>x.2*((if x.1.hi=p then 1 else 0)-(if x.1.lo=p then 1 else 0))).sum
 | [],o,_=>by show o.getD p 0=o.getD p 0+0;omega
 | x::l,o,h=>by
  show(ovr (mi o x) l).getD p 0=_
  rw[ovr_at p l (mi o x) (λy hy=>by rw[lA];exact h y (ι _ hy)),fstp_at (h x ο).1 (h x ο).2,Θ,V3]
  omega
theorem tz(f:Rl×Int->Int):∀(rs:List Rl) (G:List Int),G.length=rs.length->((rs.zip G).map f).sum=TR.sm rs.length λk=>f (rs.getD k r0,G.getD k 0)
 | [],[],_=>rfl
 | r::rs,g::G,h=>by
  rw[List.zip_cons_cons,Θ,V3,tz f rs G (by simpa using h),Φ,qs]
  rfl
theorem Lt.flow(h:Lt m rs T F)(hp:Pts (m+1) rs):o7 rs (F.map ε)/\ovr (ρ (m+1) 0) (rs.zip F)=ρ (m+1) 0:=by
 refine⟨λk r d h1 h2=>?_,?_⟩
 ·rw[Λ] at h2
  obtain⟨f,hf,rfl⟩:=Option.map_eq_some_iff.mp h2
  obtain⟨hk,_⟩:=ς.mp h1
  obtain⟨b1,b2⟩:=h.bb k hk
  have e1:F.getD k 0=f:=by rw[Δ,hf];rfl
  have e2:rs.getD k r0=r:=by rw[Δ,h1];rfl
  rw[e1] at b1 b2
  rw[e2] at b2
  exact⟨f,rfl,b1,b2⟩
 ·refine S5 λp=>?_
  have hl:(ovr (ρ (m+1) 0) (rs.zip F)).length=m+1:=by rw[vj,Z1]
  by_cases hpm:p<m+1
  ·have e:=ovr_at p (rs.zip F) (ρ (m+1) 0) λx hx=>by rw[Z1];exact hp _ (T9 hx).1
   rw[tz _ rs F h.lF,h.cs p hpm,Δ,Δ,X5,if_pos hpm,ψ (by omega)] at e
   rw[X5,if_pos hpm,ψ (by omega)]
   have e:(ovr (ρ (m+1) 0) (rs.zip F))[p]'(by omega)=0+0:=e
   rw[e]
   rfl
  ·rw[Y9 (by omega),Y9 (by rw[Z1];omega)]
structure Rz(m:Nat)(rs:List Rl):Prop where
 hm:m<=900
 p:Pts (m+1) rs
 z:rs.length<=1000
 w:∀r∈rs,∀w,r.w=some w->0<=w/\w<=99
 l:∀r∈rs,-10000000000<=r.le/\r.le<=10000000000
theorem kA{A:List Int}(hA:A.length<=1000):Kd (.list (A.map ε)):=.inr ⟨_,rfl,by rw[θ];exact hA,λx hx=>by
 obtain⟨i,_,rfl⟩:=W8.mp hx;rfl⟩
theorem eq_nil(l:List Int):oEq (.list (l.map ε)) (.list [])=some (.bool (decide (l=[]))):=by
 cases l with
 | nil=>rfl
 | cons a l =>
  obtain⟨h1,h2⟩:=io (jY (a::l))
  have hc:(Ψ ((a::l).map ε)).canLay0=true:=by unfold V2;exact h1
  have hd:(Ψ ((a::l).map ε)).depth<=60:=by unfold PyData.depth;omega
  unfold oEq flat
  rw[hc,show(Ψ []).canLay0=true from rfl,decide_eq_true (by omega:min (Ψ ((a::l).map ε)).depth (Ψ []).depth<=60)]
  rfl
theorem vp{m:Nat}{rs:List Rl}(R:Rz m rs){dT dF:D}(kT:Kd dT)(kF:Kd dF):∃b:Bool,dP [.int (m:Int),.list (rs.map rl),dT,dF]=M.ret (.bool b)/\(b=true↔∃U G:List Int,(dT=.list (U.map ε)/\U.length=m+1/\U.getD 0 0=0)/\(dF=.list (G.map ε)/\G.length=rs.length/\o7 rs (G.map ε)/\ovr (ρ (m+1) 0) (rs.zip G)=ρ (m+1) 0)/\kX (λv=>U.getD v 0) rs/\((rs.zip G).map λx=>x.1.le*x.2).sum=(rs.map (cst U)).sum):=by
 obtain⟨bT,t1,t2⟩:=qL R.hm kT
 obtain⟨bF,f1,f2⟩:=uf R.hm R.p R.z kF
 cases bT with
 | false =>
  refine⟨false,aE (bG (b:=true) (gI (bH (b:=false) (aC (az (ad (aa rfl) (ad (aa rfl) af)) t1)))) (b7 rfl (b9 (aO aj)))),λz=>(nomatch z),λ⟨U,G,a,_⟩=>?_⟩
  exact t2.mpr ⟨U,a⟩
 | true =>
  cases bF with
  | false =>
   refine⟨false,aE (bG (b:=true) (bM (bH (b:=true) (aC (az (ad (aa rfl) (ad (aa rfl) af)) t1))) (bH (b:=false) (aC (az (ad (aa rfl) (ad (aa rfl) (ad (aa rfl) af))) f1)))) (b7 rfl (b9 (aO aj)))),λz=>(nomatch z),λ⟨U,G,_,b,_⟩=>?_⟩
   exact f2.mpr ⟨G,b⟩
  | true =>
   obtain⟨U,rfl,u1,u2⟩:=t2.mp rfl
   obtain⟨G,rfl,g⟩:=f2.mp rfl
   have hb:=xb (T:=U) (rs:=rs) (by rw[u1];exact R.p) (W1 R.z (by decide))
   have hpr:=xR (T:=U) (rs:=rs) (by rw[u1];exact R.p) (W1 R.z (by decide)) R.w
   have hwo:=xi (rs:=rs) (G:=G) R.z R.l
   have inj:∀{A B:List Int},Ψ (A.map ε)=.list (B.map ε)->A=B:=λe=>U7 (f:=ε) (λa b h=>by cases h;rfl) |>.mp (by injection e)
   have hq:=eq_nil (brN U 0 rs)
   generalize hUU:Ψ (U.map ε)=UU at *
   generalize hGG:Ψ (G.map ε)=GG at *
   generalize hRR:Ψ (rs.map rl)=RR at *
   have p:∀{g:DS->M Out} {r':M Out},g [.vl (.int (m:Int)),.vl RR,.vl UU,.vl GG]=r'->aM (gIf (dOr (eG (dB (aI (λds=>noX (gq ds)) (ae (ac 0) (ae (ac 2) ai))))) (eG (dB (aI (λds=>noX (jc ds)) (ae (ac 0) (ae (ac 1) (ae (ac 3) ai))))))) (bW (dC (.bool false))) cA) g [.vl (.int (m:Int)),.vl RR,.vl UU,.vl GG]=r':=λh=>eW (b:=false) (bM (bH (b:=true) (aC (az (ad (aa rfl) (ad (aa rfl) af)) t1))) (bH (b:=true) (aC (az (ad (aa rfl) (ad (aa rfl) (ad (aa rfl) af))) f1)))) rfl h
   have bq:d2 oEq (aI (λds=>noX (kj ds)) (ae (ac 1) (ae (ac 2) ai))) (iA ai) [.vl (.int (m:Int)),.vl RR,.vl UU,.vl GG]=M.ret (.bool (decide (brN U 0 rs=[]))):=ag (az (ad (aa rfl) (ad (aa rfl) af)) hb) (jy af rfl) hq
   by_cases hk:brN U 0 rs=[]
   ·rw[decide_eq_true hk] at bq
    refine⟨_,aE (p (aO (kD bq (ag (az (ad (aa rfl) (ad (aa rfl) af)) hwo) (az (ad (aa rfl) (ad (aa rfl) af)) hpr) mQ)))),λz=>⟨U,G,⟨hUU.symm,u1,u2⟩,⟨hGG.symm,g⟩,(rz rs 0).mp hk,of_decide_eq_true z⟩,λ⟨U',G',a,b,_,c⟩=>decide_eq_true ?_⟩
    rw[inj (hUU.trans a.1),inj (hGG.trans b.1)]
    exact c
   ·rw[decide_eq_false hk] at bq
    refine⟨false,aE (p (aO (mn bq))),λz=>(nomatch z),λ⟨U',G',a,_,c,_⟩=>?_⟩
    rw[<-inj (hUU.trans a.1)] at c
    exact absurd ((rz rs 0).mpr c) hk
end CT
namespace K44
noncomputable def eQ:DS->M Out:=(aM (gIf (dB (d2 oLt (ac 1) (dCB cV (ae (ac 0) ai)))) (bW (d2 oIx (ac 0) (ac 1))) cA)
  (bW (dC (.int 0))))
noncomputable def bK:List D->M D:=run 2 eQ
noncomputable def ly:DS->M Out:=(bW (i9 (dIs "int" (ac 0)) (kS (dIs "bool" (ac 0)))))
noncomputable def bU:List D->M D:=run 1 ly
noncomputable def dO:DS->M Out:=(aM (cv (d2 gn (d2 oe (d2 bg (d2 bg (ac 3) (ac 4)) (dC (.int 1))) (dC (.int 48271))) (dC (.int 2147483647))) (tgN 3))
  (jJ 2 (ac 3)))
noncomputable def ie:DS->M Out:=(aM (gC 2 (cr ai))
  (aM (cv (d2 gn (ac 0) (dC (.int 2147483647))) (tgN 3))
  (aM (eU (kf gY (ae (ac 1) ai)) (tgN 4) dO)
  (lz 2))))
noncomputable def dH:List D->M D:=run 5 ie
noncomputable def er:DS->M Out:=(jJ 2 (d2 oIx (iA (ae (d2 gm (d2 gn (ac 3) (dC (.int 9))) (dC (.int 4))) (ae (d2 gm (d2 gn (ac 3) (d2 bg (d2 oe (dC (.int 2)) (d2 t6 (dC (.int 10)) (dC (.int 9)))) (dC (.int 1)))) (d2 t6 (dC (.int 10)) (dC (.int 9)))) ai))) (d2 gn (ac 0) (dC (.int 2)))))
noncomputable def iQ:DS->M Out:=(aM (gC 2 (cr (ae (dC (.int 0)) ai)))
  (aM (eU (dc (aI (λds=>noX (dH ds)) (ae (ac 0) (ae (ac 1) ai)))) (tgN 3) er)
  (lz 2)))
noncomputable def gg:List D->M D:=run 4 iQ
noncomputable def cP:DS->M Out:=(aM (cv (aI (λds=>noX (dH ds)) (ae (ac 4) (ae (dC (.int 3)) ai))) (tgN 5))
  (aM (cv (d2 gn (ac 4) (dCB cV (ae (ac 0) ai))) (tgN 6))
  (aM (cv (d2 gn (d2 qF (ac 4) (dCB cV (ae (ac 0) ai))) (dCB cV (ae (ac 0) ai))) (tgN 7))
  (aM (cv (d2 gm (d2 oIx (ac 0) (ac 7)) (d2 oIx (ac 0) (ac 6))) (tgN 8))
  (gIf (dB (d2 oEq (d2 gn (d2 qF (d2 oIx (ac 5) (dC (.int 1))) (dC (.int 4))) (dC (.int 3))) (dC (.int 0)))) (jJ 2 (gz (ae (ac 6) (ae (ac 7) (ae (d2 gm (d2 bg (ac 8) (d2 gn (d2 oIx (ac 5) (dC (.int 0))) (dC (.int 13)))) (dC (.int 6))) (ae (d2 gn (d2 oIx (ac 5) (dC (.int 2))) (dC (.int 4))) (ae (gz (ae (dC (.str "soft")) (ae (ac 3) ai))) ai))))))) (aM (cv (d2 oIx (iA (ae (dC (.int 0)) (ae (dC (.int 1)) (ae (d2 gn (d2 oIx (ac 5) (dC (.int 0))) (dC (.int 6))) (ae (d2 gn (d2 oIx (ac 5) (dC (.int 0))) (d2 t6 (dC (.int 10)) (dC (.int 9)))) ai))))) (d2 gn (d2 oIx (ac 5) (dC (.int 1))) (dC (.int 4)))) (tgN 9))
  (jJ 2 (gz (ae (ac 6) (ae (ac 7) (ae (d2 gm (ac 8) (ac 9)) (ae (dC .none) (ae (gz (ae (dC (.str "hard")) (ae (ac 3) ai))) ai)))))))))))))
noncomputable def jq:DS->M Out:=(aM (gC 2 (cr ai))
  (aM (eU (kU (ae (ac 1) ai)) (dR 2 (aU (tgN 3) (aU (tgN 4) dS))) cP)
  (lz 2)))
noncomputable def gU:List D->M D:=run 10 jq
noncomputable def ft:DS->M Out:=(gIf (dB (d2 eM (d2 oIx (ac 3) (dC (.int 3))) (dC .none))) (cv (d2 bg (ac 2) (d2 oe (d2 oIx (ac 3) (dC (.int 3))) (dCB wy (ae (dC (.int 0)) (ae (d2 bg (d2 gm (d2 oIx (ac 3) (dC (.int 2))) (d2 oIx (ac 1) (d2 oIx (ac 3) (dC (.int 1))))) (d2 oIx (ac 1) (d2 oIx (ac 3) (dC (.int 0))))) ai))))) (tgN 2)) cA)
noncomputable def jr:DS->M Out:=(aM (cv (dC (.int 0)) (tgN 2))
  (aM (eU (dc (ac 0)) (tgN 3) ft)
  (bW (ac 2))))
noncomputable def fA:List D->M D:=run 4 jr
noncomputable def bQ:DS->M Out:=(gIf (jD (dB (d2 oIs (d2 oIx (ac 4) (dC (.int 3))) (dC .none))) (dB (d2 oLt (d2 gm (d2 oIx (ac 2) (d2 oIx (ac 4) (dC (.int 1)))) (d2 oIx (ac 2) (d2 oIx (ac 4) (dC (.int 0))))) (d2 oIx (ac 4) (dC (.int 2)))))) (bW (dC (.bool false))) cA)
noncomputable def i6:DS->M Out:=(aM (gIf (dOr (eG (dB (dIs "list" (ac 2)))) (dB (d2 oNe (dCB cV (ae (ac 2) ai)) (d2 bg (ac 0) (dC (.int 1)))))) (bW (dC (.bool false))) cA)
  (aM (gIf (dOr (dB (d2 (ss false) (dC (.bool true)) (bx 1 [] (tgN 0) (dc (ac 2)) cH (kS (aI (λds=>noX (bU ds)) (ae (ac 0) ai)))))) (dB (d2 oNe (d2 oIx (ac 2) (dC (.int 0))) (dC (.int 0))))) (bW (dC (.bool false))) cA)
  (aM (eU (dc (ac 1)) (tgN 4) bQ)
  (bW (d2 oEq (aI (λds=>noX (fA ds)) (ae (ac 1) (ae (ac 2) ai))) (ac 3))))))
noncomputable def cg:List D->M D:=run 5 i6
noncomputable def bJ:DS->M Out:=(aM (gIf (dOr (eG (dB (aI (λds=>noX (bU ds)) (ae (d2 oIx (ac 2) (ac 6)) ai)))) (dOr (dB (d2 oLt (d2 oIx (ac 2) (ac 6)) (dC (.int 0)))) (jD (dB (d2 eM (d2 oIx (ac 7) (dC (.int 3))) (dC .none))) (dB (d2 oGt (d2 oIx (ac 2) (ac 6)) (d2 oIx (ac 7) (dC (.int 3)))))))) (bW (dC (.bool false))) cA)
  (aM (oI 4 (d2 oIx (ac 7) (dC (.int 0))) (mH 4 (d2 gm (d2 oIx (ac 4) (d2 oIx (ac 7) (dC (.int 0)))) (d2 oIx (ac 2) (ac 6)))))
  (aM (oI 4 (d2 oIx (ac 7) (dC (.int 1))) (mH 4 (d2 bg (d2 oIx (ac 4) (d2 oIx (ac 7) (dC (.int 1)))) (d2 oIx (ac 2) (ac 6)))))
  (cv (d2 bg (ac 5) (d2 oe (d2 oIx (ac 2) (ac 6)) (d2 oIx (ac 7) (dC (.int 2))))) (tgN 5)))))
noncomputable def jH:DS->M Out:=(aM (gIf (dOr (eG (dB (dIs "list" (ac 2)))) (dB (d2 oNe (dCB cV (ae (ac 2) ai)) (dCB cV (ae (ac 1) ai))))) (bW (dC (.bool false))) cA)
  (aM (gC 4 (jV (cr (ae (dC (.int 0)) ai)) (d2 bg (ac 0) (dC (.int 1)))))
  (aM (cv (dC (.int 0)) (tgN 5))
  (aM (eU (kU (ae (ac 1) ai)) (dR 2 (aU (tgN 6) (aU (tgN 7) dS))) bJ)
  (wM 4 (bW (i9 (d2 oEq (ac 5) (ac 3)) (d2 oEq (ac 4) (gp (jV (cr (ae (dC (.int 0)) ai)) (d2 bg (ac 0) (dC (.int 1)))))))))))))
noncomputable def dg:List D->M D:=run 8 jH
noncomputable def cE:DS->M Out:=(aM (jJ 3 (d2 bg (d2 bg (ec (ac 0) ce (dW (ac 4))) (iA (ae (d2 gm (d2 oIx (ac 0) (ac 4)) (dC (.int 1))) ai))) (ec (ac 0) (dW (d2 bg (ac 4) (dC (.int 1)))) ce)))
  (jJ 3 (d2 bg (d2 bg (ec (ac 0) ce (dW (ac 4))) (iA (ae (d2 bg (d2 oIx (ac 0) (ac 4)) (dC (.int 1))) ai))) (ec (ac 0) (dW (d2 bg (ac 4) (dC (.int 1)))) ce))))
noncomputable def dA:DS->M Out:=(jJ 3 (d2 bg (d2 bg (ec (ac 0) ce (dW (ac 5))) (iA (ae (ac 6) ai))) (ec (ac 0) (dW (d2 bg (ac 5) (dC (.int 1)))) ce)))
noncomputable def eC:DS->M Out:=(aM (gC 3 (cr (ae (ac 1) (ae (d2 bg (ac 0) (iA (ae (dC (.int 0)) ai))) (ae (ec (ac 0) ce (dW (d1 mR (dC (.int 1))))) (ae (dCB k5 (ae (ac 0) ai)) (ae (dC .none) (ae (bx 1 [] (tgN 0) (dc (ac 0)) cH (d2 bg (ac 0) (dC (.int 1)))) ai))))))))
  (aM (eU (kf wa (ae (dC (.int 1)) (ae (dCB cV (ae (ac 0) ai)) ai))) (tgN 4) cE)
  (aM (cv (d2 gn (ac 2) (dCB cV (ae (ac 0) ai))) (tgN 5))
  (aM (eU (dc (iA (ae (d2 oNe (d2 oIx (ac 0) (ac 5)) (dC (.int 0))) (ae (dC .none) (ae (dCB oStr (ae (ac 5) ai)) ai))))) (tgN 6) dA)
  (lz 3)))))
noncomputable def c8:List D->M D:=run 7 eC
noncomputable def dD:DS->M Out:=(jJ 2 (d2 bg (d2 bg (ec (ac 0) ce (dW (ac 3))) (iA (ae (ac 4) ai))) (ec (ac 0) (dW (d2 bg (ac 3) (dC (.int 1)))) ce)))
noncomputable def cW:DS->M Out:=(aM (gC 2 (cr (ae (d2 bg (ac 0) (iA (ae (dC (.int 0)) ai))) (ae (ec (ac 0) ce (dW (d1 mR (dC (.int 1))))) (ae (dCB k5 (ae (ac 0) ai)) (ae (dC .none) (ae (gp (jV (cr (ae (dC (.int 0)) ai)) (dCB cV (ae (ac 0) ai)))) (ae (bx 1 [] (tgN 0) (dc (ac 0)) cH (d2 bg (ac 0) (dC (.int 1)))) ai))))))))
  (aM (gIf (dB (d2 oGt (dCB cV (ae (ac 0) ai)) (dC (.int 0)))) (aM (cv (d2 gn (ac 1) (dCB cV (ae (ac 0) ai))) (tgN 3))
  (eU (dc (iA (ae (d2 bg (d2 oIx (ac 0) (ac 3)) (dC (.int 1))) (ae (d2 gm (d2 oIx (ac 0) (ac 3)) (dC (.int 1))) (ae (d2 oGt (d2 oIx (ac 0) (ac 3)) (dC (.int 0))) (ae (dC .none) ai)))))) (tgN 4) dD)) cA)
  (lz 2)))
noncomputable def c9:List D->M D:=run 5 cW
noncomputable def rB:DS->M Out:=(aM (cv (aI (λds=>noX (dP ds)) (ae (ac 1) (ae (ac 3) (ae (ac 5) (ae (ac 9) ai))))) (tgN 10))
  (gIf (dOr (eG (dB (dIs "bool" (ac 10)))) (dB (d2 oNe (ac 10) (aI (λds=>noX (cg ds)) (ae (ac 1) (ae (ac 3) (ae (ac 5) (ae (ac 4) ai)))))))) (bW (dC (.bool false))) cA))
noncomputable def rA:DS->M Out:=(aM (cv (aI (λds=>noX (dP ds)) (ae (ac 1) (ae (ac 3) (ae (ac 8) (ae (ac 5) ai))))) (tgN 10))
  (gIf (dOr (eG (dB (dIs "bool" (ac 10)))) (dB (d2 oNe (ac 10) (aI (λds=>noX (dg ds)) (ae (ac 1) (ae (ac 3) (ae (ac 5) (ae (ac 4) ai)))))))) (bW (dC (.bool false))) cA))
noncomputable def g_law:DS->M Out:=(aM (cv (d2 bg (dC (.int 1)) (d2 gn (aI (λds=>noX (bK ds)) (ae (ac 0) (ae (dC (.int 0)) ai))) (dC (.int 6)))) (tgN 1))
  (aM (cv (aI (λds=>noX (gg ds)) (ae (aI (λds=>noX (bK ds)) (ae (ac 0) (ae (dC (.int 1)) ai))) (ae (ac 1) ai))) (tgN 2))
  (aM (cv (aI (λds=>noX (gU ds)) (ae (ac 2) (ae (ec (ac 0) (dW (dC (.int 4))) (dW (dC (.int 34)))) ai))) (tgN 3))
  (aM (cv (aI (λds=>noX (cS ds)) (ae (ac 1) (ae (dCB f6 (ae (ac 3) ai)) ai))) (dR 3 (aU (tgN 7) (aU (tgN 8) (aU (tgN 9) dS)))))
  (aM (cv (aI (λds=>noX (fA ds)) (ae (ac 3) (ae (ac 8) ai))) (tgN 4))
  (aM (gIf (dOr (dB (d2 eM (aI (λds=>noX (dP ds)) (ae (ac 1) (ae (ac 3) (ae (ac 8) (ae (ac 9) ai))))) (dC (.bool true)))) (eG (dB (aI (λds=>noX (cg ds)) (ae (ac 1) (ae (ac 3) (ae (ac 8) (ae (ac 4) ai)))))))) (bW (dC (.bool false))) cA)
  (aM (eU (dc (aI (λds=>noX (c8 ds)) (ae (ac 8) (ae (ac 2) (ae (aI (λds=>noX (bK ds)) (ae (ac 0) (ae (dC (.int 2)) ai))) ai))))) (tgN 5) rB)
  (aM (eU (dc (aI (λds=>noX (c9 ds)) (ae (ac 9) (ae (aI (λds=>noX (bK ds)) (ae (ac 0) (ae (dC (.int 3)) ai))) ai)))) (tgN 5) rA)
  (aM (cv (iA (ae (dCB f6 (ae (ac 8) ai)) (ae (dCB f6 (ae (ac 9) ai)) (ae (dCB f6 (ae (ac 3) ai)) ai)))) (tgN 6))
  (bW (i9 (d2 oIs (aI (λds=>noX (dP ds)) (ae (ac 1) (ae (d2 oIx (ac 6) (dC (.int 2))) (ae (d2 oIx (ac 6) (dC (.int 0))) (ae (d2 oIx (ac 6) (dC (.int 1))) ai))))) (dC (.bool true))) (d2 oEq (ac 6) (iA (ae (ac 8) (ae (ac 9) (ae (ac 3) ai))))))))))))))))
noncomputable def vW:List D->M D:=run 11 g_law
theorem jF(ns:List Int)(k:Int)(k0:0<=k):∃c,bK [.list (ns.map ε),.int k]=M.ret (.int c):=by
 by_cases h:k.toNat<ns.length
 ·refine⟨ns[k.toNat],aE ?_⟩
  unfold eQ
  refine bG (b:=true) (aC (ag (aa rfl) (bt (ad (aa rfl) af) eA) (by rw[nZ,θ,decide_eq_true (by omega)]))) (b7 rfl (b9 (aO (ag (aa rfl) (aa rfl) (k9 k0 ?_)))))
  rw[Λ,ψ h]
  rfl
 ·refine⟨0,aE ?_⟩
  unfold eQ
  exact bG (b:=false) (aC (ag (aa rfl) (bt (ad (aa rfl) af) eA) (by rw[nZ,θ,decide_eq_false (by omega)]))) (iF rfl (ev_seqN (aO aj)))
theorem sv(A B:Sl):∀(q i:Nat) (l:List Int) (m:Int) (x:Sl),l.length+q<=1000->∃(l':List Int) (m':Int) (y:Sl),l'.length=l.length+q/\((∀x∈l,0<=x/\x<2147483647)->∀x∈l',0<=x/\x<2147483647)/\im (cn (tgN 4) dO) ((U4 i q).map λj:Nat=>ε (j:Int)) [A,B,.ow (l.map ε),.vl (.int m),x]=M.ret (.nx [A,B,.ow (l'.map ε),.vl (.int m'),y])
 | 0,i,l,m,x,_=>⟨l,m,x,rfl,λh=>h,rfl⟩
 | q+1,i,l,m,x,hz=>by
  obtain⟨v,hv⟩:∃v:Int,v=(m+(i:Int)+1)*48271 % 2147483647:=⟨_,rfl⟩
  obtain⟨l',m',y,h1,h2,h3⟩:=sv A B q (i+1) (l++[v]) v (.vl (.int (i:Int))) (by rw[η];show l.length+1+q<=1000;omega)
  refine⟨l',m',y,by rw[h1,η];show l.length+1+q=_;omega,λh=>h2 λz hz=>?_,?_⟩
  ·rcases Z7.mp hz with hz | hz
   ·exact h z hz
   ·rw[W9] at hz;omega
  ·rw[List.range'_succ,Θ]
   rw[Y4] at h3
   refine bh (cB (δ':=[A,B,.ow (l.map ε),.vl (.int m),.vl (.int (i:Int))]) rfl ?_) h3
   unfold dO
   exact aA (bi (d:=.int v) (by rw[hv];exact ag (ag (ag (ag (aa rfl) (aa rfl) cu) aj cu) aj (pL (bMul_r (by decide) (by decide)))) aj (gB (by decide)))) (iU (d:=.int v) rfl (aa rfl) (ax (by rw[θ];omega)))
theorem oh(c:Int)(n:Nat)(hn:n<=100):∃l:List Int,l.length=n/\(∀x∈l,0<=x/\x<2147483647)/\dH [.int c,.int (n:Int)]=M.ret (.list (l.map ε)):=by
 have hr:gY [.int (n:Int)]=some (b6 0 n):=by
  show(if b62 (n:Int)=true then some (b6 0 (n:Int).toNat) else none)=_
  rw[if_pos (by unfold b62;simp;omega),Y8]
 obtain⟨l,m,y,h1,h2,h3⟩:=sv (.vl (.int c)) (.vl (.int (n:Int))) n 0 [] (c % 2147483647) .un (by show 0+n<=1000;omega)
 refine⟨l,by rw[h1];exact Nat.zero_add n,h2 (λx hx=>nomatch hx),aE ?_⟩
 unfold ie
 refine aA (f8 (ds:=[]) (bI af rfl)) ?_
 refine aA (bi (ag (aa rfl) aj (gB (by decide)))) ?_
 exact aA (cY (jv (ad (aa rfl) af) (by rw[hr,rZ])) h3) rfl
end K44
namespace DL
noncomputable def pk(l:List Int)(i:Int):Int:=l.getD i.toNat 0
theorem ix_pick2(h0:0<=i)(h1:i<2):oIx (.list [.int a,.int b]) (.int i)=some (.int (pk [a,b] i)):=by
 refine k9 h0 ?_
 have:i=0\/i=1:=by omega
 rcases this with rfl | rfl<;>rfl
theorem ix_pick4(h0:0<=i)(h1:i<4):oIx (.list [.int a,.int b,.int c,.int d]) (.int i)=some (.int (pk [a,b,c,d] i)):=by
 refine k9 h0 ?_
 have:i=0\/i=1\/i=2\/i=3:=by omega
 rcases this with rfl | rfl | rfl | rfl<;>rfl
end DL
namespace K44
theorem pk2_bd(ha:lo<=a/\a<=hi)(hb:lo<=b/\b<=hi)(h0:0<=i)(h1:i<2):lo<=pk [a,b] i/\pk [a,b] i<=hi:=by
 have:i=0\/i=1:=by omega
 rcases this with rfl | rfl
 ·exact ha
 ·exact hb
theorem pk4_bd(ha:lo<=a/\a<=hi)(hb:lo<=b/\b<=hi)(hc:lo<=c/\c<=hi)(hd:lo<=d/\d<=hi)(h0:0<=i)(h1:i<4):lo<=pk [a,b,c,d] i/\pk [a,b,c,d] i<=hi:=by
 have:i=0\/i=1\/i=2\/i=3:=by omega
 rcases this with rfl | rfl | rfl | rfl
 ·exact ha
 ·exact hb
 ·exact hc
 ·exact hd
def Tb(T:List Int):Prop:=∀p,-1000000000<=T.getD p 0/\T.getD p 0<=1000000000
theorem Tb_of(h:∀x∈T,-1000000000<=x/\x<=1000000000):Tb T:=λp=>by
 rw[Δ]
 cases e:T[p]? with
 | none=>exact⟨by decide,by decide⟩
 | some x=>exact h x (W4 e)
theorem wJ(c:Int)(m:Nat)(hm:m<=9):∃T:List Int,T.length=m+1/\T.getD 0 0=0/\Tb T/\gg [.int c,.int (m:Int)]=M.ret (.list (T.map ε)):=by
 obtain⟨l,hl,hb,hn⟩:=oh c m (by omega)
 have main:∀(q:List Int) (T:List Int) (x3:Sl),(∀x∈q,0<=x/\x<2147483647)->T.length+q.length<=100->∃(U:List Int) (y3:Sl),U.length=q.length/\(∀x∈U,-1000000000<=x/\x<=1000000000)/\im (cn (tgN 3) er) (q.map ε) [.vl (.int c),.vl (.int (m:Int)),.ow (T.map ε),x3]=M.ret (.nx [.vl (.int c),.vl (.int (m:Int)),.ow ((T++U).map ε),y3]):=by
  intro q
  induction q with
  | nil=>intro T x3 _ _;exact⟨[],x3,rfl,(λx h=>nomatch h),by rw[Z4];rfl⟩
  | cons x q ih =>
   intro T x3 hq hz
   rw[Φ] at hz
   obtain⟨v,hv⟩:∃v:Int,v=(pk [((x % 9)-4),((x % ((2*1000000000)+1))-1000000000)] (c % 2)):=⟨_,rfl⟩
   have hx:=hq x ο
   have hvb : -1000000000<=v/\v<=1000000000:=by
    rw[hv]
    exact pk2_bd (by omega) (by omega) (by omega) (by omega)
   obtain⟨U,y3,h1,h1b,hI⟩:=ih (T++[v]) (.vl (.int x)) (λy hy=>hq y (ι _ hy)) (by rw[η,List.length_singleton];omega)
   refine⟨v::U,y3,by rw[Φ,Φ,h1],λy hy=>?_,?_⟩
   ·rcases Γ.mp hy with rfl | hy
    ·exact hvb
    ·exact h1b y hy
   rw[W2] at hI
   refine bh (cB (δ':=[.vl (.int c),.vl (.int (m:Int)),.ow (T.map ε),.vl (.int x)]) rfl ?_) hI
   unfold er
   rw[show(T++[v]).map ε=T.map ε++[.int v] by rw[Y4];rfl]
   exact iU (ds:=T.map ε) (d:=.int v) rfl (by rw[hv];exact(ag (jy (ad (ag (ag (aa rfl) aj (gB (by first | decide | omega))) aj gA) (ad (ag (ag (aa rfl) (ag (ag aj (ag aj aj t4) (pL (rC (by decide) (by decide)))) aj cu) (gB (by first | decide | omega))) (ag aj aj t4) gA) af)) rfl) (ag (aa rfl) aj (gB (by first | decide | omega))) (ix_pick2 (by omega) (by omega)))) (ax (by rw[θ];omega))
 obtain⟨U,y3,h1,h1b,h2⟩:=main l [0] .un hb (by show 1+_<=_;omega)
 refine⟨0::U,by rw[Φ,h1,hl],rfl,Tb_of λx hx=>?_,aE ?_⟩
 ·rcases Γ.mp hx with rfl | hx
  ·exact⟨by decide,by decide⟩
  ·exact h1b x hx
 unfold iQ
 refine aA (f8 (ds:=[.int 0]) (bI (ad aj af) rfl)) ?_
 exact aA (cY (ds:=l.map ε) (cM (x:=.list (l.map ε)) (az (ad (aa rfl) (ad (aa rfl) af)) hn) rfl) h2) rfl
structure Rk(n:Nat)(T:List Int)(ok:Prop)(r:Rl):Prop where
 lo:r.lo<n
 hi:r.hi<n
 why:∃(x:Str) (k:Int),PyData.strOk x=true/\r.why=.tuple [.str x,.int k]
 w:∀w,r.w=some w->0<=w/\w<=99
 le : -10000000000<=r.le/\r.le<=10000000000
 kp:ok->r.w=none->T.getD r.lo 0+r.le<=T.getD r.hi 0
theorem Rk.lay{n:Nat}{T:List Int}{ok:Prop}{r:Rl}(h:Rk n T ok r):(rl r).canLay0=true/\(rl r).depth<=5:=by
 obtain⟨x,k,hx,hw⟩:=h.why
 unfold rl
 rw[hw]
 cases r.w with
 | none=>exact⟨by simp [wD,V2,U3,hx],by simp [wD,PyData.depth,PyData.depthAll]⟩
 | some w=>exact⟨by simp [wD,V2,U3,hx],by simp [wD,PyData.depth,PyData.depthAll]⟩
theorem Rk.flat{n:Nat}{T:List Int}{ok:Prop}{r:Rl}(h:Rk n T ok r):bL r.why=true:=by
 obtain⟨x,k,hx,hw⟩:=h.why
 rw[hw]
 rfl
theorem qP{l:List Int}{n:Nat}(hl:l.length=n)(hb:∀x∈l,0<=x/\x<2147483647)(i:Nat):0<=l.getD i 0/\l.getD i 0<2147483647:=by
 rw[Δ]
 cases e:l[i]? with
 | none=>exact⟨by decide,by decide⟩
 | some x=>exact hb x (W4 e)
theorem ok_soft:PyData.strOk (Str.ofString "soft")=true:=by decide +kernel
theorem ok_hard:PyData.strOk (Str.ofString "hard")=true:=by decide +kernel
theorem tP{n:Nat}(hn0:0<n)(hn1:n<=100){T:List Int}(hT:T.length=n)(hTb:Tb T)(CC:D)(acc:List D)(hz:acc.length<=1000)(k:Nat)(c:Int)(x3 x4 x5 x6 x7 x8 x9:Sl):∃(r:Rl) (y5 y6 y7 y8 y9:Sl),Rk n T True r/\cn (dR 2 (aU (tgN 3) (aU (tgN 4) dS))) cP (.tuple [.int (k:Int),.int c]) [.vl (.list (T.map ε)),.vl CC,.ow acc,x3,x4,x5,x6,x7,x8,x9]=M.ret (.nx [.vl (.list (T.map ε)),.vl CC,.ow (acc++[rl r]),.vl (.int (k:Int)),.vl (.int c),y5,y6,y7,y8,y9]):=by
 obtain⟨l,hl,hb,hn⟩:=oh c 3 (by decide)
 have hnp:(0:Int)<(n:Int):=by omega
 obtain⟨lo,hlo⟩:∃lo:Nat,(lo:Int)=c % (n:Int):=⟨(c % (n:Int)).toNat,by have:=Int.emod_nonneg c (show(n:Int)≠0 by omega);omega⟩
 obtain⟨hi,hhi⟩:∃hi:Nat,(hi:Int)=c / (n:Int) % (n:Int):=⟨(c / (n:Int) % (n:Int)).toNat,by have:=Int.emod_nonneg (c / (n:Int)) (show(n:Int)≠0 by omega);omega⟩
 have hlo1:lo<n:=by have:=Int.emod_lt_of_pos c hnp;omega
 have hhi1:hi<n:=by have:=Int.emod_lt_of_pos (c / (n:Int)) hnp;omega
 have hlen:cV [.list (T.map ε)]=some (.int (n:Int)):=by rw[eA,θ,hT]
 have gH:oIx (.list (T.map ε)) (.int (hi:Int))=some (.int (T.getD hi 0)):=bE (by omega)
 have gL:oIx (.list (T.map ε)) (.int (lo:Int))=some (.int (T.getD lo 0)):=bE (by omega)
 have b0:=qP hl hb 0
 have b1:=qP hl hb 1
 have b2:=qP hl hb 2
 have tb1:=hTb hi
 have tb2:=hTb lo
 generalize hTT:Ψ (T.map ε)=TT at *
 obtain⟨far,hfar⟩:∃far:Int,far=((T.getD hi 0)-(T.getD lo 0)):=⟨_,rfl⟩
 obtain⟨A,hA⟩:∃A:D,Ψ (l.map ε)=A:=⟨_,rfl⟩
 have pre:∀{R0:Out},(gIf (dB (d2 oEq (d2 gn (d2 qF (d2 oIx (ac 5) (dC (.int 1))) (dC (.int 4))) (dC (.int 3))) (dC (.int 0)))) (jJ 2 (gz (ae (ac 6) (ae (ac 7) (ae (d2 gm (d2 bg (ac 8) (d2 gn (d2 oIx (ac 5) (dC (.int 0))) (dC (.int 13)))) (dC (.int 6))) (ae (d2 gn (d2 oIx (ac 5) (dC (.int 2))) (dC (.int 4))) (ae (gz (ae (dC (.str "soft")) (ae (ac 3) ai))) ai))))))) (aM (cv (d2 oIx (iA (ae (dC (.int 0)) (ae (dC (.int 1)) (ae (d2 gn (d2 oIx (ac 5) (dC (.int 0))) (dC (.int 6))) (ae (d2 gn (d2 oIx (ac 5) (dC (.int 0))) (d2 t6 (dC (.int 10)) (dC (.int 9)))) ai))))) (d2 gn (d2 oIx (ac 5) (dC (.int 1))) (dC (.int 4)))) (tgN 9)) (jJ 2 (gz (ae (ac 6) (ae (ac 7) (ae (d2 gm (ac 8) (ac 9)) (ae (dC .none) (ae (gz (ae (dC (.str "hard")) (ae (ac 3) ai))) ai))))))))) [.vl TT,.vl CC,.ow acc,.vl (.int (k:Int)),.vl (.int c),.vl A,.vl (.int (lo:Int)),.vl (.int (hi:Int)),.vl (.int far),x9]=M.ret R0->cn (dR 2 (aU (tgN 3) (aU (tgN 4) dS))) cP (.tuple [.int (k:Int),.int c]) [.vl TT,.vl CC,.ow acc,x3,x4,x5,x6,x7,x8,x9]=M.ret R0:=λh=>by
  refine cB (δ':=[.vl TT,.vl CC,.ow acc,.vl (.int (k:Int)),.vl (.int c),x5,x6,x7,x8,x9]) rfl ?_
  unfold cP
  refine aA (bi (d:=A) (by rw[<-hA];exact(az (ad (aa rfl) (ad aj af)) hn))) ?_
  refine aA (bi (d:=.int (lo:Int)) (by rw[hlo];exact(ag (aa rfl) (bt (ad (aa rfl) af) hlen) (gB (by first | decide | omega))))) ?_
  refine aA (bi (d:=.int (hi:Int)) (by rw[hhi];exact(ag (ag (aa rfl) (bt (ad (aa rfl) af) hlen) (o_div (rE (by first | decide | omega) (by first | decide | omega)))) (bt (ad (aa rfl) af) hlen) (gB (by first | decide | omega))))) ?_
  refine aA (bi (d:=.int far) (by rw[hfar];exact(ag (ag (aa rfl) (aa rfl) gH) (ag (aa rfl) (aa rfl) gL) gA))) h
 obtain⟨cb,hcb⟩:∃cb,(dB (d2 oEq (d2 gn (d2 qF (d2 oIx (ac 5) (dC (.int 1))) (dC (.int 4))) (dC (.int 3))) (dC (.int 0)))) [.vl TT,.vl CC,.ow acc,.vl (.int (k:Int)),.vl (.int c),.vl A,.vl (.int (lo:Int)),.vl (.int (hi:Int)),.vl (.int far),x9]=M.ret cb:=⟨_,(aC (ag (ag (ag (ag (aa rfl) aj (hA▸bE (T:=l) (i:=1) (by omega))) aj (o_div (rE (by first | decide | omega) (by first | decide | omega)))) aj (gB (by first | decide | omega))) aj mQ))⟩
 cases cb with
 | true =>
  refine⟨⟨lo,hi,((far+((l.getD 0 0) % 13))-6),some (l.getD 2 0 % 4),.tuple [.str "soft",.int (k:Int)]⟩,_,_,_,_,_,⟨hlo1,hhi1,⟨_,_,ok_soft,rfl⟩,(λw hw=>by cases hw;omega),by show -10000000000<=((far+((l.getD 0 0) % 13))-6)/\((far+((l.getD 0 0) % 13))-6)<=10000000000;omega,(λ_ h=>nomatch h)⟩,pre (j6 hcb (b7 rfl (iU (ds:=acc) rfl (eV (ad (aa rfl) (ad (aa rfl) (ad (ag (ag (aa rfl) (ag (ag (aa rfl) aj (hA▸bE (T:=l) (i:=0) (by omega))) aj (gB (by first | decide | omega))) cu) aj gA) (ad (ag (ag (aa rfl) aj (hA▸bE (T:=l) (i:=2) (by omega))) aj (gB (by first | decide | omega))) (ad (eV (ad aj (ad (aa rfl) af)) rfl) af))))) rfl) (ax (by omega)))))⟩
 | false =>
  obtain⟨by9,hby⟩:∃by9:Int,by9=(pk [0,1,((l.getD 0 0) % 6),((l.getD 0 0) % 1000000000)] ((l.getD 1 0) % 4)):=⟨_,rfl⟩
  have hb9:0<=by9/\by9<=1000000000:=by rw[hby];exact pk4_bd (by omega) (by omega) (by omega) (by omega) (by omega) (by omega)
  refine⟨⟨lo,hi,far-by9,none,.tuple [.str "hard",.int (k:Int)]⟩,_,_,_,_,_,⟨hlo1,hhi1,⟨_,_,ok_hard,rfl⟩,(λw hw=>nomatch hw),by show -10000000000<=far-by9/\far-by9<=10000000000;omega,(λ_ _=>by show T.getD lo 0+(far-by9)<=T.getD hi 0;omega)⟩,pre (j6 hcb (iF rfl (aA (bi (d:=.int by9) (by rw[hby];exact(ag (jy (ad aj (ad aj (ad (ag (ag (aa rfl) aj (hA▸bE (T:=l) (i:=0) (by omega))) aj (gB (by first | decide | omega))) (ad (ag (ag (aa rfl) aj (hA▸bE (T:=l) (i:=0) (by omega))) (ag aj aj t4) (gB (by first | decide | omega))) af)))) rfl) (ag (ag (aa rfl) aj (hA▸bE (T:=l) (i:=1) (by omega))) aj (gB (by first | decide | omega))) (ix_pick4 (by omega) (by omega))))) (iU (ds:=acc) rfl (eV (ad (aa rfl) (ad (aa rfl) (ad (ag (aa rfl) (aa rfl) gA) (ad aj (ad (eV (ad aj (ad (aa rfl) af)) rfl) af))))) rfl) (ax (by omega))))))⟩
theorem xL(hn0:0<n)(hn1:n<=100)(hT:T.length=n)(hTb:Tb T)(is:List Int)(hi:is.length<=100):∃rs:List Rl,rs.length=is.length/\(∀r∈rs,Rk n T True r)/\gU [.list (T.map ε),.list (is.map ε)]=M.ret (.list (rs.map rl)):=by
 obtain⟨CC,hCC⟩:∃CC:D,CC=.list (is.map ε):=⟨_,rfl⟩
 have main:∀(q:List Int) (k:Nat) (acc:List Rl) (x3 x4 x5 x6 x7 x8 x9:Sl),acc.length+q.length<=900->∃(rs:List Rl) (y3 y4 y5 y6 y7 y8 y9:Sl),rs.length=q.length/\(∀r∈rs,Rk n T True r)/\im (cn (dR 2 (aU (tgN 3) (aU (tgN 4) dS))) cP) (b5 k (q.map ε)) [.vl (.list (T.map ε)),.vl CC,.ow (acc.map rl),x3,x4,x5,x6,x7,x8,x9]=M.ret (.nx [.vl (.list (T.map ε)),.vl CC,.ow ((acc++rs).map rl),y3,y4,y5,y6,y7,y8,y9]):=by
  intro q
  induction q with
  | nil=>intro k acc x3 x4 x5 x6 x7 x8 x9 _;exact⟨[],_,_,_,_,_,_,_,rfl,(λc h=>nomatch h),by rw[Z4];rfl⟩
  | cons c q ih =>
   intro k acc x3 x4 x5 x6 x7 x8 x9 hz
   rw[Φ] at hz
   obtain⟨r,y5,y6,y7,y8,y9,hk,hs⟩:=tP hn0 hn1 hT hTb CC (acc.map rl) (by rw[θ];omega) k c x3 x4 x5 x6 x7 x8 x9
   obtain⟨rs,z3,z4,z5,z6,z7,z8,z9,i1,i2,hI⟩:=ih (k+1) (acc++[r]) (.vl (.int (k:Int))) (.vl (.int c)) y5 y6 y7 y8 y9 (by rw[η,List.length_singleton];omega)
   refine⟨r::rs,z3,z4,z5,z6,z7,z8,z9,by rw[Φ,Φ,i1],λe he=>?_,?_⟩
   ·rcases Γ.mp he with rfl | he
    ·exact hk
    ·exact i2 e he
   ·rw[Y4] at hI
    rw[W2] at hI
    exact bh hs hI
 obtain⟨rs,y3,y4,y5,y6,y7,y8,y9,h1,h2,h3⟩:=main is 0 [] .un .un .un .un .un .un .un (by show 0+_<=_;omega)
 refine⟨rs,h1,h2,aE ?_⟩
 rw[<-hCC]
 unfold jq
 refine aA (f8 (ds:=[]) (bI af rfl)) ?_
 rw[List.nil_append] at h3
 exact aA (cY (ds:=b5 0 (is.map ε)) (j7 (ad (by rw[<-hCC];exact aa rfl) af)) h3) rfl
theorem nT(hU:U.length=n)(RR UU:D)(hUU:UU=.list (U.map ε)):∀(q:List Rl) (t:Int) (x:Sl),(∀r∈q,r.lo<n/\r.hi<n)->(∀r∈q,∀w,r.w=some w->0<=w/\w<=99)->∃y,im (cn (tgN 3) ft) (q.map rl) [.vl RR,.vl UU,.vl (.int t),x]=M.ret (.nx [.vl RR,.vl UU,.vl (.int (t+(q.map (cst U)).sum)),y])
 | [],t,x,_,_=>⟨x,by rw[List.map_nil,List.map_nil,List.sum_nil,Int.add_zero];rfl⟩
 | r::q,t,x,h,hw=>by
  obtain⟨p1,p2⟩:=h r ο
  have g1:oIx UU (.int (r.lo:Int))=some (.int (U.getD r.lo 0)):=by rw[hUU];exact bE (by omega)
  have g2:oIx UU (.int (r.hi:Int))=some (.int (U.getD r.hi 0)):=by rw[hUU];exact bE (by omega)
  obtain⟨y,ih⟩:=nT hU RR UU hUU q (t+cst U r) (.vl (rl r)) (λa ha=>h a (ι _ ha)) (λa ha=>hw a (ι _ ha))
  refine⟨y,?_⟩
  rw[Θ,Θ,V3,<-Int.add_assoc]
  refine bh (cB (δ':=[.vl RR,.vl UU,.vl (.int t),.vl (rl r)]) rfl ?_) ih
  unfold ft
  cases hrw:r.w with
  | none =>
   rw[show cst U r=0 by unfold cst;rw[hrw],Int.add_zero]
   exact j5 (b:=false) (aC (ag (x:=wD r.w) (ag (aa rfl) aj (gx r)) aj (by rw[hrw];rfl))) rfl
  | some w =>
   have hwb:=hw r ο w hrw
   have g3:oIx (rl r) (.int 3)=some (.int w):=by rw[gx,hrw];rfl
   rw[show cst U r=w*max 0 (r.le-U.getD r.hi 0+U.getD r.lo 0) by unfold cst;rw[hrw]]
   refine j6 (b:=true) (aC (ag (x:=wD r.w) (ag (aa rfl) aj (gx r)) aj (by rw[hrw];rfl))) (b7 rfl ?_)
   exact bi (ag (aa rfl) (ag (ag (aa rfl) aj g3) (bt (ad aj (ad (ag (ag (ag (aa rfl) aj (k8 r)) (ag (aa rfl) (ag (aa rfl) aj (eN r)) g2) gA) (ag (aa rfl) (ag (aa rfl) aj (fQ r)) g1) cu) af)) o_max) (pL (rC (by omega) (by omega)))) cu)
theorem lm(hp:Pts n rs)(hU:U.length=n)(hw:∀r∈rs,∀w,r.w=some w->0<=w/\w<=99):fA [.list (rs.map rl),.list (U.map ε)]=M.ret (.int (rs.map (cst U)).sum):=by
 obtain⟨RR,hRR⟩:∃RR:D,RR=.list (rs.map rl):=⟨_,rfl⟩
 obtain⟨UU,hUU⟩:∃UU:D,UU=.list (U.map ε):=⟨_,rfl⟩
 rw[<-hRR,<-hUU]
 obtain⟨y,h⟩:=nT hU RR UU hUU rs 0 .un hp hw
 rw[Int.zero_add] at h
 refine aE ?_
 unfold jr
 exact aA (bi aj) (aA (cY (cM (x:=RR) (aa rfl) (by rw[hRR];rfl)) h) (aO (aa rfl)))
theorem o8(h:lW d=true):bU [d]=M.ret (.bool (sH d)):=by
 cases d with
 | int f=>rfl
 | none=>rfl
 | bool b=>rfl
 | str b=>rfl
 | _=>cases h
theorem sw:∀(ds:List D) (x:Sl),(∀e∈ds,lW e=true)->bP (tgN 0) (nX cH) (nX (kS (aI (λds=>noX (bU ds)) (ae (ac 0) ai)))) ds [x]=M.ret ((ds.map λd=>!sH d).map W3)
 | [],_,_=>rfl
 | d::ds,x,h=>ck (δ':=[.vl d]) rfl (ev_notV (az (ad (aa rfl) af) (o8 (h d ο)))) (sw ds _ λe he=>h e (ι _ he))
theorem in_true(l:List Bool):ss false (.bool true) (.list (l.map W3))=some (.bool (!(l.map (!·)).all id)):=by
 have h:iD (l.map W3)=some (l.map V.bl):=by
  induction l with
  | nil=>rfl
  | cons a r ih=>rw[Θ,iD,ih];rfl
 show(match nU (.bool true),iD (l.map W3) with | some v,some vs=>some (W3 (if false then !inV v vs else inV v vs)) | _,_=>none)=_
 rw[h]
 show some (W3 (inV (V.bl true) (l.map V.bl)))=_
 congr 2
 unfold inV
 clear h
 induction l with
 | nil=>rfl
 | cons a l ih =>
  rw[Θ,List.any_cons,ih,Θ,U9]
  cases a<;>rfl
theorem i0{m:Nat}{U:List Int}(hU:U.length=m+1)(RR UU CC:D)(hUU:UU=.list (U.map ε)):∀(q:List Rl) (x:Sl),(∀r∈q,r.lo<m+1/\r.hi<m+1)->(kX (λv=>U.getD v 0) q/\∃y,im (cn (tgN 4) bQ) (q.map rl) [.vl (.int (m:Int)),.vl RR,.vl UU,.vl CC,x]=M.ret (.nx [.vl (.int (m:Int)),.vl RR,.vl UU,.vl CC,y]))\/(¬kX (λv=>U.getD v 0) q/\im (cn (tgN 4) bQ) (q.map rl) [.vl (.int (m:Int)),.vl RR,.vl UU,.vl CC,x]=M.ret (.rt (.bool false)))
 | [],x,_=>.inl ⟨(λr hr=>nomatch hr),x,rfl⟩
 | r::q,x,h=>by
  obtain⟨p1,p2⟩:=h r ο
  have g1:oIx UU (.int (r.lo:Int))=some (.int (U.getD r.lo 0)):=by rw[hUU];exact bE (by omega)
  have g2:oIx UU (.int (r.hi:Int))=some (.int (U.getD r.hi 0)):=by rw[hUU];exact bE (by omega)
  have tst:∀{b:Bool},r.w=none->decide (U.getD r.hi 0-U.getD r.lo 0<r.le)=b->jD (dB (d2 oIs (d2 oIx (ac 4) (dC (.int 3))) (dC .none))) (dB (d2 oLt (d2 gm (d2 oIx (ac 2) (d2 oIx (ac 4) (dC (.int 1)))) (d2 oIx (ac 2) (d2 oIx (ac 4) (dC (.int 0))))) (d2 oIx (ac 4) (dC (.int 2))))) [.vl (.int (m:Int)),.vl RR,.vl UU,.vl CC,.vl (rl r)]=M.ret b:=λhn hb=>lE (aC (ag (x:=wD r.w) (ag (aa rfl) aj (gx r)) aj (by rw[hn];rfl))) (aC (ag (ag (ag (aa rfl) (ag (aa rfl) aj (eN r)) g2) (ag (aa rfl) (ag (aa rfl) aj (fQ r)) g1) gA) (ag (aa rfl) aj (k8 r)) (by rw[nZ,hb])))
  by_cases c:r.w=none/\U.getD r.hi 0-U.getD r.lo 0<r.le
  ·refine .inr ⟨λhk=>?_,?_⟩
   ·have:U.getD r.lo 0+r.le<=U.getD r.hi 0:=hk r ο c.1
    omega
   ·show M.thn _ _=_
    rw[show cn (tgN 4) bQ (rl r) [.vl (.int (m:Int)),.vl RR,.vl UU,.vl CC,x]=M.ret (.rt (.bool false)) from cB (δ':=[.vl (.int (m:Int)),.vl RR,.vl UU,.vl CC,.vl (rl r)]) rfl (j6 (tst c.1 (decide_eq_true c.2)) (b7 rfl (aO aj)))]
    rfl
  ·have bd:cn (tgN 4) bQ (rl r) [.vl (.int (m:Int)),.vl RR,.vl UU,.vl CC,x]=M.ret (.nx [.vl (.int (m:Int)),.vl RR,.vl UU,.vl CC,.vl (rl r)]):=by
    refine cB (δ':=[.vl (.int (m:Int)),.vl RR,.vl UU,.vl CC,.vl (rl r)]) rfl ?_
    cases e:r.w with
    | some w=>exact j5 (b:=false) (oN (aC (ag (x:=wD r.w) (ag (aa rfl) aj (gx r)) aj (by rw[e];rfl)))) rfl
    | none=>exact j5 (b:=false) (tst e (decide_eq_false λz=>c ⟨e,z⟩)) rfl
   rcases i0 hU RR UU CC hUU q (.vl (rl r)) (λa ha=>h a (ι _ ha)) with ⟨i1,y,i2⟩ | ⟨i1,i2⟩
   ·refine .inl ⟨λa ha hn=>?_,y,bh bd i2⟩
    rcases Γ.mp ha with rfl | ha
    ·show U.getD a.lo 0+a.le<=U.getD a.hi 0
     rcases Int.lt_or_le (U.getD a.hi 0-U.getD a.lo 0) a.le with z | z
     ·exact absurd ⟨hn,z⟩ c
     ·omega
    ·exact i1 a ha hn
   ·exact .inr ⟨λhk=>i1 λa ha=>hk a (ι _ ha),bh bd i2⟩
theorem qi{m:Nat}{rs:List Rl}(R:Rz m rs)(C:Int){d:D}(h:Kd d):∃b:Bool,cg [.int (m:Int),.list (rs.map rl),d,.int C]=M.ret (.bool b)/\(b=true↔∃U:List Int,(d=.list (U.map ε)/\U.length=m+1/\U.getD 0 0=0)/\kX (λv=>U.getD v 0) rs/\(rs.map (cst U)).sum=C):=by
 have hm:=R.hm
 obtain⟨RR,hRR⟩:∃RR:D,RR=.list (rs.map rl):=⟨_,rfl⟩
 rw[<-hRR]
 rcases h with ⟨h1,h2⟩ | ⟨ds,rfl,h1,h2⟩
 ·refine⟨false,aE (bG (b:=true) (gI (bH (b:=false) (aC (by rw[<-h1];exact lC (aa rfl) h2)))) (b7 rfl (b9 (aO aj)))),λz=>(nomatch z),λ⟨U,⟨e,_⟩,_⟩=>?_⟩
  rw[e] at h1
  cases h1
 ·have hi:dIs "list" (ac 2) [.vl (.int (m:Int)),.vl RR,.vl (.list ds),.vl (.int C),.un]=M.ret (.bool true):=lC (d:=.list ds) (aa rfl)
  by_cases hl:ds.length=m+1
  ·obtain⟨b,b1,b2⟩:=qM h2
   have al:d2 (ss false) (dC (.bool true)) (bx 1 [] (tgN 0) (dc (ac 2)) cH (kS (aI (λds=>noX (bU ds)) (ae (ac 0) ai)))) [.vl (.int (m:Int)),.vl RR,.vl (.list ds),.vl (.int C),.un]=M.ret (.bool (!b)):=ag aj (bO (ds:=ds) (cM (aa rfl) rfl) (ax (by omega)) (sw ds _ h2)) (by
    rw[in_true,Y5,<-b1]
    congr 4
    exact V8 λd _=>Bool.not_not _)
   have p1:∀{g:DS->M Out} {r':M Out},g [.vl (.int (m:Int)),.vl RR,.vl (.list ds),.vl (.int C),.un]=r'->aM (gIf (dOr (eG (dB (dIs "list" (ac 2)))) (dB (d2 oNe (dCB cV (ae (ac 2) ai)) (d2 bg (ac 0) (dC (.int 1)))))) (bW (dC (.bool false))) cA) g [.vl (.int (m:Int)),.vl RR,.vl (.list ds),.vl (.int C),.un]=r':=λh=>eW (b:=false) (bM (bH (b:=true) (aC hi)) (aC (ag (bt (ad (aa rfl) af) eA) (ag (aa rfl) aj cu) (by rw[jI,hl,decide_eq_true (by omega)];rfl)))) rfl h
   have inj:∀{A B:List Int},Ψ (A.map ε)=.list (B.map ε)->A=B:=λe=>U7 (f:=ε) (λa b h=>by cases h;rfl) |>.mp (by injection e)
   cases b with
   | false =>
    refine⟨false,aE (p1 (bG (b:=true) (gI (aC al)) (b7 rfl (b9 (aO aj))))),λz=>(nomatch z),λ⟨U,⟨e,_⟩,_⟩=>?_⟩
    cases e
    exact b2.mpr ⟨U,rfl⟩
   | true =>
    obtain⟨U,rfl⟩:=b2.mp rfl
    rw[θ] at hl
    have g0:=bE (T:=U) (i:=0) (by omega)
    by_cases h0:U.getD 0 0=0
    ·have hpr:=lm (n:=m+1) (rs:=rs) (U:=U) R.p hl R.w
     rw[<-hRR] at hpr
     obtain⟨UU,hUU⟩:∃UU:D,UU=.list (U.map ε):=⟨_,rfl⟩
     have hkl:=i0 (m:=m) (U:=U) hl RR UU (.int C) hUU rs .un R.p
     rw[<-hUU] at al hi g0 hpr p1 ⊢
     have st:∀{g:DS->M Out} {r':M Out},g [.vl (.int (m:Int)),.vl RR,.vl UU,.vl (.int C),.un]=r'->aM (gIf (dOr (dB (d2 (ss false) (dC (.bool true)) (bx 1 [] (tgN 0) (dc (ac 2)) cH (kS (aI (λds=>noX (bU ds)) (ae (ac 0) ai)))))) (dB (d2 oNe (d2 oIx (ac 2) (dC (.int 0))) (dC (.int 0))))) (bW (dC (.bool false))) cA) g [.vl (.int (m:Int)),.vl RR,.vl UU,.vl (.int C),.un]=r':=λh=>eW (b:=false) (bM (aC al) (aC (ag (ag (aa rfl) aj g0) aj (by rw[jI,decide_eq_true h0];rfl)))) rfl h
     have hd:dc (ac 1) [.vl (.int (m:Int)),.vl RR,.vl UU,.vl (.int C),.un]=M.ret (rs.map rl):=cM (x:=RR) (aa rfl) (by rw[hRR];rfl)
     rcases hkl with ⟨k1,y,k2⟩ | ⟨k1,k2⟩
     ·refine⟨_,aE (p1 (st (aA (cY hd k2) (aO (ag (az (ad (aa rfl) (ad (aa rfl) af)) hpr) (aa rfl) mQ))))),λz=>⟨U,⟨hUU,hl,h0⟩,k1,of_decide_eq_true z⟩,λ⟨V,⟨e,_⟩,_,e2⟩=>decide_eq_true ?_⟩
      rw[inj (hUU.symm.trans e)]
      exact e2
     ·refine⟨false,aE (p1 (st (b9 (cY hd k2)))),λz=>(nomatch z),λ⟨V,⟨e,_⟩,e2,_⟩=>?_⟩
      rw[<-inj (hUU.symm.trans e)] at e2
      exact absurd e2 k1
    ·refine⟨false,aE (p1 (bG (b:=true) (bM (aC al) (aC (ag (ag (aa rfl) aj g0) aj (by rw[jI,decide_eq_false h0];rfl)))) (b7 rfl (b9 (aO aj))))),λz=>(nomatch z),λ⟨V,⟨e,_,e2⟩,_⟩=>?_⟩
     rw[<-inj e] at e2
     exact absurd e2 h0
  ·refine⟨false,aE (bG (b:=true) (bM (bH (b:=true) (aC hi)) (aC (ag (bt (ad (aa rfl) af) eA) (ag (aa rfl) aj cu) (by rw[jI,decide_eq_false (by omega)];rfl)))) (b7 rfl (b9 (aO aj)))),λz=>(nomatch z),λ⟨U,⟨e,e2,_⟩,_⟩=>?_⟩
   cases e
   rw[θ] at hl
   exact absurd e2 hl
theorem ub:o7 (r::q) (d::e)↔MayD r d/\o7 q e :=
 ⟨λh=>⟨h 0 r d rfl rfl,λk r' d' e1 e2=>h (k+1) r' d' e1 e2⟩,λh k r' d' e1 e2=>by
  cases k with
  | zero=>cases e1;cases e2;exact h.1
  | succ k=>exact h.2 k r' d' e1 e2⟩
theorem sS(R:Rz m rs)(hq:∀e∈ds,lW e=true)(RR FL CC:D)(hFL:FL=.list ds):∀(q:List Rl) (e:List D) (k:Nat) (o:List Int) (s:Int) (x6 x7:Sl),rs.drop k=q->ds.drop k=e->e.length=q.length->o.length=m+1 ->
  (o7 q e/\∀G:List Int,e=G.map ε->∃y6 y7,im (cn (dR 2 (aU (tgN 6) (aU (tgN 7) dS))) bJ) (b5 k (q.map rl)) [.vl (.int (m:Int)),.vl RR,.vl FL,.vl CC,.ow (o.map ε),.vl (.int s),x6,x7]=M.ret (.nx [.vl (.int (m:Int)),.vl RR,.vl FL,.vl CC,.ow ((ovr o (q.zip G)).map ε),.vl (.int (s+((q.zip G).map λx=>x.1.le*x.2).sum)),y6,y7])) \/
  (¬o7 q e/\im (cn (dR 2 (aU (tgN 6) (aU (tgN 7) dS))) bJ) (b5 k (q.map rl)) [.vl (.int (m:Int)),.vl RR,.vl FL,.vl CC,.ow (o.map ε),.vl (.int s),x6,x7]=M.ret (.rt (.bool false)))
 | [],[],k,o,s,x6,x7,_,_,_,_=>.inl ⟨(λk r d h _=>by simp at h),λG _=>⟨x6,x7,by
   show M.ret (Out.nx [.vl (.int (m:Int)),.vl RR,.vl FL,.vl CC,.ow (o.map ε),.vl (.int s),x6,x7])=M.ret (.nx [.vl (.int (m:Int)),.vl RR,.vl FL,.vl CC,.ow (o.map ε),.vl (.int (s+0)),x6,x7])
   rw[Int.add_zero]⟩⟩
 | r::q,d::e,k,o,s,x6,x7,h1,h2,hl,ho=>by
  have hrk:rs[k]?=some r:=by
   have:=congrArg List.head? h1
   rw[List.head?_drop] at this
   exact this
  have hdk:ds[k]?=some d:=by
   have:=congrArg List.head? h2
   rw[List.head?_drop] at this
   exact this
  have hrm:=W4 hrk
  obtain⟨p1,p2⟩:=R.p r hrm
  have hle:=R.l r hrm
  have hpl:=hq d (W4 hdk)
  have hix:oIx FL (.int (k:Int))=some d:=by
   rw[hFL]
   refine k9 (by omega) ?_
   rw[Y8]
   exact hdk
  have fl:d2 oIx (ac 2) (ac 6) [.vl (.int (m:Int)),.vl RR,.vl FL,.vl CC,.ow (o.map ε),.vl (.int s),.vl (.int (k:Int)),.vl (rl r)]=M.ret d:=ag (aa rfl) (aa rfl) hix
  have cond:∃b:Bool,dOr (eG (dB (aI (λds=>noX (bU ds)) (ae (d2 oIx (ac 2) (ac 6)) ai)))) (dOr (dB (d2 oLt (d2 oIx (ac 2) (ac 6)) (dC (.int 0)))) (jD (dB (d2 eM (d2 oIx (ac 7) (dC (.int 3))) (dC .none))) (dB (d2 oGt (d2 oIx (ac 2) (ac 6)) (d2 oIx (ac 7) (dC (.int 3))))))) [.vl (.int (m:Int)),.vl RR,.vl FL,.vl CC,.ow (o.map ε),.vl (.int s),.vl (.int (k:Int)),.vl (rl r)]=M.ret b/\(b=false↔MayD r d):=by
   have hw:=o8 hpl
   cases hi:sH d with
   | false =>
    rw[hi] at hw
    exact⟨true,gI (bH (b:=false) (aC (az (ad fl af) hw))),λz=>(nomatch z),λ⟨f,z,_⟩=>by rw[z] at hi;cases hi⟩
   | true =>
    rw[hi] at hw
    cases d with
    | int f =>
     have n1:eG (dB (aI (λds=>noX (bU ds)) (ae (d2 oIx (ac 2) (ac 6)) ai))) [.vl (.int (m:Int)),.vl RR,.vl FL,.vl CC,.ow (o.map ε),.vl (.int s),.vl (.int (k:Int)),.vl (rl r)]=M.ret false:=bH (b:=true) (aC (az (ad fl af) hw))
     by_cases h0:0<=f
     ·have n2:dB (d2 oLt (d2 oIx (ac 2) (ac 6)) (dC (.int 0))) [.vl (.int (m:Int)),.vl RR,.vl FL,.vl CC,.ow (o.map ε),.vl (.int s),.vl (.int (k:Int)),.vl (rl r)]=M.ret false:=aC (ag fl aj (by rw[nZ,decide_eq_false (by omega)]))
      cases e:r.w with
      | none =>
       have g3:oIx (rl r) (.int 3)=some .none:=by rw[gx,e];rfl
       exact⟨false,bM n1 (bM n2 (oN (aC (ag (ag (aa rfl) aj g3) aj rfl)))),λ_=>⟨f,rfl,h0,λw hw=>by rw[e] at hw;cases hw⟩,λ_=>rfl⟩
      | some w =>
       have g3:oIx (rl r) (.int 3)=some (.int w):=by rw[gx,e];rfl
       refine⟨decide (w<f),bM n1 (bM n2 (lE (aC (ag (ag (aa rfl) aj g3) aj rfl)) (aC (ag fl (ag (aa rfl) aj g3) mP)))),λz=>⟨f,rfl,h0,λw' hw=>?_⟩,λ⟨f',z,h⟩=>decide_eq_false ?_⟩
       ·rw[e] at hw
        cases hw
        have:=of_decide_eq_false z
        omega
       ·cases z
        have:=h.2 w e
        omega
     ·exact⟨true,bM n1 (gI (aC (ag fl aj (by rw[nZ,decide_eq_true (by omega)])))),λz=>(nomatch z),λ⟨f',z,h⟩=>by cases z;exact absurd h.1 h0⟩
    | _=>cases hi
  obtain⟨b,cb,ci⟩:=cond
  cases b with
  | true =>
   refine .inr ⟨λh=>(nomatch (ci.mpr (ub.mp h).1)),?_⟩
   show M.thn _ _=_
   rw[show cn (dR 2 (aU (tgN 6) (aU (tgN 7) dS))) bJ (.tuple [.int (k:Int),rl r]) [.vl (.int (m:Int)),.vl RR,.vl FL,.vl CC,.ow (o.map ε),.vl (.int s),x6,x7]=M.ret (.rt (.bool false)) from cB (δ':=[.vl (.int (m:Int)),.vl RR,.vl FL,.vl CC,.ow (o.map ε),.vl (.int s),.vl (.int (k:Int)),.vl (rl r)]) rfl (bG cb (b7 rfl (b9 (aO aj))))]
   rfl
  | false =>
   obtain⟨f,rfl,hf⟩:=ci.mp rfl
   have bd:cn (dR 2 (aU (tgN 6) (aU (tgN 7) dS))) bJ (.tuple [.int (k:Int),rl r]) [.vl (.int (m:Int)),.vl RR,.vl FL,.vl CC,.ow (o.map ε),.vl (.int s),x6,x7]=M.ret (.nx [.vl (.int (m:Int)),.vl RR,.vl FL,.vl CC,.ow ((mi o (r,f)).map ε),.vl (.int (s+r.le*f)),.vl (.int (k:Int)),.vl (rl r)]):=by
    refine cB (δ':=[.vl (.int (m:Int)),.vl RR,.vl FL,.vl CC,.ow (o.map ε),.vl (.int s),.vl (.int (k:Int)),.vl (rl r)]) rfl ?_
    unfold bJ
    refine eW cb rfl ?_
    have g1:=bE (T:=o) (i:=r.lo) (by omega)
    have s1:=vG (i:=4) (fi:=d2 oIx (ac 7) (dC (.int 0))) (f:=mH 4 (d2 gm (d2 oIx (ac 4) (d2 oIx (ac 7) (dC (.int 0)))) (d2 oIx (ac 2) (ac 6)))) (δ:=[.vl (.int (m:Int)),.vl RR,.vl FL,.vl CC,.ow (o.map ε),.vl (.int s),.vl (.int (k:Int)),.vl (rl r)]) (d:=.int (o.getD r.lo 0-f)) (k:=(r.lo:Int)) rfl (vH (ag (x:=.int (o.getD r.lo 0)) (y:=.int f) (ag (y:=.int (r.lo:Int)) (aa rfl) (ag (x:=rl r) (aa rfl) aj rfl) g1) (ag (aa rfl) (aa rfl) hix) gA) rfl) (ag (x:=rl r) (aa rfl) aj rfl) (m6 (by rw[θ,ho];exact p1))
    rw[<-U6] at s1
    refine aA s1 ?_
    generalize hO:o.set r.lo (o.getD r.lo 0-f)=O'
    have hO':O'.length=m+1:=by rw[<-hO,Ω];exact ho
    have g2:=bE (T:=O') (i:=r.hi) (by omega)
    have s2:=vG (i:=4) (fi:=d2 oIx (ac 7) (dC (.int 1))) (f:=mH 4 (d2 bg (d2 oIx (ac 4) (d2 oIx (ac 7) (dC (.int 1)))) (d2 oIx (ac 2) (ac 6)))) (δ:=[.vl (.int (m:Int)),.vl RR,.vl FL,.vl CC,.ow (O'.map ε),.vl (.int s),.vl (.int (k:Int)),.vl (rl r)]) (d:=.int (O'.getD r.hi 0+f)) (k:=(r.hi:Int)) rfl (vH (ag (x:=.int (O'.getD r.hi 0)) (y:=.int f) (ag (y:=.int (r.hi:Int)) (aa rfl) (ag (x:=rl r) (aa rfl) aj rfl) g2) (ag (aa rfl) (aa rfl) hix) cu) rfl) (ag (x:=rl r) (aa rfl) aj rfl) (m6 (by rw[θ,hO'];exact p2))
    rw[<-U6] at s2
    refine aA s2 ?_
    unfold mi
    rw[hO]
    exact bi (ag (aa rfl) (ag (x:=.int f) (y:=.int r.le) (d:=.int (r.le*f)) (ag (aa rfl) (aa rfl) hix) (ag (x:=rl r) (aa rfl) aj rfl) (by rw[Int.mul_comm];exact pL (bMul_r (by omega) (by omega)))) cu)
   have h1':rs.drop (k+1)=q:=by rw[<-List.drop_drop,h1];rfl
   have h2':ds.drop (k+1)=e:=by rw[<-List.drop_drop,h2];rfl
   rcases sS R hq RR FL CC hFL q e (k+1) (mi o (r,f)) (s+r.le*f) (.vl (.int (k:Int))) (.vl (rl r)) h1' h2' (by simpa using hl) (by rw[lA];exact ho) with ⟨i1,i2⟩ | ⟨i1,i2⟩
   ·refine .inl ⟨ub.mpr ⟨⟨f,rfl,hf⟩,i1⟩,λG hG=>?_⟩
    cases G with
    | nil=>cases hG
    | cons g G =>
     rw[Θ,List.cons.injEq] at hG
     have hg:f=g:=by injection hG.1
     subst hg
     obtain⟨y6,y7,hI⟩:=i2 G hG.2
     refine⟨y6,y7,?_⟩
     rw[List.zip_cons_cons,Θ,Θ,V3,<-Int.add_assoc]
     exact bh bd hI
   ·exact .inr ⟨λh=>i1 (ub.mp h).2,bh bd i2⟩
theorem eq_ints(a b:List Int):oEq (.list (a.map ε)) (.list (b.map ε))=some (.bool (decide (a=b))):=by
 obtain⟨h1,h2⟩:=io (jY a)
 obtain⟨h3,h4⟩:=io (jY b)
 have hc:(Ψ (a.map ε)).canLay0=true:=by unfold V2;exact h1
 have hc':(Ψ (b.map ε)).canLay0=true:=by unfold V2;exact h3
 have hd:(Ψ (a.map ε)).depth<=60:=by unfold PyData.depth;omega
 unfold oEq flat
 rw[hc,hc',decide_eq_true (by omega:min (Ψ (a.map ε)).depth (Ψ (b.map ε)).depth<=60)]
 show some (W3 (PyData.eqv (.list (a.map ε)) (.list (b.map ε))))=_
 rw[PyData.eqv,sR]
theorem sN(R:Rz m rs)(C:Int)(h:Kd d):∃b:Bool,dg [.int (m:Int),.list (rs.map rl),d,.int C]=M.ret (.bool b)/\(b=true↔∃G:List Int,(d=.list (G.map ε)/\G.length=rs.length/\o7 rs (G.map ε)/\ovr (ρ (m+1) 0) (rs.zip G)=ρ (m+1) 0)/\((rs.zip G).map λx=>x.1.le*x.2).sum=C):=by
 have hm:=R.hm
 obtain⟨RR,hRR⟩:∃RR:D,RR=.list (rs.map rl):=⟨_,rfl⟩
 have lenR:cV [RR]=some (.int (rs.length:Int)):=by rw[hRR,eA,θ]
 rw[<-hRR]
 rcases h with ⟨h1,h2⟩ | ⟨ds,rfl,h1,h2⟩
 ·refine⟨false,aE (bG (b:=true) (gI (bH (b:=false) (aC (by rw[<-h1];exact lC (aa rfl) h2)))) (b7 rfl (b9 (aO aj)))),λz=>(nomatch z),λ⟨U,⟨e,_⟩,_⟩=>?_⟩
  rw[e] at h1
  cases h1
 ·obtain⟨FL,hFL⟩:∃FL:D,FL=.list ds:=⟨_,rfl⟩
  have hi:dIs "list" (ac 2) [.vl (.int (m:Int)),.vl RR,.vl FL,.vl (.int C),.un,.un,.un,.un]=M.ret (.bool true):=by rw[hFL];exact lC (d:=.list ds) (aa rfl)
  have lenF:cV [FL]=some (.int (ds.length:Int)):=by rw[hFL,eA]
  have inj:∀{A B:List Int},Ψ (A.map ε)=.list (B.map ε)->A=B:=λe=>U7 (f:=ε) (λa b h=>by cases h;rfl) |>.mp (by injection e)
  rw[<-hFL]
  by_cases hl:ds.length=rs.length
  ·have rp:(ρ ((m:Int)+1).toNat (ε 0))=(ρ (m+1) (0:Int)).map ε:=by rw[List.map_replicate];rfl
   have rep:∀{a b c e:Sl},jV (cr (ae (dC (.int 0)) ai)) (d2 bg (ac 0) (dC (.int 1))) [.vl (.int (m:Int)),.vl RR,.vl FL,.vl (.int C),a,b,c,e]=M.ret ((ρ (m+1) (0:Int)).map ε):=by
    intro a b c e
    rw[<-rp]
    exact jx (d:=.int 0) (k:=(m:Int)+1) (bI (ad aj af) rfl) (ag (aa rfl) aj cu) (by omega) (by omega)
   have p1:∀{r':M Out} {g:DS->M Out},g [.vl (.int (m:Int)),.vl RR,.vl FL,.vl (.int C),.ow ((ρ (m+1) (0:Int)).map ε),.vl (.int 0),.un,.un]=r'->(aM (gIf (dOr (eG (dB (dIs "list" (ac 2)))) (dB (d2 oNe (dCB cV (ae (ac 2) ai)) (dCB cV (ae (ac 1) ai))))) (bW (dC (.bool false))) cA)
  (aM (gC 4 (jV (cr (ae (dC (.int 0)) ai)) (d2 bg (ac 0) (dC (.int 1)))))
  (aM (cv (dC (.int 0)) (tgN 5)) g))) [.vl (.int (m:Int)),.vl RR,.vl FL,.vl (.int C),.un,.un,.un,.un]=r':=λh=>eW (b:=false) (bM (bH (b:=true) (aC hi)) (aC (ag (bt (ad (aa rfl) af) lenF) (bt (ad (aa rfl) af) lenR) (by rw[jI,hl,decide_eq_true rfl];rfl)))) rfl (aA (f8 rep) (aA (bi aj) h))
   have en:∀{a b c e:Sl},kU (ae (ac 1) ai) [.vl (.int (m:Int)),.vl RR,.vl FL,.vl (.int C),a,b,c,e]=M.ret (b5 0 (rs.map rl)):=by
    intro a b c e
    exact j7 (ad (by rw[<-hRR];exact aa rfl) af)
   rcases sS R h2 RR FL (.int C) hFL rs ds 0 (ρ (m+1) 0) 0 .un .un rfl rfl hl Z1 with ⟨i1,i2⟩ | ⟨i1,i2⟩
   ·obtain⟨G,hG,gl⟩:=lY hl i1
    obtain⟨y6,y7,hI⟩:=i2 G hG
    rw[Int.zero_add] at hI
    obtain⟨S,hS⟩:∃S,S=((rs.zip G).map λx=>x.1.le*x.2).sum:=⟨_,rfl⟩
    obtain⟨O,hO⟩:∃O,O=ovr (ρ (m+1) 0) (rs.zip G):=⟨_,rfl⟩
    rw[<-hS,<-hO] at hI
    have hFG:FL=.list (G.map ε):=by rw[hFL,hG]
    have fin:∃b:Bool,bW (i9 (d2 oEq (ac 5) (ac 3)) (d2 oEq (ac 4) (gp (jV (cr (ae (dC (.int 0)) ai)) (d2 bg (ac 0) (dC (.int 1))))))) [.vl (.int (m:Int)),.vl RR,.vl FL,.vl (.int C),.vl (.list (O.map ε)),.vl (.int S),y6,y7]=M.ret (.rt (.bool b))/\(b=true↔S=C/\O=ρ (m+1) 0):=by
     by_cases hc:S=C
     ·refine⟨_,aO (kD (ag (aa rfl) (aa rfl) (by rw[mQ,decide_eq_true hc])) (ag (aa rfl) (eE rep) (eq_ints O _))),λz=>⟨hc,of_decide_eq_true z⟩,λz=>decide_eq_true z.2⟩
     ·exact⟨false,aO (mn (ag (aa rfl) (aa rfl) (by rw[mQ,decide_eq_false hc]))),λz=>(nomatch z),λz=>absurd z.1 hc⟩
    obtain⟨b,b1,b2⟩:=fin
    refine⟨b,aE (p1 (aA (cY en hI) (um b1))),λz=>?_,λ⟨G',⟨e,_,_,e3⟩,e4⟩=>b2.mpr ?_⟩
    ·obtain⟨z1,z2⟩:=b2.mp z
     exact⟨G,⟨hFG,gl,hG▸i1,hO▸z2⟩,hS▸z1⟩
    ·rw[hS,hO,inj (hFG.symm.trans e)]
     exact⟨e4,e3⟩
   ·refine⟨false,aE (p1 (b9 (cY en i2))),λz=>(nomatch z),λ⟨G',⟨e,_,e2,_⟩,_⟩=>?_⟩
    have:ds=G'.map ε:=by rw[hFL] at e;injection e
    rw[<-this] at e2
    exact absurd e2 i1
  ·refine⟨false,aE (bG (b:=true) (bM (bH (b:=true) (aC hi)) (aC (ag (bt (ad (aa rfl) af) lenF) (bt (ad (aa rfl) af) lenR) (by rw[jI,decide_eq_false (by omega)];rfl)))) (b7 rfl (b9 (aO aj)))),λz=>(nomatch z),λ⟨U,⟨e,e2,_⟩,_⟩=>?_⟩
   rw[hFL] at e
   cases e
   rw[θ] at hl
   exact absurd e2 hl
theorem kd_mid{A B:List Int}{e:D}(he:lW e=true)(hA:A.length<=100)(hB:B.length<=100):Kd (.list (A.map ε++[e]++B.map ε)):=by
 refine .inr ⟨_,rfl,by rw[η,η,θ,θ];show _+1+_<=_;omega,λx hx=>?_⟩
 rcases Z7.mp hx with hx | hx
 ·rcases Z7.mp hx with hx | hx
  ·obtain⟨i,_,rfl⟩:=W8.mp hx;rfl
  ·rw[W9] at hx;rw[hx];exact he
 ·obtain⟨i,_,rfl⟩:=W8.mp hx;rfl
theorem qH{T:List Int}(hT:T.length<=100){TT:D}(hTT:TT=.list (T.map ε)){δ:DS}(h0:δ[0]?=some (.vl TT)){fk fe:DS->M D}{k:Nat}(hk:fk δ=M.ret (.int (k:Int))){e:D}(he:fe δ=M.ret e)(hp:lW e=true):∃d,Kd d/\d2 bg (d2 bg (ec (ac 0) ce (dW fk)) (iA (ae fe ai))) (ec (ac 0) (dW (d2 bg fk (dC (.int 1)))) ce) δ=M.ret d:=by
 have c1:my none (some (k:Int)) TT=some (.list ((T.take k).map ε)):=by rw[hTT,vR,List.map_take]
 have c2:my (some ((k:Int)+1)) none TT=some (.list ((T.drop (k+1)).map ε)):=by
  rw[hTT]
  show some (Ψ (lf (T.map ε) (some ((k+1:Nat):Int)) none))=_
  rw[wX,List.map_drop]
 have l1:(T.take k).length<=100:=by rw[V9];omega
 have l2:(T.drop (k+1)).length<=100:=by rw[List.length_drop];omega
 exact⟨_,kd_mid hp l1 l2,ag (ag (kC (aa h0) i7 (jw hk) c1) (jy (ad he af) rfl) (t5 (ax (by rw[θ];show _+1<=_;omega)))) (kC (aa h0) (jw (ag hk aj cu)) i7 c2) (t5 (ax (by rw[η,θ,θ];show _+1+_<=_;omega)))⟩
theorem sI:∀(fs:List Int) (x0:Sl),bP (tgN 0) (nX cH) (nX (d2 bg (ac 0) (dC (.int 1)))) (fs.map ε) [x0]=M.ret ((fs.map (· + 1)).map ε)
 | [],_=>rfl
 | v::fs,x0=>ck (δ':=[.vl (.int v)]) rfl (ag (aa rfl) aj cu) (sI fs _)
theorem sO{T:List Int}(hT:T.length<=100){TT:D}(hTT:TT=.list (T.map ε)){δ:DS}(h0:δ[0]?=some (.vl TT)):∃a b c e:D,Kd a/\Kd b/\Kd c/\Kd e/\d2 bg (ac 0) (iA (ae (dC (.int 0)) ai)) δ=M.ret a/\ec (ac 0) ce (dW (d1 mR (dC (.int 1)))) δ=M.ret b/\dCB k5 (ae (ac 0) ai) δ=M.ret c/\bx 1 [] (tgN 0) (dc (ac 0)) cH (d2 bg (ac 0) (dC (.int 1))) δ=M.ret e:=by
 refine⟨.list ((T++[0]).map ε),.list (T.dropLast.map ε),.tuple (T.map ε),.list ((T.map (· + 1)).map ε),kA (by rw[η];show _+1<=_;omega),kA (by rw[List.length_dropLast];omega),.inl ⟨rfl,rfl⟩,kA (by rw[θ];omega),?_,?_,?_,?_⟩
 ·rw[Y4]
  exact ag (aa h0) (jy (ad aj af) rfl) (by rw[hTT];exact t5 (ax (by rw[θ];show _+1<=_;omega)))
 ·exact kC (aa h0) i7 (jw (cm (d:=.int (-1)) aj rfl)) (by rw[hTT,vQ,List.map_dropLast])
 ·exact bt (ad (aa h0) af) (by rw[hTT];rfl)
 ·exact bO (ds:=T.map ε) (cM (aa h0) (by rw[hTT];rfl)) (ax (by rw[θ];omega)) (sI T _)
theorem vt:Kd .none:=.inl ⟨rfl,rfl⟩
def AllK(ds:List D):Prop:=∀d∈ds,Kd d
theorem AllK.snoc(h:AllK ds)(k:Kd d):AllK (ds++[d]):=λx hx=>by
 rcases Z7.mp hx with hx | hx
 ·exact h x hx
 ·rw[W9.mp hx];exact k
theorem AllK.cons{ds:List D}{d:D}(k:Kd d)(h:AllK ds):AllK (d::ds):=λx hx=>by
 rcases Γ.mp hx with rfl | hx
 ·exact k
 ·exact h x hx
theorem AllK.nil:AllK []:=λx hx=>nomatch hx
theorem o_str{k:Nat}(h:k<=1000):∃s,oStr [.int (k:Int)]=some (.str s):=by
 refine⟨Str.ofString (toString (k:Int)),?_⟩
 show(if (k:Int).natAbs.log2<1920 then some (PyData.str (Str.ofString (toString (k:Int)))) else none)=_
 rw[if_pos]
 have h:(k:Int).natAbs<2 ^ 30:=by omega
 by_cases z:(k:Int).natAbs=0
 ·rw[z];decide
 ·have:=(Nat.log2_lt z).mpr h
  omega
theorem xr{n:Nat}{T H:List Int}(hT:T.length=n)(hH:H.length=n)(hn0:0<n)(hn:n<=50)(c:Int):∃ds,AllK ds/\c8 [.list (T.map ε),.list (H.map ε),.int c]=M.ret (.list ds):=by
 obtain⟨TT,hTT⟩:∃TT:D,TT=.list (T.map ε):=⟨_,rfl⟩
 obtain⟨HH,hHH⟩:∃HH:D,HH=.list (H.map ε):=⟨_,rfl⟩
 have kH:Kd HH:=by rw[hHH];exact kA (by omega)
 have hlen:cV [TT]=some (.int (n:Int)):=by rw[hTT,eA,θ,hT]
 have gT:∀k:Nat,k<n->oIx TT (.int (k:Int))=some (.int (T.getD k 0)):=λk hk=>by rw[hTT];exact bE (by omega)
 have loop:∀(m k:Nat) (ds:List D) (x4 x5 x6:Sl),k+m=n->ds.length+2*m<=5000->AllK ds->∃(ds':List D) (y4 y5 y6:Sl),ds'.length<=5000/\AllK ds'/\im (cn (tgN 4) cE) ((U4 k m).map λj:Nat=>ε (j:Int)) [.vl TT,.vl HH,.vl (.int c),.ow ds,x4,x5,x6]=M.ret (.nx [.vl TT,.vl HH,.vl (.int c),.ow ds',y4,y5,y6]):=by
  intro m
  induction m with
  | zero=>intro k ds x4 x5 x6 _ hz hU;exact⟨ds,x4,x5,x6,by omega,hU,rfl⟩
  | succ m ih =>
   intro k ds x4 x5 x6 hk hz hU
   obtain⟨a,a1,a2⟩:=qH (T:=T) (by omega) hTT (δ:=[.vl TT,.vl HH,.vl (.int c),.ow ds,.vl (.int (k:Int)),x5,x6]) rfl (fk:=ac 4) (fe:=d2 gm (d2 oIx (ac 0) (ac 4)) (dC (.int 1))) (k:=k) (aa rfl) (ag (ag (aa rfl) (aa rfl) (gT k (by omega))) aj gA) rfl
   obtain⟨b,b1,b2⟩:=qH (T:=T) (by omega) hTT (δ:=[.vl TT,.vl HH,.vl (.int c),.ow (ds++[a]),.vl (.int (k:Int)),x5,x6]) rfl (fk:=ac 4) (fe:=d2 bg (d2 oIx (ac 0) (ac 4)) (dC (.int 1))) (k:=k) (aa rfl) (ag (ag (aa rfl) (aa rfl) (gT k (by omega))) aj cu) rfl
   obtain⟨ds',y4,y5,y6,c1,c2,c3⟩:=ih (k+1) (ds++[a]++[b]) (.vl (.int (k:Int))) x5 x6 (by omega) (by rw[η,η];show _+1+1+_<=_;omega) ((hU.snoc a1).snoc b1)
   refine⟨ds',y4,y5,y6,c1,c2,?_⟩
   rw[List.range'_succ,Θ]
   refine bh (cB (δ':=[.vl TT,.vl HH,.vl (.int c),.ow ds,.vl (.int (k:Int)),x5,x6]) rfl ?_) c3
   unfold cE
   exact aA (iU (ds:=ds) rfl a2 (ax (by omega))) (iU (ds:=ds++[a]) rfl b2 (ax (by rw[η];show _+1+1<=_;omega)))
 obtain⟨a,b,c',e,ka,kb,kc,ke,ha,hb,hc,he⟩:=sO (T:=T) (by omega) hTT (δ:=[.vl TT,.vl HH,.vl (.int c),.un,.un,.un,.un]) rfl
 obtain⟨ds,y4,y5,y6,g1,g2,g3⟩:=loop (n-1) 1 [HH,a,b,c',.none,e] .un .un .un (by omega) (by show 6+2*(n-1)<=5000;omega) (.cons kH (.cons ka (.cons kb (.cons kc (.cons vt (.cons ke .nil))))))
 have hr2:wa [.int 1,.int (n:Int)]=some ((U4 1 (n-1)).map λj:Nat=>ε (j:Int)):=by
  show(if (b62 1&&b62 (n:Int))=true then some (b6 1 ((n:Int)-1).toNat) else none)=_
  rw[if_pos (by unfold b62;simp;omega),show((n:Int)-1).toNat=n-1 by omega]
  unfold b6
  rw[List.range'_eq_map_range,Y5]
  refine congrArg _ (V8 λi _=>?_)
  show ε _=ε _
  congr 1
 have hnp:(0:Int)<(n:Int):=by omega
 obtain⟨at1,hat⟩:∃at1:Nat,(at1:Int)=c % (n:Int):=⟨(c % (n:Int)).toNat,by have:=Int.emod_nonneg c (show(n:Int)≠0 by omega);omega⟩
 have hat1:at1<n:=by have:=Int.emod_lt_of_pos c hnp;omega
 obtain⟨s,hs⟩:=o_str (k:=at1) (by omega)
 have odd:∀(e:D) (ds:List D) (y6:Sl),lW e=true->AllK ds->ds.length<=6000->∃d,Kd d/\cn (tgN 6) dA e [.vl TT,.vl HH,.vl (.int c),.ow ds,y4,.vl (.int (at1:Int)),y6]=M.ret (.nx [.vl TT,.vl HH,.vl (.int c),.ow (ds++[d]),y4,.vl (.int (at1:Int)),.vl e]):=λe ds y6 he hd hz=>by
  obtain⟨d,d1,d2⟩:=qH (T:=T) (by omega) hTT (δ:=[.vl TT,.vl HH,.vl (.int c),.ow ds,y4,.vl (.int (at1:Int)),.vl e]) rfl (fk:=ac 5) (fe:=ac 6) (k:=at1) (aa rfl) (aa rfl) he
  exact⟨d,d1,cB (δ':=[.vl TT,.vl HH,.vl (.int c),.ow ds,y4,.vl (.int (at1:Int)),.vl e]) rfl (iU (ds:=ds) rfl d2 (ax (by omega)))⟩
 obtain⟨d1,k1,o1⟩:=odd (.bool (!decide (T.getD at1 0=0))) ds y6 rfl g2 (by omega)
 obtain⟨d2,k2,o2⟩:=odd .none (ds++[d1]) (.vl (.bool (!decide (T.getD at1 0=0)))) rfl (g2.snoc k1) (by rw[η];show _+1<=_;omega)
 obtain⟨d3,k3,o3⟩:=odd (.str s) (ds++[d1]++[d2]) (.vl .none) rfl ((g2.snoc k1).snoc k2) (by rw[η,η];show _+1+1<=_;omega)
 refine⟨ds++[d1]++[d2]++[d3],((g2.snoc k1).snoc k2).snoc k3,aE ?_⟩
 rw[<-hTT,<-hHH]
 unfold eC
 refine aA (f8 (bI (ad (aa rfl) (ad ha (ad hb (ad hc (ad aj (ad he af)))))) rfl)) ?_
 refine aA (cY (jv (ad aj (ad (bt (ad (aa rfl) af) hlen) af)) hr2) g3) ?_
 refine aA (bi (d:=.int (at1:Int)) (by rw[hat];exact ag (aa rfl) (bt (ad (aa rfl) af) hlen) (gB hnp))) ?_
 refine aA (cY (ds:=[.bool (!decide (T.getD at1 0=0)),.none,.str s]) (cM (jy (ad (ag (ag (aa rfl) (aa rfl) (gT at1 hat1)) aj jI) (ad aj (ad (bt (ad (aa rfl) af) hs) af))) rfl) rfl) (bh o1 (bh o2 (bh o3 rfl)))) rfl
theorem flows_ev{n:Nat}{T:List Int}(hT:T.length=n)(hn:n<=50)(c:Int):∃ds,AllK ds/\c9 [.list (T.map ε),.int c]=M.ret (.list ds):=by
 obtain⟨TT,hTT⟩:∃TT:D,TT=.list (T.map ε):=⟨_,rfl⟩
 have hlen:cV [TT]=some (.int (n:Int)):=by rw[hTT,eA,θ,hT]
 have gT:∀k:Nat,k<n->oIx TT (.int (k:Int))=some (.int (T.getD k 0)):=λk hk=>by rw[hTT];exact bE (by omega)
 obtain⟨a,b,c',e,ka,kb,kc,ke,ha,hb,hc,he⟩:=sO (T:=T) (by omega) hTT (δ:=[.vl TT,.vl (.int c),.un,.un,.un]) rfl
 have hz:=jx (fn:=cr (ae (dC (.int 0)) ai)) (g:=dCB cV (ae (ac 0) ai)) (δ:=[.vl TT,.vl (.int c),.un,.un,.un]) (d:=.int 0) (k:=(n:Int)) (bI (ad aj af) rfl) (bt (ad (aa rfl) af) hlen) (by omega) (by omega)
 have kz:Kd (.list (ρ (n:Int).toNat (.int 0))):=.inr ⟨_,rfl,by rw[Z1];omega,λx hx=>by rw[List.eq_of_mem_replicate hx];rfl⟩
 have k0:AllK [a,b,c',.none,.list (ρ (n:Int).toNat (.int 0)),e]:=.cons ka (.cons kb (.cons kc (.cons vt (.cons kz (.cons ke .nil)))))
 have nl:gC 2 (cr (ae (d2 bg (ac 0) (iA (ae (dC (.int 0)) ai))) (ae (ec (ac 0) ce (dW (d1 mR (dC (.int 1))))) (ae (dCB k5 (ae (ac 0) ai)) (ae (dC .none) (ae (gp (jV (cr (ae (dC (.int 0)) ai)) (dCB cV (ae (ac 0) ai)))) (ae (bx 1 [] (tgN 0) (dc (ac 0)) cH (d2 bg (ac 0) (dC (.int 1)))) ai))))))) [.vl TT,.vl (.int c),.un,.un,.un]=M.ret (.nx [.vl TT,.vl (.int c),.ow [a,b,c',.none,.list (ρ (n:Int).toNat (.int 0)),e],.un,.un]):=f8 (bI (ad ha (ad hb (ad hc (ad aj (ad (eE hz) (ad he af)))))) rfl)
 rw[<-hTT]
 by_cases hn0:0<n
 ·have hnp:(0:Int)<(n:Int):=by omega
  obtain⟨at1,hat⟩:∃at1:Nat,(at1:Int)=c % (n:Int):=⟨(c % (n:Int)).toNat,by have:=Int.emod_nonneg c (show(n:Int)≠0 by omega);omega⟩
  have hat1:at1<n:=by have:=Int.emod_lt_of_pos c hnp;omega
  have odd:∀(e:D) (ds:List D) (y6:Sl),lW e=true->AllK ds->ds.length<=6000->∃d,Kd d/\cn (tgN 4) dD e [.vl TT,.vl (.int c),.ow ds,.vl (.int (at1:Int)),y6]=M.ret (.nx [.vl TT,.vl (.int c),.ow (ds++[d]),.vl (.int (at1:Int)),.vl e]):=λe ds y6 he hd hz=>by
   obtain⟨d,d1,d2⟩:=qH (T:=T) (by omega) hTT (δ:=[.vl TT,.vl (.int c),.ow ds,.vl (.int (at1:Int)),.vl e]) rfl (fk:=ac 3) (fe:=ac 4) (k:=at1) (aa rfl) (aa rfl) he
   exact⟨d,d1,cB (δ':=[.vl TT,.vl (.int c),.ow ds,.vl (.int (at1:Int)),.vl e]) rfl (iU (ds:=ds) rfl d2 (ax (by omega)))⟩
  obtain⟨ds,hds⟩:∃ds:List D,ds=[a,b,c',.none,.list (ρ (n:Int).toNat (.int 0)),e]:=⟨_,rfl⟩
  have hdl:ds.length=6:=by rw[hds];rfl
  rw[<-hds] at nl k0
  obtain⟨d1,k1,o1⟩:=odd (.int (T.getD at1 0+1)) ds .un rfl k0 (by omega)
  obtain⟨d2,k2,o2⟩:=odd (.int (T.getD at1 0-1)) (ds++[d1]) (.vl (.int (T.getD at1 0+1))) rfl (k0.snoc k1) (by rw[η];show _+1<=_;omega)
  obtain⟨d3,k3,o3⟩:=odd (.bool (decide (0<T.getD at1 0))) (ds++[d1]++[d2]) (.vl (.int (T.getD at1 0-1))) rfl ((k0.snoc k1).snoc k2) (by rw[η,η];show _+1+1<=_;omega)
  obtain⟨d4,k4,o4⟩:=odd .none (ds++[d1]++[d2]++[d3]) (.vl (.bool (decide (0<T.getD at1 0)))) rfl (((k0.snoc k1).snoc k2).snoc k3) (by rw[η,η,η];show _+1+1+1<=_;omega)
  refine⟨ds++[d1]++[d2]++[d3]++[d4],(((k0.snoc k1).snoc k2).snoc k3).snoc k4,aE ?_⟩
  unfold cW
  refine aA nl (bG (b:=true) (aC (ag (bt (ad (aa rfl) af) hlen) aj (by rw[mP,decide_eq_true hnp]))) (b7 rfl ?_))
  refine aA (aA (bi (d:=.int (at1:Int)) (by rw[hat];exact ag (aa rfl) (bt (ad (aa rfl) af) hlen) (gB hnp))) (cY (ds:=[.int (T.getD at1 0+1),.int (T.getD at1 0-1),.bool (decide (0<T.getD at1 0)),.none]) (cM (jy (ad (ag (ag (aa rfl) (aa rfl) (gT at1 hat1)) aj cu) (ad (ag (ag (aa rfl) (aa rfl) (gT at1 hat1)) aj gA) (ad (ag (ag (aa rfl) (aa rfl) (gT at1 hat1)) aj mP) (ad aj af)))) rfl) rfl) (bh o1 (bh o2 (bh o3 (bh o4 rfl)))))) rfl
 ·refine⟨_,k0,aE ?_⟩
  unfold cW
  exact aA nl (eW (b:=false) (aC (ag (bt (ad (aa rfl) af) hlen) aj (by rw[mP,decide_eq_false (by omega)]))) rfl rfl)
theorem vn(b:Bool):oNe (.bool b) (.bool b)=some (.bool false):=by cases b<;>rfl
theorem eq_selfD(hc:d.canLay0=true)(hd:d.depth<=60):oEq d d=some (.bool true):=by
 unfold oEq flat
 rw[hc,decide_eq_true (by omega:min d.depth d.depth<=60),SeqAt.eqv_refl _ hc]
 rfl
theorem law_true(ns:List Int)(hl:ns.length<=63):vW [.list (ns.map ε)]=M.ret (.bool true):=by
 obtain⟨c0,hc0⟩:=jF ns 0 (by decide)
 obtain⟨c1,hc1⟩:=jF ns 1 (by decide)
 obtain⟨c2,hc2⟩:=jF ns 2 (by decide)
 obtain⟨c3,hc3⟩:=jF ns 3 (by decide)
 obtain⟨m,hm⟩:∃m:Nat,(m:Int)=1+c0 % 6:=⟨(1+c0 % 6).toNat,by omega⟩
 obtain⟨H,hH,hH0,hHb,hHe⟩:=wJ c1 m (by omega)
 have hcut:∃is:List Int,lf (ns.map ε) (some 4) (some 34)=is.map ε/\is.length<=30:=by
  unfold lf
  refine⟨((ns.drop (HT.sIx (ns.map ε).length 0 (some 4))).take (HT.sIx (ns.map ε).length (ns.map ε).length (some 34)-HT.sIx (ns.map ε).length 0 (some 4))),by rw[<-List.map_drop,<-List.map_take],?_⟩
  rw[V9]
  unfold HT.sIx
  simp
  omega
 obtain⟨is,his,hisl⟩:=hcut
 obtain⟨rs,hrl,hrk,hre⟩:=xL (n:=m+1) (by omega) (by omega) hH hHb is (by omega)
 have hp:Pts (m+1) rs:=λr hr=>⟨(hrk r hr).lo,(hrk r hr).hi⟩
 have R:Rz m rs:=⟨by omega,hp,by omega,λr hr=>(hrk r hr).w,λr hr=>(hrk r hr).le⟩
 have hlt:=least_ev hp (by omega) (by omega) (λr hr w hw=>((hrk r hr).w w hw).1) (λr hr=>(hrk r hr).flat)
 have lst:f6 [.list (rs.map rl)]=some (.list (rs.map rl)):=rfl
 rcases hlt with ⟨L,k1,k2,k3,k4⟩ | ⟨T,F,k1,k2⟩
 ·exfalso
  obtain⟨i1,i2⟩:=isR_of k4
  exact i1.not_kept (t:=λv=>H.getD v 0) λr hr=>(hrk r (i2 r hr)).kp trivial (i1.no r hr)
 obtain⟨C,hC⟩:∃C,C=(rs.map (cst T)).sum:=⟨_,rfl⟩
 obtain⟨f1,f2⟩:=k2.flow hp
 have hwC:((rs.zip F).map λx=>x.1.le*x.2).sum=C:=by
  rw[tz _ rs F k2.lF,hC,<-qr,<-k2.eq]
  exact TR.bN λk _=>Int.mul_comm _ _
 have inj:∀{A B:List Int},Ψ (A.map ε)=.list (B.map ε)->A=B:=λe=>U7 (f:=ε) (λa b h=>by cases h;rfl) |>.mp (by injection e)
 have kT:Kd (.list (T.map ε)):=kA (by rw[k2.lT];omega)
 have kF:Kd (.list (F.map ε)):=kA (by rw[k2.lF];omega)
 have hpr:=lm (U:=T) hp k2.lT R.w
 rw[<-hC] at hpr
 have tim:∀d,Kd d->∃b:Bool,dP [.int (m:Int),.list (rs.map rl),d,.list (F.map ε)]=M.ret (.bool b)/\cg [.int (m:Int),.list (rs.map rl),d,.int C]=M.ret (.bool b)/\(d=.list (T.map ε)->b=true):=λd hd=>by
  obtain⟨b,b1,b2⟩:=vp R hd kF
  obtain⟨b',c1,c2⟩:=qi R C hd
  have e:b=b':=Bool.eq_iff_iff.mpr ⟨λz=>by
   obtain⟨U,G,a,g,k,s⟩:=b2.mp z
   refine c2.mpr ⟨U,a,k,?_⟩
   rw[<-s,<-inj g.1]
   exact hwC,λz=>by
   obtain⟨U,a,k,s⟩:=c2.mp z
   exact b2.mpr ⟨U,F,a,⟨rfl,k2.lF,f1,f2⟩,k,hwC.trans s.symm⟩⟩
  refine⟨b,b1,e▸c1,λz=>b2.mpr ⟨T,F,⟨z,k2.lT,k2.t0⟩,⟨rfl,k2.lF,f1,f2⟩,k2.kp,hwC.trans hC⟩⟩
 have flo:∀d,Kd d->∃b:Bool,dP [.int (m:Int),.list (rs.map rl),.list (T.map ε),d]=M.ret (.bool b)/\dg [.int (m:Int),.list (rs.map rl),d,.int C]=M.ret (.bool b):=λd hd=>by
  obtain⟨b,b1,b2⟩:=vp R kT hd
  obtain⟨b',c1,c2⟩:=sN R C hd
  have e:b=b':=Bool.eq_iff_iff.mpr ⟨λz=>by
   obtain⟨U,G,a,g,_,s⟩:=b2.mp z
   refine c2.mpr ⟨G,g,?_⟩
   rw[s,<-inj a.1]
   exact hC.symm,λz=>by
   obtain⟨G,g,s⟩:=c2.mp z
   exact b2.mpr ⟨T,G,⟨rfl,k2.lT,k2.t0⟩,g,k2.kp,s.trans hC⟩⟩
  exact⟨b,b1,e▸c1⟩
 obtain⟨b0,t1,t2,t3⟩:=tim _ kT
 rw[t3 rfl] at t1 t2
 obtain⟨dT,aT,hdT⟩:=xr (n:=m+1) k2.lT hH (by omega) (by omega) c2
 obtain⟨dF,aF,hdF⟩:=flows_ev (n:=rs.length) k2.lF (by omega) c3
 have lay:∀d∈rs.map rl,d.canLay0=true/\d.depth<=5:=λd hd=>by
  obtain⟨r,hr,rfl⟩:=W8.mp hd
  exact(hrk r hr).lay
 have heq:oEq (.list [.list (T.map ε),.list (F.map ε),.list (rs.map rl)]) (.list [.list (T.map ε),.list (F.map ε),.list (rs.map rl)])=some (.bool true):=by
  obtain⟨a1,a2⟩:=io (jY T)
  obtain⟨b1,b2⟩:=io (jY F)
  obtain⟨c1,c2⟩:=io lay
  exact eq_selfD (by simp [V2,U3,a1,b1,c1]) (by simp [PyData.depth,PyData.depthAll];omega)
 have l1:f6 [.list (T.map ε)]=some (.list (T.map ε)):=rfl
 have l2:f6 [.list (F.map ε)]=some (.list (F.map ε)):=rfl
 generalize hTT:Ψ (T.map ε)=TT at *
 generalize hFF:Ψ (F.map ε)=FF at *
 generalize hHH:Ψ (H.map ε)=HH at *
 generalize hRR:Ψ (rs.map rl)=RR at *
 generalize hNS:Ψ (ns.map ε)=NS at *
 have cut1:my (some 4) (some 34) NS=some (.list (is.map ε)):=by rw[<-hNS,<-his];rfl
 refine aE ?_
 unfold g_law
 have cell:∀(k v:Int) (x:List Sl),bK [NS,.int k]=M.ret (.int v)->aI (λds=>noX (bK ds)) (ae (ac 0) (ae (dC (.int k)) ai)) (.vl NS::x)=M.ret (.int v):=λk v x h=>az (ad (aa rfl) (ad aj af)) h
 refine aA (bi (d:=.int (m:Int)) (by rw[hm];exact ag aj (ag (cell 0 c0 _ hc0) aj (gB (by decide))) cu)) ?_
 refine aA (bi (d:=HH) (az (ad (cell 1 c1 _ hc1) (ad (aa rfl) af)) hHe)) ?_
 refine aA (bi (d:=RR) (az (ds:=[HH,.list (is.map ε)]) (ad (aa rfl) (ad (kC (aa rfl) (jw aj) (jw aj) cut1) af)) hre)) ?_
 refine aA (ev_asgT (δ':=[.vl NS,.vl (.int (m:Int)),.vl HH,.vl RR,.un,.un,.un,.vl (.str "timed"),.vl TT,.vl FF,.un]) (az (ad (aa rfl) (ad (bt (ad (aa rfl) af) lst) af)) k1) rfl) ?_
 refine aA (bi (d:=.int C) (az (ad (aa rfl) (ad (aa rfl) af)) hpr)) ?_
 have four:∀{f1 f2 f3 f4:DS->M D} {δ:DS} {a b c d:D},f1 δ=M.ret a->f2 δ=M.ret b->f3 δ=M.ret c->f4 δ=M.ret d->ae f1 (ae f2 (ae f3 (ae f4 ai))) δ=M.ret [a,b,c,d]:=λh1 h2 h3 h4=>ad h1 (ad h2 (ad h3 (ad h4 af)))
 refine eW (b:=false) (bM (aC (ag (az (four (aa rfl) (aa rfl) (aa rfl) (aa rfl)) t1) aj rfl)) (bH (b:=true) (aC (az (four (aa rfl) (aa rfl) (aa rfl) (aa rfl)) t2)))) rfl ?_
 have nb:∀(b:Bool) (δ:DS),δ[10]?=some (.vl (.bool b))->eG (dB (dIs "bool" (ac 10))) δ=M.ret false:=λb δ h=>bH (b:=true) (aC (lC (d:=.bool b) (aa h)))
 refine sQ (λδ=>∃x5 x10,δ=[.vl NS,.vl (.int (m:Int)),.vl HH,.vl RR,.vl (.int C),x5,.un,.vl (.str "timed"),.vl TT,.vl FF,x10]) (ds:=dT) (cM (az (ad (aa rfl) (ad (aa rfl) (ad (cell 2 c2 _ hc2) af))) hdT) rfl) ⟨_,_,rfl⟩ (λd hd δ hδ=>?_) (λδ hδ=>?_)
 ·obtain⟨x5,x10,rfl⟩:=hδ
  obtain⟨b,b1,b2,_⟩:=tim d (aT d hd)
  refine⟨[.vl NS,.vl (.int (m:Int)),.vl HH,.vl RR,.vl (.int C),.vl d,.un,.vl (.str "timed"),.vl TT,.vl FF,.vl (.bool b)],cB (δ':=[.vl NS,.vl (.int (m:Int)),.vl HH,.vl RR,.vl (.int C),.vl d,.un,.vl (.str "timed"),.vl TT,.vl FF,x10]) rfl ?_,_,_,rfl⟩
  unfold rB
  refine aA (bi (d:=.bool b) (az (four (aa rfl) (aa rfl) (aa rfl) (aa rfl)) b1)) ?_
  exact j5 (b:=false) (bM (nb b _ rfl) (aC (ag (aa rfl) (az (four (aa rfl) (aa rfl) (aa rfl) (aa rfl)) b2) (vn b)))) rfl
 obtain⟨x5,x10,rfl⟩:=hδ
 refine sQ (λδ=>∃x5 x10,δ=[.vl NS,.vl (.int (m:Int)),.vl HH,.vl RR,.vl (.int C),x5,.un,.vl (.str "timed"),.vl TT,.vl FF,x10]) (ds:=dF) (cM (az (ad (aa rfl) (ad (cell 3 c3 _ hc3) af)) hdF) rfl) ⟨_,_,rfl⟩ (λd hd δ hδ=>?_) (λδ hδ=>?_)
 ·obtain⟨x5,x10,rfl⟩:=hδ
  obtain⟨b,b1,b2⟩:=flo d (aF d hd)
  refine⟨[.vl NS,.vl (.int (m:Int)),.vl HH,.vl RR,.vl (.int C),.vl d,.un,.vl (.str "timed"),.vl TT,.vl FF,.vl (.bool b)],cB (δ':=[.vl NS,.vl (.int (m:Int)),.vl HH,.vl RR,.vl (.int C),.vl d,.un,.vl (.str "timed"),.vl TT,.vl FF,x10]) rfl ?_,_,_,rfl⟩
  unfold rA
  refine aA (bi (d:=.bool b) (az (four (aa rfl) (aa rfl) (aa rfl) (aa rfl)) b1)) ?_
  exact j5 (b:=false) (bM (nb b _ rfl) (aC (ag (aa rfl) (az (four (aa rfl) (aa rfl) (aa rfl) (aa rfl)) b2) (vn b)))) rfl
 obtain⟨x5,x10,rfl⟩:=hδ
 refine aA (bi (d:=.list [TT,FF,RR]) (jy (ad (bt (ad (aa rfl) af) l1) (ad (bt (ad (aa rfl) af) l2) (ad (bt (ad (aa rfl) af) lst) af))) rfl)) ?_
 exact aO (kD (ag (az (four (aa rfl) (ag (d:=RR) (aa rfl) aj rfl) (ag (d:=TT) (aa rfl) aj rfl) (ag (d:=FF) (aa rfl) aj rfl)) t1) aj rfl) (ag (aa rfl) (jy (ad (aa rfl) (ad (aa rfl) (ad (aa rfl) af))) rfl) heq))
open PyProof.Rows
noncomputable def top(i:Nat):Stmt:=PySem.Challenge.pw_cuetimer_k44_whole_lets_by_just_these.main.body.getD i (.Pass ⟨0,0,0,0⟩)
noncomputable def mth(s:Stmt)(i:Nat):Stmt:=match s with
 | .ClassDef _ _ _ b _ _ _ _ _ _ _=>b.getD i (.Pass ⟨0,0,0,0⟩)
 | s=>s
local macro_rules | `(tactic| walk_at "L")=>`(tactic| first | exact Or.inl rfl | exact Or.inr rfl)
local macro_rules | `(tactic| walk_at "S")=>`(tactic| exact⟨rfl,rfl,rfl,by decide +kernel,rfl,by decide +kernel,by decide +kernel⟩)
structure ClsT_Tree(K:ζ)(C:Addr):Prop where
 nn:Z0 K mainGlobals "Tree" = some (some (.ref C))
 cl:Cls K C
 na:∀f∈(["many", "rules", "bounds", "flow", "times", "over", "under", "hooks", "depths", "begin"]:List Str),Z6 K (.ref C) f=some none
def jK(K:ζ)(C:Addr)(m:Str)(f:Addr):Prop:=Z6 K (.ref C) m=some (some (.ref f))/\PySem.W.isFn K (.ref f)=true
def Fu(K:ζ)(x:Str)(st:Stmt):Prop:=∃f fd,Z0 K mainGlobals x=some (some (.ref f))/\Fun K x x st f fd
def Me(K:ζ)(C:Addr)(x q:Str)(st:Stmt):Prop:=∃f fd,Z6 K (.ref C) x=some (some (.ref f))/\PySem.W.isFn K (.ref f)=true/\Fun K x q st f fd
theorem Fu.go{K:ζ}{h:Heap}{mg:Str->Option Value}{x:Str}{st:Stmt}{T:Prop}(L:Fu K x st)(X:K.In h)(G:h.Ns mainGlobals mg)(k:∀f fd,Fun K x x st f fd->mg x=some (.ref f)->T):T:=by
 obtain⟨f,fd,a,F⟩:=L
 exact k f fd F (PySem.W.mg_of X G a)
theorem Me.go{K:ζ}{C:Addr}{x q:Str}{st:Stmt}{T:Prop}(L:Me K C x q st)(k:∀f fd,Fun K x q st f fd->jK K C x f->T):T:=by
 obtain⟨f,fd,a,b,F⟩:=L
 exact k f fd F ⟨a,b⟩
set_option hygiene false
local macro_rules | `(tactic| walk_at "o")=>`(tactic| first | ((with_reducible show DOp _ _ oIs);exact dop_is) | ((with_reducible show DOp _ _ oEq);exact(dop_eq hr.units)) | ((with_reducible show DOp _ _ oGt);exact dop_gt) | ((with_reducible show DOp _ _ bg);exact dop_add) | ((with_reducible show DOp _ _ gm);exact dop_sub) | ((with_reducible show DOp _ _ oLt);exact dop_lt) | ((with_reducible show DOp _ _ qF);exact dop_div) | ((with_reducible show DOp _ _ eM);exact wQ) | ((with_reducible show DOp _ _ oNe);exact(dop_ne hr.units)) | ((with_reducible show DOp _ _ oGe);exact dop_ge) | ((with_reducible show DOp _ _ wz);exact dop_leD) | ((with_reducible show DOp _ _ oe);exact dop_mul) | ((with_reducible show DOp _ _ gn);exact dop_mod) | ((with_reducible show DOp _ _ t6);exact dop_pow) | ((with_reducible show DOp _ _ (ss false));exact vO))
local macro_rules | `(tactic| walk_at "b")=>`(tactic| first | ((with_reducible show eJ _ _ cV);exact wU) | ((with_reducible show eJ _ _ n0);exact(jB rfl)) | ((with_reducible show eJ _ _ t7);exact wV) | ((with_reducible show eJ _ _ oMin);exact(wS rfl)) | ((with_reducible show eJ _ _ wy);exact(wT rfl)) | ((with_reducible show eJ _ _ su);exact(kI rfl)) | ((with_reducible show eJ _ _ k5);exact sV) | ((with_reducible show eJ _ _ oStr);exact wR) | ((with_reducible show eJ _ _ f6);exact ut))
local macro_rules | `(tactic| walk_at "k")=>`(tactic| first | ((with_reducible show ki _ "int");exact(kit_int _)) | ((with_reducible show ki _ "bool");exact(kit_bool _)) | ((with_reducible show ki _ "list");exact(kit_list _)))
local macro_rules | `(tactic| walk_at "A")=>`(tactic| first | ((with_reducible show Def _ _ _ _ _ _ "must_be_kept" _ _);exact bX) | ((with_reducible show Def _ _ _ _ _ _ "first_flow" _ _);exact gQ) | ((with_reducible show DefM _ _ _ _ _ _ "Tree" "lack_of" _ _);exact cN) | ((with_reducible show DefM _ _ _ _ _ _ "Tree" "is_wrong" _ _);exact eo) | ((with_reducible show DefM _ _ _ _ _ _ "Tree" "worst_rule" _ _);exact dn) | ((with_reducible show DefFM _ _ _ _ _ _ "Tree" "way" _ _);exact e9) | ((with_reducible show SL.DefSM _ _ _ _ _ _ "Tree" "shift" _ _);exact f9) | ((with_reducible show DefM _ _ _ _ _ _ "Tree" "meeting" _ _);exact fj) | ((with_reducible show DefM _ _ _ _ _ _ "Tree" "way" _ _);exact jC) | ((with_reducible show DefM _ _ _ _ _ _ "Tree" "step_down" _ _);exact dN) | ((with_reducible show DefM _ _ _ _ _ _ "Tree" "step_up" _ _);exact fg) | ((with_reducible show DefM _ _ _ _ _ _ "Tree" "room" _ _);exact iK) | ((with_reducible show SL.DefSM _ _ _ _ _ _ "Tree" "hang" _ _);exact gO) | ((with_reducible show SL.DefSM _ _ _ _ _ _ "Tree" "wrong_rule" _ _);exact cZ) | ((with_reducible show SL.DefSM _ _ _ _ _ _ "Tree" "mend" _ _);exact gM) | ((with_reducible show Def _ _ _ _ _ _ "lacking" _ _);exact i8) | ((with_reducible show Def _ _ _ _ _ _ "is_whole" _ _);exact iw) | ((with_reducible show SL.DefS _ _ _ _ _ _ "raise_points" _ _);exact ei) | ((with_reducible show Def _ _ _ _ _ _ "ring_above" _ _);exact gP) | ((with_reducible show SL.DefS _ _ _ _ _ _ "keeping" _ _);exact jA) | ((with_reducible show SL.MkS _ _ _ _ _ _ "Tree" _ _);exact gN) | ((with_reducible show SL.DefSM _ _ _ _ _ _ "Tree" "settle" _ _);exact eX) | ((with_reducible show DefM _ _ _ _ _ _ "Tree" "timing" _ _);exact ge) | ((with_reducible show DefM _ _ _ _ _ _ "Tree" "flow_of_rules" _ _);exact cC) | ((with_reducible show Def _ _ _ _ _ _ "may_go_through" _ _);exact dL) | ((with_reducible show Def _ _ _ _ _ _ "is_timing" _ _);exact iJ) | ((with_reducible show Def _ _ _ _ _ _ "is_flow" _ _);exact kK) | ((with_reducible show Def _ _ _ _ _ _ "broken" _ _);exact lI) | ((with_reducible show Def _ _ _ _ _ _ "worth" _ _);exact m8) | ((with_reducible show Def _ _ _ _ _ _ "price" _ _);exact m9) | ((with_reducible show Def _ _ _ _ _ _ "_law_numbers" _ _);exact dy) | ((with_reducible show Def _ _ _ _ _ _ "_law_whole" _ _);exact eY) | ((with_reducible show Def _ _ _ _ _ _ "_law_price" _ _);exact eZ) | ((with_reducible show Def _ _ _ _ _ _ "_law_cell_at" _ _);exact e8) | ((with_reducible show Def _ _ _ _ _ _ "_law_hidden" _ _);exact gc) | ((with_reducible show Def _ _ _ _ _ _ "_law_rules" _ _);exact gR) | ((with_reducible show Def _ _ _ _ _ _ "least_timing" _ _);exact d_least_timing) | ((with_reducible show Def _ _ _ _ _ _ "lets_by" _ _);exact kJ) | ((with_reducible show Def _ _ _ _ _ _ "_law_times_due" _ _);exact dM) | ((with_reducible show Def _ _ _ _ _ _ "_law_other_times" _ _);exact c6) | ((with_reducible show Def _ _ _ _ _ _ "_law_other_flows" _ _);exact c7) | ((with_reducible show Def _ _ _ _ _ _ "_law_flow_due" _ _);exact el))
local macro_rules | `(tactic| walk_at "B")=>`(tactic| first | (exact λ_ _ _ _ _ _ us hl=>match us,hl with | [_],_=>rfl) | (exact λ_ _ _ _ _ _ us hl=>match us,hl with | [_,_],_=>rfl) | (exact λ_ _ _ _ _ _ us hl=>match us,hl with | [_,_,_],_=>rfl) | (exact λ_ _ _ _ _ _ us hl=>match us,hl with | [_,_,_,_],_=>rfl) | (exact λ_ _ _ _ _ _ us hl=>match us,hl with | [_,_,_,_,_],_=>rfl) | (exact λ_ _ _ _ _ _ us hl=>match us,hl with | [_,_,_,_,_,_],_=>rfl))
local macro_rules | `(tactic| walk_at "qPD")=>`(tactic| first | ((with_reducible show PD _ _ _ (ac _));refine gw (pv _)) | ((with_reducible show PD _ _ (.Constant (.int _) _ _) (dC (.int _)));refine pd_int) | ((with_reducible show PD _ _ _ (d2 oIx _ _));refine pd_ix ?_ ?_ (λ_ _=>rfl)) | ((with_reducible show PD _ _ (.BinOp _ _ _ _) (d2 _ _ _));refine pd_op (by walk_at "o") ?_ ?_) | ((with_reducible show PD _ _ _ (d1 (aY _ _) _));refine pd_fld ⟨cT.nn,cT.cl⟩ (cT.na _ (by decide)) ?_) | ((with_reducible show PD _ _ _ (aI _ _));refine pd_call (by walk_at "A") (hr.mono (by decide)) rfl rfl ?_) | ((with_reducible show PD _ _ (.Call (.Name _ _) _ [] _) (dCB _ _));refine hJ (by walk_at "b") rfl (by assumption) (by rfl) ?_) | ((with_reducible show PD _ _ (.Constant .none _ _) (dC .none));refine tW) | ((with_reducible show PD _ _ (.Compare _ [_] [_] _) (d2 _ _ _));refine pd_cmp (by walk_at "o") ?_ ?_ (nomark _)) | ((with_reducible show PD _ _ (.Call (.Attribute _ _ _) _ [] _) (dMe _ _ _ _ _));refine pd_methI (by walk_at "A") (hr.mono (by decide)) rfl ?_ ?_) | ((with_reducible show PD _ _ _ (gz _));refine pd_tup ?_) | ((with_reducible show PD _ _ _ (ec _ _ _));refine pd_cutS ?_ ?_ ?_) | ((with_reducible show PD _ _ (.Constant (.bool _) _ _) (dC (.bool _)));refine vh) | ((with_reducible show PD _ _ _ (iA _));refine pd_lst ?_) | ((with_reducible show PD _ _ _ (dIf _ _ _));refine pd_if ?_ ?_ ?_) | ((with_reducible show PD _ _ _ (dIs _ _));refine wq rfl (by walk_at "k") rfl (by assumption) rfl (by assumption) (by rfl) ?_) | ((with_reducible show PD _ _ (.BoolOp _ [_] _) _);refine pd_one ?_) | ((with_reducible show PD _ _ (.Call (.Name _ _) _ [] _) (dCB _ _));refine wt (by walk_at "b") rfl (by assumption) (by rfl) ?_) | ((with_reducible show PD _ _ _ (d1 mR _));refine pd_neg ?_) | ((with_reducible show PD _ _ _ (i9 _ _));refine pd_and ?_ ?_) | ((with_reducible show PD _ _ (.Constant (.str _) _ _) (dC (.str _)));refine pd_str) | ((with_reducible show PD _ _ _ (kS _));refine pd_not ?_) | ((with_reducible show PD _ _ (.Name _ _) (dC (.int _)));refine pd_globI rfl m_STRIDE) | ((with_reducible show PD _ _ (.Call (.Attribute _ _ _) [] [] _) (dMe _ _ _ _ ai));refine wp (by walk_at "A") (hr.mono (by decide)) ?_) | ((with_reducible show PD _ _ _ (mH _ _));refine pd_lend 4 ?_) | ((with_reducible show PD _ _ (.Call (.Name _ _) [.Call (.Name _ _) [_] [] _] [] _) (dCB _ _));refine pd_twoTy (qX rfl) rfl (by assumption) (by rfl) rfl (by assumption) (by rfl) ?_) | ((with_reducible show PD _ _ _ (uz _ _));refine pd_or ?_ ?_) | ((with_reducible show PD _ _ _ (gp _));refine pd_ofN ?_))
local macro_rules | `(tactic| walk_at "qPDA")=>`(tactic| first | ((with_reducible show PDA _ _ _ (ae _ _));refine bv ?_ ?_) | ((with_reducible show PDA _ _ _ ai);refine eK))
local macro_rules | `(tactic| walk_at "qPDSs")=>`(tactic| first | ((with_reducible show kg _ _ _ (aM _ _));refine d6 ?_ ?_) | ((with_reducible show kg _ _ _ cA);refine qA) | ((with_reducible show kg _ _ _ (wM _ _));refine vg 4 ?_) | ((with_reducible show kg _ _ _ _);refine gE ?_))
local macro_rules | `(tactic| walk_at "qSX")=>`(tactic| first | ((with_reducible show SX _ _ _ (aQ _));refine lN (pv _)) | ((with_reducible show SX _ _ _ (sAt _ _ _));refine sx_at ?_ cT.nn cT.cl (cT.na _ (by decide))) | ((with_reducible show SX _ _ _ (gX _));refine ql ?_) | ((with_reducible show SX _ _ _ (sIx _ _));refine sx_ix ?_ ?_ (λ_ _=>rfl)) | ((with_reducible show SX _ _ (.Call (.Attribute _ _ _) _ [] _) (lj _ _ _ _ _));refine sx_met (by walk_at "A") (hr.mono (by decide)) rfl ?_ ?_) | ((with_reducible show SX _ _ (.Call (.Attribute _ _ _) [] [] _) (lj _ _ _ _ jh));refine sx_met0 (by walk_at "A") (hr.mono (by decide)) ?_) | ((with_reducible show SX _ _ _ (nJ _ _));refine sx_call (by walk_at "A") (hr.mono (by decide)) rfl rfl ?_) | ((with_reducible show SX _ _ _ (v7 _));refine sx_lst ?_) | ((with_reducible show SX _ _ _ (v6 _));refine sx_pop ?_) | ((with_reducible show SX _ _ _ (xI _ _));refine sx_ext ?_ ?_) | ((with_reducible show SX _ _ _ (v5 _ _));refine sx_rem ?_ ?_) | ((with_reducible show SX _ _ _ (v9 _ _));refine sx_app ?_ ?_) | ((with_reducible show SX _ _ _ (iN _));refine nB ?_) | ((with_reducible show SX _ _ _ (sMk _ _ _));refine sx_mk (by walk_at "A") (hr.mono (by decide)) rfl rfl ?_) | ((with_reducible show SX _ _ _ (cf _));refine qk ?_) | ((with_reducible show SX _ _ _ (bC _));refine xu ?_) | ((with_reducible show SX _ _ _ (rW _));refine sx_lend ?_))
local macro_rules | `(tactic| walk_at "qPDT")=>`(tactic| first | ((with_reducible show PDT _ _ _ (dB (d2 _ _ _)));refine vf (by walk_at "o") ?_ ?_ (nomark _)) | ((with_reducible show PDT _ _ _ (eG _));refine ve ?_) | ((with_reducible show PDT _ _ _ (dTr _));refine pdt_tr ?_) | ((with_reducible show PDT _ _ _ (dB _));refine vd ?_) | ((with_reducible show PDT _ _ (.BoolOp _ _ _) _);refine PDW.t ?_))
local macro_rules | `(tactic| walk_at "qPDS")=>`(tactic| first | ((with_reducible show PDS _ _ (.Assign [.Name _ _] _ _) (cv _ (tgN _)));refine pd_set S.nd rfl (by walk_at "L") ?_) | ((with_reducible show PDS _ _ _ (bW _));refine ji ?_) | ((with_reducible show PDS _ _ _ (gIf _ _ _));refine tX ?_ ?_ ?_) | ((with_reducible show PDS _ _ _ (eU _ _ _));refine pd_forI PassesOwn.never rfl ?_ ?_ ?_) | ((with_reducible show PDS _ _ _ (jJ _ _));refine pd_app (pv _) ?_) | ((with_reducible show PDS _ _ _ (gC _ _));refine qC S.nd rfl (by walk_at "L") ?_) | ((with_reducible show PDS _ _ _ (lz _));refine pd_retO (pv _)) | ((with_reducible show PDS _ _ _ (du _ _));refine pd_while PassesOwn.never ?_ ?_) | ((with_reducible show PDS _ _ _ (oI _ _ _));refine pd_setO (pv _) ?_ ?_) | ((with_reducible show PDS _ _ (.AugAssign (.Subscript _ _ _) _ _ _) (mG _ _ _ _));refine vi ip_sub (pv _) ?_ ?_) | ((with_reducible show PDS _ _ (.AugAssign (.Subscript _ _ _) _ _ _) (mG _ _ _ _));refine vi ip_add (pv _) ?_ ?_) | ((with_reducible show PDS _ _ (.Assign [_] _ _) (cv _ _));refine pd_asg ?_ ?_))
local macro_rules | `(tactic| walk_at "qSSs")=>`(tactic| first | ((with_reducible show SSs _ _ _ (bA _ _));refine aX ?_ ?_) | ((with_reducible show SSs _ _ _ jO);refine uM) | ((with_reducible show SSs _ _ _ _);refine qp ?_))
local macro_rules | `(tactic| walk_at "qSS")=>`(tactic| first | ((with_reducible show SS _ _ _ (dk _ _));refine tJ S.nd rfl (by walk_at "L") ?_) | ((with_reducible show SS _ _ _ (iX _));refine ss_expr ?_) | ((with_reducible show SS _ _ _ (ez _ _ _ _));refine iW ?_ ?_ cT.nn cT.cl (cT.na _ (by decide))) | ((with_reducible show SS _ _ _ (sIf _ _ _));refine ss_if ?_ ?_ ?_) | ((with_reducible show SS _ _ _ (rV _));refine ss_ret ?_) | ((with_reducible show SS _ _ _ (jN _ _ _));refine ss_setX ?_ ?_ ?_) | ((with_reducible show SS _ _ _ (iO false _ _ _));refine xB PassesOwn.never rfl ?_ ?_ ?_) | ((with_reducible show SS _ _ _ (dZ _ _));refine xz PassesOwn.never ?_ ?_) | ((with_reducible show SS _ _ _ (nK _ _ _ _));refine ss_augX ip_add ?_ ?_ ?_) | ((with_reducible show SS _ _ _ (pB _ _ _));refine ss_setI (pv _) ?_ ?_) | ((with_reducible show SS _ _ _ (pD _ _));refine ss_newL S.nd rfl (by walk_at "L") ?_) | ((with_reducible show SS _ _ _ (rY _ _ _));refine ss_forR PassesOwn.never rfl rfl (by assumption) ?_ ?_ ?_) | ((with_reducible show SS _ _ _ (iO true _ _ _));refine xA PassesOwn.never rfl rfl (by assumption) ?_ ?_ ?_) | ((with_reducible show SS _ _ _ (v8 _ _ _));refine xC PassesOwn.never rfl ?_ ?_ ?_) | ((with_reducible show SS _ _ _ (nI _));refine uN ?_) | ((with_reducible show SS _ _ _ (pC _));refine ss_retN ?_))
local macro_rules | `(tactic| walk_at "qPDN")=>`(tactic| first | ((with_reducible show PDN _ _ _ (cr _));refine mY ?_) | ((with_reducible show PDN _ _ _ (jV _ _));refine pdn_rep ?_ ?_) | ((with_reducible show PDN _ _ _ (jW _ _));refine mZ ?_ ?_) | ((with_reducible show PDN _ _ _ (pO _));refine pdn_list rfl rfl (by assumption) ?_) | ((with_reducible show PDN _ _ _ (k6 _));refine wm rfl rfl rfl rfl (by assumption) rfl (by assumption) ?_))
local macro_rules | `(tactic| walk_at "qPDG")=>`(tactic| first | ((with_reducible show PDG _ _ (tgN _));refine be (br S.nd rfl (by walk_at "L"))) | ((with_reducible show PDG _ (.Tuple _ _ _) (dR _ _));refine lr rfl ?_))
local macro_rules | `(tactic| walk_at "qSA")=>`(tactic| first | ((with_reducible show SA _ _ _ (cx _ _));refine sa_cons ?_ ?_) | ((with_reducible show SA _ _ _ jh);refine sa_nil))
local macro_rules | `(tactic| walk_at "qPDO")=>`(tactic| first | ((with_reducible show PDO _ _ _ (dW _));refine pdo_some ?_) | ((with_reducible show PDO _ _ _ ce);refine pdo_none))
local macro_rules | `(tactic| walk_at "qPDI")=>`(tactic| first | ((with_reducible show PDI _ _ _ _ (dc _));refine fZ ?_) | ((with_reducible show PDI _ _ (.Tuple _ _ _) (.Call (.Name "enumerate" _) [_] [] _) (kU _));refine pdi_enum rfl (by assumption) ?_) | ((with_reducible show PDI _ _ _ (.Call (.Name "range" _) [_] [] _) (kf gY _));refine pdi_rng1 rfl (by assumption) ?_) | ((with_reducible show PDI _ _ (.Tuple _ _ _) (.Call (.Name "zip" _) [_,_] [] _) (sW _));refine pdi_zip rfl (by assumption) ?_) | ((with_reducible show PDI _ _ _ (.Call (.Name "range" _) [_,_] [] _) (kf wa _));refine pdi_rng2 rfl (by assumption) ?_))
local macro_rules | `(tactic| walk_at "qPDW")=>`(tactic| first | ((with_reducible show PDW _ _ _ (dOr _ _));refine pdw_or ?_ ?_) | ((with_reducible show PDW _ _ (.BoolOp .Or [_] _) _);refine pdw_or1 ?_) | ((with_reducible show PDW _ _ _ (jD _ _));refine pdw_and ?_ ?_) | ((with_reducible show PDW _ _ (.BoolOp .And [_] _) _);refine pdw_and1 ?_))
local macro_rules | `(tactic| walk_at "qSGT")=>`(tactic| first | ((with_reducible show SGT _ _ (agN _));refine sg_name (br S.nd rfl (by walk_at "L"))) | ((with_reducible show SGT _ (.Tuple _ _ _) (mJ _ _));refine sg_tup rfl ?_))
local macro_rules | `(tactic| walk_at "qPDGs")=>`(tactic| first | ((with_reducible show uF _ _ (aU _ _));refine dJ ?_ ?_) | ((with_reducible show uF _ [] dS);refine jR))
local macro_rules | `(tactic| walk_at "qSGTs")=>`(tactic| first | ((with_reducible show uE _ _ (fv _ _));refine xH ?_ ?_) | ((with_reducible show uE _ [] mK);refine sgs_nil))
local macro_rules | `(tactic| walk_at "qPDTs")=>`(tactic| first | ((with_reducible show o6 _ [_] _);refine pdts_one ?_))
local macro_rules | `(tactic| walk_at "qST")=>`(tactic| first | ((with_reducible show ST _ _ _ (jg _));refine xy ?_) | ((with_reducible show ST _ _ _ (iC _));refine st_test ?_))
local macro_rules | `(tactic| walk_at "qPDSsF")=>`(tactic| first | ((with_reducible show oT _ _ _ (pV _ _));refine wk ?_ ?_) | ((with_reducible show oT _ _ _ (pW _));refine wj (pv _)))
local macro_rules | `(tactic| walk_at "qPDF")=>`(tactic| first | ((with_reducible show PDF _ _ _ (dMe _ _ _ _ _));refine wn (by walk_at "A") (hr.mono (by decide)) rfl ?_ ?_))
local macro_rules | `(tactic| walk_at "q")=>`(tactic| repeat' first | ((with_reducible show PD _ _ _ _);walk_at "qPD") | ((with_reducible show PDA _ _ _ _);walk_at "qPDA") | ((with_reducible show kg _ _ _ _);walk_at "qPDSs") | ((with_reducible show PDS _ _ _ _);walk_at "qPDS") | ((with_reducible show SX _ _ _ _);walk_at "qSX") | ((with_reducible show PDT _ _ _ _);walk_at "qPDT") | ((with_reducible show SS _ _ _ _);walk_at "qSS") | ((with_reducible show SSs _ _ _ _);walk_at "qSSs") | ((with_reducible show PDN _ _ _ _);walk_at "qPDN") | ((with_reducible show PDW _ _ _ _);walk_at "qPDW") | ((with_reducible show PDI _ _ _ _ _);walk_at "qPDI") | ((with_reducible show PDO _ _ _ _);walk_at "qPDO") | ((with_reducible show PDG _ _ _);walk_at "qPDG") | ((with_reducible show SA _ _ _ _);walk_at "qSA") | ((with_reducible show uF _ _ _);walk_at "qPDGs") | ((with_reducible show SGT _ _ _);walk_at "qSGT") | ((with_reducible show ST _ _ _ _);walk_at "qST") | ((with_reducible show uE _ _ _);walk_at "qSGTs") | ((with_reducible show o6 _ _ _);walk_at "qPDTs") | ((with_reducible show oT _ _ _ _);walk_at "qPDSsF") | ((with_reducible show PDF _ _ _ _);walk_at "qPDF"))
local macro_rules | `(tactic| walk_at "D0")=>`(tactic| refine def_of F0 S hm (F0.binds (by walk_at "B")) λcdv A outer s H E hr=>?_)
local macro_rules | `(tactic| walk_at "D1")=>`(tactic| refine⟨C_Tree,_,_,_,cT.nn,m_Tree,⟨mk,hM.1,hM.2,kc⟩,SL.uj F0 S (λcdv A outer s H E hr=>?_),(F0.binds (by walk_at "B"))⟩)
local macro_rules | `(tactic| walk_at "D2")=>`(tactic| refine⟨C_Tree,_,_,_,cT.nn,cT.cl,⟨hM.1,hM.2,F0.kp⟩,uk F0 S (λcdv A outer s H E hr=>?_),(F0.binds (by walk_at "B"))⟩)
local macro_rules | `(tactic| walk_at "D3")=>`(tactic| refine⟨C_Tree,_,_,_,cT.nn,cT.cl,⟨hM.1,hM.2,F0.kp⟩,SL.uj F0 S (λcdv A outer s H E hr=>?_),(F0.binds (by walk_at "B"))⟩)
local macro_rules | `(tactic| walk_at "D4")=>`(tactic| refine⟨C_Tree,_,_,_,cT.nn,cT.cl,⟨hM.1,hM.2,F0.kp⟩,fn_ofDF F0 S (λcdv A outer s H E hr=>?_),(F0.binds (by walk_at "B"))⟩)
local macro_rules | `(tactic| walk_at "D5")=>`(tactic| refine SL.defs_of F0 S hm (F0.binds (by walk_at "B")) λcdv A outer s H E hr=>?_)
local macro_rules | `(tactic| walk_at "D6")=>`(tactic| refine uk F0 S λcdv A outer s H E hr=>?_)
section
variable(P:Program)(w:World){K:ζ}{mg:Str->Option Value}(base:Heap){f:Addr}{fd:FuncData}
theorem bX(F0:Fun K "must_be_kept" "must_be_kept" (top 5) f fd)(hm:mg "must_be_kept" = some (.ref f)):Def P w K mg base 1 "must_be_kept" 1 aP:=by
 have S:FnScope ["rule"] ["rule"] (ao (top 5)):=by walk_at "S"
 walk_at "D0";unfold ic;walk_at "q"
theorem gQ(F0:Fun K "first_flow" "first_flow" (top 15) f fd)(hm:mg "first_flow" = some (.ref f)):Def P w K mg base 1 "first_flow" 1 fz:=by
 have S:FnScope ["rule"] ["rule"] (ao (top 15)):=by walk_at "S"
 walk_at "D0";unfold jp;walk_at "q"
variable{C_Tree:Addr}
variable(m_Tree:mg "Tree" = some (.ref C_Tree))
variable(cT:ClsT_Tree K C_Tree)
variable(bX:Def P w K mg base 1 "must_be_kept" 1 aP)
variable(gQ:Def P w K mg base 1 "first_flow" 1 fz)
variable(z_len:mg "len" = none)
variable(z_sum:mg "sum" = none)
variable(z_list:mg "list" = none)
variable(z_enumerate:mg "enumerate" = none)
variable(z_range:mg "range" = none)
include m_Tree cT bX gQ z_len z_sum z_list z_enumerate z_range in
theorem gN(F0:Fun K "__init__" "Tree.__init__" (mth (top 14) 0) f fd)(hM:jK K C_Tree "__init__" f)(mk:PySem.W.makesIn K C_Tree=true)(kc:V7 K (.ref C_Tree)=true):SL.MkS P w K mg base 2 "Tree" 3 gW:=by
 have S:FnScope ["self", "times", "rules", "root", "total"] ["self", "times", "rules"] (ao (mth (top 14) 0)):=by walk_at "S"
 walk_at "D1";unfold j3;exact aX (by walk_at "q") (aX (tJ (i:=4) S.nd rfl (by walk_at "L") (qk (hJ (jB rfl) rfl z_sum PyProof.Rows.boot_sum (bv (cj (fr:=[]) (tn:=["rule"]) rfl rfl (by decide +kernel) (by rfl) qo (bZ (by rfl)) cX (by decide +kernel) (fZ (gw (pv 2))) (λC s3 H3 fp=>(be (br (i:=0) (show(["rule"]:List Str).Nodup from by decide +kernel) rfl (by walk_at "L")))) (λC s3 H3 fp=>(by walk_at "q")) (λC s3 H3 fp=>(by walk_at "q"))) eK)))) (aX (by walk_at "q") (aX (iW (lN (pv 0)) (qk (pd_ofN (mZ (by walk_at "q") (cj (fr:=[(3, "root")]) (tn:=["point", "moment"]) rfl rfl (by decide +kernel) (by rfl) (qm (n := "root") (by rfl)) (bZ (by rfl)) (f7 rfl rfl rfl ⟨_,rfl⟩ cX) (by decide +kernel) (by walk_at "q") (λC s3 H3 fp=>(lr rfl (dJ (be (br (i:=0) (show(["point", "moment", "root"]:List Str).Nodup from by decide +kernel) rfl (by walk_at "L"))) (dJ (be (br (i:=1) (show(["point", "moment", "root"]:List Str).Nodup from by decide +kernel) rfl (by walk_at "L"))) jR)))) (λC s3 H3 fp=>bV) (λC s3 H3 fp=>(by walk_at "q")))))) cT.nn cT.cl (cT.na _ (by decide))) (aX (iW (lN (pv 0)) (nB (pJ (fr:=[(4, "total")]) (tn:=["rule"]) rfl rfl (by decide +kernel) (by rfl) (qm (n := "total") (by rfl)) (bZ (by rfl)) (f7 rfl rfl rfl ⟨_,rfl⟩ cX) (by decide +kernel) (by walk_at "q") (λC s3 H3 fp=>(be (br (i:=0) (show(["rule", "total"]:List Str).Nodup from by decide +kernel) rfl (by walk_at "L")))) (λC s3 H3 fp=>bV) (λC s3 H3 fp=>(by walk_at "q")))) cT.nn cT.cl (cT.na _ (by decide))) (aX (iW (lN (pv 0)) (nB (pJ (fr:=[]) (tn:=["rule"]) rfl rfl (by decide +kernel) (by rfl) qo (bZ (by rfl)) cX (by decide +kernel) (by walk_at "q") (λC s3 H3 fp=>(be (br (i:=0) (show(["rule"]:List Str).Nodup from by decide +kernel) rfl (by walk_at "L")))) (λC s3 H3 fp=>bV) (λC s3 H3 fp=>(by walk_at "q")))) cT.nn cT.cl (cT.na _ (by decide))) (aX (by walk_at "q") (aX (by walk_at "q") (aX (iW (lN (pv 0)) (sx_cat (xw (x := "point") rfl rfl (by decide +kernel) (by rfl) qo (bZ (by rfl)) (by decide +kernel) (by walk_at "q") (λC s3 H3 fp=>(be (br (i:=0) (show(["point"]:List Str).Nodup from by decide +kernel) rfl (by walk_at "L")))) (λC s3 H3 fp=>bV) (λC s3 H3 fp=>(mY eK))) (by walk_at "q")) cT.nn cT.cl (cT.na _ (by decide))) (aX (iW (lN (pv 0)) (ql (mZ (cj (fr:=[(0, "self")]) (tn:=["point"]) rfl rfl (by decide +kernel) (by rfl) (qm (n := "self") (by rfl)) (bZ (by rfl)) (f7 rfl rfl rfl ⟨_,rfl⟩ cX) (by decide +kernel) (by walk_at "q") (λC s3 H3 fp=>(be (br (i:=0) (show(["point", "self"]:List Str).Nodup from by decide +kernel) rfl (by walk_at "L")))) (λC s3 H3 fp=>bV) (λC s3 H3 fp=>(by walk_at "q"))) (by walk_at "q"))) cT.nn cT.cl (cT.na _ (by decide))) (by walk_at "q"))))))))))
include m_Tree cT in
theorem ge(F0:Fun K "timing" "Tree.timing" (mth (top 14) 1) f fd)(hM:jK K C_Tree "timing" f):DefM P w K mg base 1 "Tree" "timing" 1 gh:=by
 have S:FnScope ["self"] ["self"] (ao (mth (top 14) 1)):=by walk_at "S"
 walk_at "D2";unfold iR;exact gE (ji (cj (fr:=[(0, "self")]) (tn:=["moment"]) rfl rfl (by decide +kernel) (by rfl) (λ_ _ h=>h) (bZ (by rfl)) (f7 rfl rfl rfl ⟨_,rfl⟩ cX) (by decide +kernel) (by walk_at "q") (λC s3 H3 fp=>(be (br (i:=0) (show(["moment", "self"]:List Str).Nodup from by decide +kernel) rfl (by walk_at "L")))) (λC s3 H3 fp=>bV) (λC s3 H3 fp=>(by walk_at "q"))))
include m_Tree cT in
theorem cC(F0:Fun K "flow_of_rules" "Tree.flow_of_rules" (mth (top 14) 2) f fd)(hM:jK K C_Tree "flow_of_rules" f):DefM P w K mg base 1 "Tree" "flow_of_rules" 1 bY:=by
 have S:FnScope ["self"] ["self"] (ao (mth (top 14) 2)):=by walk_at "S"
 walk_at "D2";unfold dr;walk_at "q"
include m_Tree cT in
theorem cN(F0:Fun K "lack_of" "Tree.lack_of" (mth (top 14) 7) f fd)(hM:jK K C_Tree "lack_of" f):DefM P w K mg base 1 "Tree" "lack_of" 2 cp:=by
 have S:FnScope ["self", "number", "rule"] ["self", "number"] (ao (mth (top 14) 7)):=by walk_at "S"
 walk_at "D2";unfold il;walk_at "q"
include m_Tree cT in
theorem eo(F0:Fun K "is_wrong" "Tree.is_wrong" (mth (top 14) 6) f fd)(hM:jK K C_Tree "is_wrong" f):DefM P w K mg base 1 "Tree" "is_wrong" 3 dh:=by
 have S:FnScope ["self", "number", "lack"] ["self", "number", "lack"] (ao (mth (top 14) 6)):=by walk_at "S"
 walk_at "D2";unfold gy;walk_at "q"
variable(cN:DefM P w K mg base 1 "Tree" "lack_of" 2 cp)
variable(eo:DefM P w K mg base 1 "Tree" "is_wrong" 3 dh)
variable(z_abs:mg "abs" = none)
include m_Tree cT z_range cN eo z_abs in
theorem dn(F0:Fun K "worst_rule" "Tree.worst_rule" (mth (top 14) 5) f fd)(hM:jK K C_Tree "worst_rule" f):DefM P w K mg base 2 "Tree" "worst_rule" 3 dq:=by
 have S:FnScope ["self", "begin", "end", "worst", "most", "number", "lack"] ["self", "begin", "end"] (ao (mth (top 14) 5)):=by walk_at "S"
 walk_at "D2";unfold eS bo;walk_at "q"
variable{t_STRIDE:Tok}
variable(m_STRIDE:mg "STRIDE" = some (.int 50 t_STRIDE))
variable(dn:DefM P w K mg base 2 "Tree" "worst_rule" 3 dq)
variable(z_min:mg "min" = none)
include m_Tree cT z_range m_STRIDE dn z_min in
theorem cZ(F0:Fun K "wrong_rule" "Tree.wrong_rule" (mth (top 14) 4) f fd)(hM:jK K C_Tree "wrong_rule" f):SL.DefSM P w K mg base 3 "Tree" "wrong_rule" 1 cq:=by
 have S:FnScope ["self", "stride", "end", "worst"] ["self"] (ao (mth (top 14) 4)):=by walk_at "S"
 walk_at "D3";unfold eR cK;walk_at "q"
include m_Tree cT in
theorem fj(F0:Fun K "meeting" "Tree.meeting" (mth (top 14) 9) f fd)(hM:jK K C_Tree "meeting" f):DefM P w K mg base 1 "Tree" "meeting" 3 fE:=by
 have S:FnScope ["self", "one", "other"] ["self", "one", "other"] (ao (mth (top 14) 9)):=by walk_at "S"
 walk_at "D2";unfold ik cQ;walk_at "q"
include m_Tree cT in
theorem jC(F0:Fun K "way" "Tree.way" (mth (top 14) 10) f fd)(hM:jK K C_Tree "way" f):DefM P w K mg base 1 "Tree" "way" 3 iz:=by
 have S:FnScope ["self", "point", "top", "points"] ["self", "point", "top"] (ao (mth (top 14) 10)):=by walk_at "S"
 walk_at "D2";unfold lc gS;walk_at "q"
include m_Tree cT in
theorem dN(F0:Fun K "step_down" "Tree.step_down" (mth (top 14) 11) f fd)(hM:jK K C_Tree "step_down" f):DefM P w K mg base 1 "Tree" "step_down" 2 cU:=by
 have S:FnScope ["self", "point"] ["self", "point"] (ao (mth (top 14) 11)):=by walk_at "S"
 walk_at "D2";unfold fR;walk_at "q"
include m_Tree cT in
theorem fg(F0:Fun K "step_up" "Tree.step_up" (mth (top 14) 12) f fd)(hM:jK K C_Tree "step_up" f):DefM P w K mg base 1 "Tree" "step_up" 2 dI:=by
 have S:FnScope ["self", "point"] ["self", "point"] (ao (mth (top 14) 12)):=by walk_at "S"
 walk_at "D2";unfold ij;walk_at "q"
include m_Tree cT in
theorem iK(F0:Fun K "room" "Tree.room" (mth (top 14) 13) f fd)(hM:jK K C_Tree "room" f):DefM P w K mg base 1 "Tree" "room" 2 cF:=by
 have S:FnScope ["self", "step", "number"] ["self", "step"] (ao (mth (top 14) 13)):=by walk_at "S"
 walk_at "D2";unfold jZ;walk_at "q"
include m_Tree cT in
theorem e9(F0:Fun K "way" "Tree.way" (mth (top 14) 10) f fd)(hM:jK K C_Tree "way" f):DefFM P w K mg base 1 "Tree" "way" 3 fC:=by
 have S:FnScope ["self", "point", "top", "points"] ["self", "point", "top"] (ao (mth (top 14) 10)):=by walk_at "S"
 walk_at "D4";unfold ig fV;walk_at "q"
include m_Tree cT in
theorem f9(F0:Fun K "shift" "Tree.shift" (mth (top 14) 15) f fd)(hM:jK K C_Tree "shift" f):SL.DefSM P w K mg base 1 "Tree" "shift" 3 gi:=by
 have S:FnScope ["self", "point", "lack", "points"] ["self", "point", "lack"] (ao (mth (top 14) 15)):=by walk_at "S"
 walk_at "D3";unfold jt dE;walk_at "q"
variable(e9:DefFM P w K mg base 1 "Tree" "way" 3 fC)
variable(f9:SL.DefSM P w K mg base 1 "Tree" "shift" 3 gi)
include m_Tree cT z_enumerate cN e9 f9 in
theorem gO(F0:Fun K "hang" "Tree.hang" (mth (top 14) 14) f fd)(hM:jK K C_Tree "hang" f):SL.DefSM P w K mg base 2 "Tree" "hang" 4 dQ:=by
 have S:FnScope ["self", "leaving", "inner", "number", "rule", "lack", "points", "hooks", "over", "place", "point"] ["self", "leaving", "inner", "number"] (ao (mth (top 14) 14)):=by walk_at "S"
 walk_at "D3";unfold j4 cI;exact aX (by walk_at "q") (aX (by walk_at "q") (aX (by walk_at "q") (aX (tJ (i:=7) S.nd rfl (by walk_at "L") (ql (mZ (by walk_at "q") (cj (fr:=[(0, "self")]) (tn:=["point"]) rfl rfl (by decide +kernel) (by rfl) (λ_ _ h=>h) (bZ (by rfl)) (f7 rfl rfl rfl ⟨_,rfl⟩ cX) (by decide +kernel) (fZ (gw (pv 6))) (λC s3 H3 fp=>(be (br (i:=0) (show(["point", "self"]:List Str).Nodup from by decide +kernel) rfl (by walk_at "L")))) (λC s3 H3 fp=>bV) (λC s3 H3 fp=>(by walk_at "q")))))) (by walk_at "q"))))
variable(fj:DefM P w K mg base 1 "Tree" "meeting" 3 fE)
variable(jC:DefM P w K mg base 1 "Tree" "way" 3 iz)
variable(dN:DefM P w K mg base 1 "Tree" "step_down" 2 cU)
variable(fg:DefM P w K mg base 1 "Tree" "step_up" 2 dI)
variable(iK:DefM P w K mg base 1 "Tree" "room" 2 cF)
variable(gO:SL.DefSM P w K mg base 2 "Tree" "hang" 4 dQ)
include m_Tree cT cN fj jC dN fg iK gO in
theorem gM(F0:Fun K "mend" "Tree.mend" (mth (top 14) 8) f fd)(hM:jK K C_Tree "mend" f):SL.DefSM P w K mg base 3 "Tree" "mend" 2 gV:=by
 have S:FnScope ["self", "number", "rule", "more", "tail", "head", "top", "down", "up", "amount", "leaving", "step"] ["self", "number"] (ao (mth (top 14) 8)):=by walk_at "S"
 walk_at "D3";unfold j0 gf ed ee;exact aX (by walk_at "q") (aX (by walk_at "q") (aX (by walk_at "q") (aX (by walk_at "q") (aX (by walk_at "q") (aX (pA (iy:=7) (fr:=[(0, "self")]) (tn:=["point"]) rfl rfl (by decide +kernel) (by rfl) (λ_ _ h=>h) (bZ (by rfl)) (f7 rfl rfl rfl ⟨_,rfl⟩ cX) (by decide +kernel) (by walk_at "q") (λC s3 H3 fp=>(be (br (i:=0) (show(["point", "self"]:List Str).Nodup from by decide +kernel) rfl (by walk_at "L")))) (λC s3 H3 fp=>bV) (λC s3 H3 fp=>(by walk_at "q")) S.nd rfl (by walk_at "L")) (aX (pA (iy:=8) (fr:=[(0, "self")]) (tn:=["point"]) rfl rfl (by decide +kernel) (by rfl) (λ_ _ h=>h) (bZ (by rfl)) (f7 rfl rfl rfl ⟨_,rfl⟩ cX) (by decide +kernel) (by walk_at "q") (λC s3 H3 fp=>(be (br (i:=0) (show(["point", "self"]:List Str).Nodup from by decide +kernel) rfl (by walk_at "L")))) (λC s3 H3 fp=>bV) (λC s3 H3 fp=>(by walk_at "q")) S.nd rfl (by walk_at "L")) (by walk_at "q")))))))
variable(cZ:SL.DefSM P w K mg base 3 "Tree" "wrong_rule" 1 cq)
variable(gM:SL.DefSM P w K mg base 3 "Tree" "mend" 2 gV)
include m_Tree cT cZ gM in
theorem eX(F0:Fun K "settle" "Tree.settle" (mth (top 14) 3) f fd)(hM:jK K C_Tree "settle" f):SL.DefSM P w K mg base 4 "Tree" "settle" 1 fG:=by
 have S:FnScope ["self", "number"] ["self"] (ao (mth (top 14) 3)):=by walk_at "S"
 walk_at "D3";unfold iS de;walk_at "q"
variable(z_isinstance:mg "isinstance" = none)
variable(z_int:mg "int" = none)
variable(z_bool:mg "bool" = none)
include z_isinstance z_int z_bool in
theorem iw(F0:Fun K "is_whole" "is_whole" (top 1) f fd)(hm:mg "is_whole" = some (.ref f)):Def P w K mg base 1 "is_whole" 1 dG:=by
 have S:FnScope ["thing"] ["thing"] (ao (top 1)):=by walk_at "S"
 walk_at "D0";unfold oF;walk_at "q"
variable(z_max:mg "max" = none)
include z_max in
theorem i8(F0:Fun K "lacking" "lacking" (top 6) f fd)(hm:mg "lacking" = some (.ref f)):Def P w K mg base 1 "lacking" 2 fW:=by
 have S:FnScope ["rule", "times"] ["rule", "times"] (ao (top 6)):=by walk_at "S"
 walk_at "D0";unfold md;walk_at "q"
variable(i8:Def P w K mg base 1 "lacking" 2 fW)
include bX z_enumerate i8 in
theorem lI(F0:Fun K "broken" "broken" (top 3) f fd)(hm:mg "broken" = some (.ref f)):Def P w K mg base 2 "broken" 2 kj:=by
 have S:FnScope ["rules", "times"] ["rules", "times"] (ao (top 3)):=by walk_at "S"
 walk_at "D0";unfold oG;exact gE (ji (cj (fr:=[(1, "times")]) (tn:=["number", "rule"]) rfl rfl (by decide +kernel) (by rfl) (λ_ _ h=>h) (bZ (by rfl)) (f7 rfl rfl rfl ⟨_,rfl⟩ cX) (by decide +kernel) (by walk_at "q") (λC s3 H3 fp=>(lr rfl (dJ (be (br (i:=0) (show(["number", "rule", "times"]:List Str).Nodup from by decide +kernel) rfl (by walk_at "L"))) (dJ (be (br (i:=1) (show(["number", "rule", "times"]:List Str).Nodup from by decide +kernel) rfl (by walk_at "L"))) jR)))) (λC s3 H3 fp=>(by walk_at "q")) (λC s3 H3 fp=>(gw (pv 0)))))
include bX z_sum i8 in
theorem m9(F0:Fun K "price" "price" (top 4) f fd)(hm:mg "price" = some (.ref f)):Def P w K mg base 2 "price" 2 nj:=by
 have S:FnScope ["rules", "times"] ["rules", "times"] (ao (top 4)):=by walk_at "S"
 walk_at "D0";unfold qR;exact gE (ji (hJ (jB rfl) rfl z_sum PyProof.Rows.boot_sum (bv (cj (fr:=[(1, "times")]) (tn:=["rule"]) rfl rfl (by decide +kernel) (by rfl) (λ_ _ h=>h) (bZ (by rfl)) (f7 rfl rfl rfl ⟨_,rfl⟩ cX) (by decide +kernel) (fZ (gw (pv 0))) (λC s3 H3 fp=>(be (br (i:=0) (show(["rule", "times"]:List Str).Nodup from by decide +kernel) rfl (by walk_at "L")))) (λC s3 H3 fp=>(by walk_at "q")) (λC s3 H3 fp=>(by walk_at "q"))) eK)))
variable(iw:Def P w K mg base 1 "is_whole" 1 dG)
variable(z_all:mg "all" = none)
include z_len z_list z_isinstance iw z_all in
theorem iJ(F0:Fun K "is_timing" "is_timing" (top 7) f fd)(hm:mg "is_timing" = some (.ref f)):Def P w K mg base 2 "is_timing" 2 gq:=by
 have S:FnScope ["many", "thing"] ["many", "thing"] (ao (top 7)):=by walk_at "S"
 walk_at "D0";unfold mE;exact d6 (by walk_at "q") (gE (ji (pd_and (hJ (kI rfl) rfl z_all PyProof.Rows.boot_all (bv (cj (fr:=[]) (tn:=["moment"]) rfl rfl (by decide +kernel) (by rfl) (λ_ _ h=>h) (bZ (by rfl)) cX (by decide +kernel) (fZ (gw (pv 1))) (λC s3 H3 fp=>(be (br (i:=0) (show(["moment"]:List Str).Nodup from by decide +kernel) rfl (by walk_at "L")))) (λC s3 H3 fp=>bV) (λC s3 H3 fp=>(by walk_at "q"))) eK)) (by walk_at "q"))))
variable(z_reversed:mg "reversed" = none)
include z_len z_list z_range z_reversed in
theorem gP(F0:Fun K "ring_above" "ring_above" (top 11) f fd)(hm:mg "ring_above" = some (.ref f)):Def P w K mg base 1 "ring_above" 3 fw:=by
 have S:FnScope ["rules", "raisers", "point", "step", "ring", "low"] ["rules", "raisers", "point"] (ao (top 11)):=by walk_at "S"
 walk_at "D0";unfold jo fm fq;walk_at "q"
include bX z_enumerate in
theorem ei(F0:Fun K "raise_points" "raise_points" (top 10) f fd)(hm:mg "raise_points" = some (.ref f)):SL.DefS P w K mg base 2 "raise_points" 3 di:=by
 have S:FnScope ["rules", "times", "raisers", "raised", "number", "rule"] ["rules", "times", "raisers"] (ao (top 10)):=by walk_at "S"
 walk_at "D5";unfold ib cO;walk_at "q"
variable(gP:Def P w K mg base 1 "ring_above" 3 fw)
variable(ei:SL.DefS P w K mg base 2 "raise_points" 3 di)
include z_range gP ei in
theorem jA(F0:Fun K "keeping" "keeping" (top 9) f fd)(hm:mg "keeping" = some (.ref f)):SL.DefS P w K mg base 3 "keeping" 2 eI:=by
 have S:FnScope ["many", "rules", "times", "raisers", "walk", "raised"] ["many", "rules"] (ao (top 9)):=by walk_at "S"
 walk_at "D5";unfold mf dz;exact aX (by walk_at "q") (aX (by walk_at "q") (aX (xC PassesOwn.never rfl (by walk_at "q") (by walk_at "q") (aX (by walk_at "q") (qp (ss_if (by walk_at "q") (qp (uN (pd_tup (bv pd_str (bv (cj (fr:=[(2, "times")]) (tn:=["moment"]) rfl rfl (by decide +kernel) (by rfl) (λ_ _ h=>h) (bZ (by rfl)) (f7 rfl rfl rfl ⟨_,rfl⟩ cX) (by decide +kernel) (fZ (gw (pv 2))) (λC s3 H3 fp=>(be (br (i:=0) (show(["moment", "times"]:List Str).Nodup from by decide +kernel) rfl (by walk_at "L")))) (λC s3 H3 fp=>bV) (λC s3 H3 fp=>(by walk_at "q"))) eK))))) uM)))) (by walk_at "q")))
variable(ge:DefM P w K mg base 1 "Tree" "timing" 1 gh)
variable(cC:DefM P w K mg base 1 "Tree" "flow_of_rules" 1 bY)
variable(jA:SL.DefS P w K mg base 3 "keeping" 2 eI)
variable(gN:SL.MkS P w K mg base 2 "Tree" 3 gW)
variable(eX:SL.DefSM P w K mg base 4 "Tree" "settle" 1 fG)
include ge cC jA gN eX in
theorem mT(F0:Fun K "least_timing" "least_timing" (top 17) f fd)(hm:mg "least_timing" = some (.ref f)):SL.DefS P w K mg base 5 "least_timing" 2 eu:=by
 have S:FnScope ["many", "rules", "kept", "tree"] ["many", "rules"] (ao (top 17)):=by walk_at "S"
 walk_at "D5";unfold eP;walk_at "q"
include bX iw in
theorem dL(F0:Fun K "may_go_through" "may_go_through" (top 20) f fd)(hm:mg "may_go_through" = some (.ref f)):Def P w K mg base 2 "may_go_through" 2 cR:=by
 have S:FnScope ["rule", "number"] ["rule", "number"] (ao (top 20)):=by walk_at "S"
 walk_at "D0";unfold i5;walk_at "q"
variable(dL:Def P w K mg base 2 "may_go_through" 2 cR)
variable(z_zip:mg "zip" = none)
include z_len z_list z_isinstance z_all dL z_zip in
theorem kK(F0:Fun K "is_flow" "is_flow" (top 19) f fd)(hm:mg "is_flow" = some (.ref f)):Def P w K mg base 3 "is_flow" 3 jc:=by
 have S:FnScope ["many", "rules", "flow", "over", "rule", "number"] ["many", "rules", "flow"] (ao (top 19)):=by walk_at "S"
 walk_at "D0";unfold pU iL;exact d6 (by walk_at "q") (d6 (tX (ve (vd (hJ (kI rfl) rfl z_all PyProof.Rows.boot_all (bv (cj (fr:=[]) (tn:=["rule", "number"]) rfl rfl (by decide +kernel) (by rfl) (λ_ _ h=>h) (bZ (by rfl)) cX (by decide +kernel) (by walk_at "q") (λC s3 H3 fp=>(lr rfl (dJ (be (br (i:=0) (show(["rule", "number"]:List Str).Nodup from by decide +kernel) rfl (by walk_at "L"))) (dJ (be (br (i:=1) (show(["rule", "number"]:List Str).Nodup from by decide +kernel) rfl (by walk_at "L"))) jR)))) (λC s3 H3 fp=>bV) (λC s3 H3 fp=>(by walk_at "q"))) eK)))) (gE (ji vh)) qA) (d6 (by walk_at "q") (d6 (by walk_at "q") (vg 3 (gE (ji (hJ (kI rfl) rfl z_all PyProof.Rows.boot_all (bv (cj (fr:=[]) (tn:=["rest"]) rfl rfl (by decide +kernel) (by rfl) (λ_ _ h=>h) (bZ (by rfl)) cX (by decide +kernel) (fZ (gw (pv 3))) (λC s3 H3 fp=>(be (br (i:=0) (show(["rest"]:List Str).Nodup from by decide +kernel) rfl (by walk_at "L")))) (λC s3 H3 fp=>bV) (λC s3 H3 fp=>(by walk_at "q"))) eK))))))))
include z_sum z_zip in
theorem m8(F0:Fun K "worth" "worth" (top 21) f fd)(hm:mg "worth" = some (.ref f)):Def P w K mg base 1 "worth" 2 ni:=by
 have S:FnScope ["rules", "flow"] ["rules", "flow"] (ao (top 21)):=by walk_at "S"
 walk_at "D0";unfold qQ;exact gE (ji (hJ (jB rfl) rfl z_sum PyProof.Rows.boot_sum (bv (cj (fr:=[]) (tn:=["rule", "number"]) rfl rfl (by decide +kernel) (by rfl) (λ_ _ h=>h) (bZ (by rfl)) cX (by decide +kernel) (by walk_at "q") (λC s3 H3 fp=>(lr rfl (dJ (be (br (i:=0) (show(["rule", "number"]:List Str).Nodup from by decide +kernel) rfl (by walk_at "L"))) (dJ (be (br (i:=1) (show(["rule", "number"]:List Str).Nodup from by decide +kernel) rfl (by walk_at "L"))) jR)))) (λC s3 H3 fp=>bV) (λC s3 H3 fp=>(by walk_at "q"))) eK)))
variable(iJ:Def P w K mg base 2 "is_timing" 2 gq)
variable(kK:Def P w K mg base 3 "is_flow" 3 jc)
variable(lI:Def P w K mg base 2 "broken" 2 kj)
variable(m8:Def P w K mg base 1 "worth" 2 ni)
variable(m9:Def P w K mg base 2 "price" 2 nj)
include iJ kK lI m8 m9 in
theorem kJ(F0:Fun K "lets_by" "lets_by" (top 18) f fd)(hm:mg "lets_by" = some (.ref f)):Def P w K mg base 4 "lets_by" 4 dP:=by
 have S:FnScope ["many", "rules", "times", "flow"] ["many", "rules", "times", "flow"] (ao (top 18)):=by walk_at "S"
 walk_at "D0";unfold pT;walk_at "q"
include z_len in
theorem e8(F0:Fun K "_law_cell_at" "_law_cell_at" (top 23) f fd)(hm:mg "_law_cell_at" = some (.ref f)):Def P w K mg base 1 "_law_cell_at" 2 bK:=by
 have S:FnScope ["_law_script", "_law_k"] ["_law_script", "_law_k"] (ao (top 23)):=by walk_at "S"
 walk_at "D0";unfold eQ;walk_at "q"
include z_isinstance z_int z_bool in
theorem eY(F0:Fun K "_law_whole" "_law_whole" (top 24) f fd)(hm:mg "_law_whole" = some (.ref f)):Def P w K mg base 1 "_law_whole" 1 bU:=by
 have S:FnScope ["_law_found"] ["_law_found"] (ao (top 24)):=by walk_at "S"
 walk_at "D0";unfold ly;walk_at "q"
include z_range in
theorem dy(F0:Fun K "_law_numbers" "_law_numbers" (top 25) f fd)(hm:mg "_law_numbers" = some (.ref f)):Def P w K mg base 1 "_law_numbers" 2 dH:=by
 have S:FnScope ["_law_cell", "_law_many", "_law_found", "_law_number", "_law_k"] ["_law_cell", "_law_many"] (ao (top 25)):=by walk_at "S"
 walk_at "D0";unfold ie dO;walk_at "q"
variable(dy:Def P w K mg base 1 "_law_numbers" 2 dH)
include dy in
theorem gc(F0:Fun K "_law_hidden" "_law_hidden" (top 26) f fd)(hm:mg "_law_hidden" = some (.ref f)):Def P w K mg base 2 "_law_hidden" 2 gg:=by
 have S:FnScope ["_law_cell", "_law_many", "_law_times", "_law_number"] ["_law_cell", "_law_many"] (ao (top 26)):=by walk_at "S"
 walk_at "D0";unfold iQ er;walk_at "q"
include z_len z_enumerate dy in
theorem gR(F0:Fun K "_law_rules" "_law_rules" (top 27) f fd)(hm:mg "_law_rules" = some (.ref f)):Def P w K mg base 2 "_law_rules" 2 gU:=by
 have S:FnScope ["_law_times", "_law_cells", "_law_rules_here", "_law_k", "_law_cell", "_law_some", "_law_low", "_law_high", "_law_far", "_law_by"] ["_law_times", "_law_cells"] (ao (top 27)):=by walk_at "S"
 walk_at "D0";unfold jq cP;walk_at "q"
include z_max in
theorem eZ(F0:Fun K "_law_price" "_law_price" (top 28) f fd)(hm:mg "_law_price" = some (.ref f)):Def P w K mg base 1 "_law_price" 2 fA:=by
 have S:FnScope ["_law_rules_here", "_law_times", "_law_total", "_law_rule"] ["_law_rules_here", "_law_times"] (ao (top 28)):=by walk_at "S"
 walk_at "D0";unfold jr ft;walk_at "q"
variable(eY:Def P w K mg base 1 "_law_whole" 1 bU)
variable(eZ:Def P w K mg base 1 "_law_price" 2 fA)
include z_len z_list z_isinstance eY eZ in
theorem dM(F0:Fun K "_law_times_due" "_law_times_due" (top 29) f fd)(hm:mg "_law_times_due" = some (.ref f)):Def P w K mg base 2 "_law_times_due" 4 cg:=by
 have S:FnScope ["_law_many", "_law_rules_here", "_law_times", "_law_cost", "_law_rule"] ["_law_many", "_law_rules_here", "_law_times", "_law_cost"] (ao (top 29)):=by walk_at "S"
 walk_at "D0";unfold i6 bQ;exact d6 (by walk_at "q") (d6 (tX (PDW.t (pdw_or (vf vO vh (cj (fr:=[]) (tn:=["_law_moment"]) rfl rfl (by decide +kernel) (by rfl) (λ_ _ h=>h) (bZ (by rfl)) cX (by decide +kernel) (fZ (gw (pv 2))) (λC s3 H3 fp=>(be (br (i:=0) (show(["_law_moment"]:List Str).Nodup from by decide +kernel) rfl (by walk_at "L")))) (λC s3 H3 fp=>bV) (λC s3 H3 fp=>(by walk_at "q"))) rfl) (by walk_at "q"))) (gE (ji vh)) qA) (by walk_at "q"))
include z_len z_list z_enumerate z_isinstance eY in
theorem el(F0:Fun K "_law_flow_due" "_law_flow_due" (top 30) f fd)(hm:mg "_law_flow_due" = some (.ref f)):Def P w K mg base 2 "_law_flow_due" 4 dg:=by
 have S:FnScope ["_law_many", "_law_rules_here", "_law_flow", "_law_cost", "_law_extra", "_law_sums", "_law_k", "_law_rule"] ["_law_many", "_law_rules_here", "_law_flow", "_law_cost"] (ao (top 30)):=by walk_at "S"
 walk_at "D0";unfold jH bJ;walk_at "q"
variable(z_tuple:mg "tuple" = none)
variable(z_str:mg "str" = none)
include z_len z_range z_tuple z_str in
theorem c6(F0:Fun K "_law_other_times" "_law_other_times" (top 31) f fd)(hm:mg "_law_other_times" = some (.ref f)):Def P w K mg base 1 "_law_other_times" 3 c8:=by
 have S:FnScope ["_law_times", "_law_hidden_here", "_law_cell", "_law_others", "_law_k", "_law_at", "_law_odd"] ["_law_times", "_law_hidden_here", "_law_cell"] (ao (top 31)):=by walk_at "S"
 walk_at "D0";unfold eC dA cE;exact d6 (qC (i:=3) S.nd rfl (by walk_at "L") (mY (bv (gw (pv 1)) (bv (by walk_at "q") (bv (by walk_at "q") (bv (by walk_at "q") (bv tW (bv (cj (fr:=[]) (tn:=["_law_moment"]) rfl rfl (by decide +kernel) (by rfl) (λ_ _ h=>h) (bZ (by rfl)) cX (by decide +kernel) (fZ (gw (pv 0))) (λC s3 H3 fp=>(be (br (i:=0) (show(["_law_moment"]:List Str).Nodup from by decide +kernel) rfl (by walk_at "L")))) (λC s3 H3 fp=>bV) (λC s3 H3 fp=>(by walk_at "q"))) eK)))))))) (by walk_at "q")
include z_len z_tuple in
theorem c7(F0:Fun K "_law_other_flows" "_law_other_flows" (top 32) f fd)(hm:mg "_law_other_flows" = some (.ref f)):Def P w K mg base 1 "_law_other_flows" 2 c9:=by
 have S:FnScope ["_law_flow", "_law_cell", "_law_others", "_law_at", "_law_odd"] ["_law_flow", "_law_cell"] (ao (top 32)):=by walk_at "S"
 walk_at "D0";unfold cW dD;exact d6 (qC (i:=2) S.nd rfl (by walk_at "L") (mY (bv (by walk_at "q") (bv (by walk_at "q") (bv (by walk_at "q") (bv tW (bv (by walk_at "q") (bv (cj (fr:=[]) (tn:=["_law_number"]) rfl rfl (by decide +kernel) (by rfl) (λ_ _ h=>h) (bZ (by rfl)) cX (by decide +kernel) (fZ (gw (pv 0))) (λC s3 H3 fp=>(be (br (i:=0) (show(["_law_number"]:List Str).Nodup from by decide +kernel) rfl (by walk_at "L")))) (λC s3 H3 fp=>bV) (λC s3 H3 fp=>(by walk_at "q"))) eK)))))))) (by walk_at "q")
variable(e8:Def P w K mg base 1 "_law_cell_at" 2 bK)
variable(gc:Def P w K mg base 2 "_law_hidden" 2 gg)
variable(gR:Def P w K mg base 2 "_law_rules" 2 gU)
variable(d_least_timing:Def P w K mg base 5 "least_timing" 2 cS)
variable(kJ:Def P w K mg base 4 "lets_by" 4 dP)
variable(dM:Def P w K mg base 2 "_law_times_due" 4 cg)
variable(c6:Def P w K mg base 1 "_law_other_times" 3 c8)
variable(el:Def P w K mg base 2 "_law_flow_due" 4 dg)
variable(c7:Def P w K mg base 1 "_law_other_flows" 2 c9)
include z_list z_isinstance z_bool eZ e8 gc gR d_least_timing kJ dM c6 el c7 in
theorem fn_law(F0:Fun K "law" "law" (top 33) f fd):FnOk P w K mg base CX0 6 f fd ["_law_script"] (spD K 1 vW):=by
 have S:FnScope ["_law_script", "_law_many", "_law_hidden_here", "_law_rules_here", "_law_cost", "_law_other", "_law_held", "_law_word", "_law_times", "_law_flow", "_law_found"] ["_law_script"] (ao (top 33)):=by walk_at "S"
 walk_at "D6";unfold g_law rA rB;walk_at "q"
end
theorem all_mk{l:PySem.W.OpenLaw}{w:World}{K:ζ}{h:Heap}{mg:Str->Option Value}{fa f42:Addr}(X:K.In h)(G:h.Ns mainGlobals mg)(hfa:mg "law" = some (.ref fa))
  {od42 an42:Option Addr} {sl42:Array (Option Value)} {oc42 kV42 dc42 pm42 cd42 ct42:Value}
  (a0:Fu K "must_be_kept" (top 5))
  (a1:Fu K "first_flow" (top 15))
  (a19:Fu K "is_whole" (top 1))
  (a20:Fu K "lacking" (top 6))
  (a21:Fu K "broken" (top 3))
  (a22:Fu K "price" (top 4))
  (a23:Fu K "is_timing" (top 7))
  (a24:Fu K "ring_above" (top 11))
  (a25:Fu K "raise_points" (top 10))
  (a26:Fu K "keeping" (top 9))
  (a27:Fu K "least_timing" (top 17))
  (a28:Fu K "may_go_through" (top 20))
  (a29:Fu K "is_flow" (top 19))
  (a30:Fu K "worth" (top 21))
  (a31:Fu K "lets_by" (top 18))
  (a32:Fu K "_law_cell_at" (top 23))
  (a33:Fu K "_law_whole" (top 24))
  (a34:Fu K "_law_numbers" (top 25))
  (a35:Fu K "_law_hidden" (top 26))
  (a36:Fu K "_law_rules" (top 27))
  (a37:Fu K "_law_price" (top 28))
  (a38:Fu K "_law_times_due" (top 29))
  (a39:Fu K "_law_flow_due" (top 30))
  (a40:Fu K "_law_other_times" (top 31))
  (a41:Fu K "_law_other_flows" (top 32))
  (a42:Z0 K mainGlobals "law" = some (some (.ref f42))) (l42:K.lookup f42=some ⟨oc42,od42,.func (T6 "law" "law" (kG (top 33)) (ek (top 33)) (ao (top 33)) .none kV42 dc42 pm42 an42 cd42 ct42),sl42⟩) (c42:PySem.W.codeIn K cd42 "law" = true) (k42:V7 K (.ref f42)=true)
  (z_len:Z0 K mainGlobals "len" = some none)
  (z_sum:Z0 K mainGlobals "sum" = some none)
  (z_list:Z0 K mainGlobals "list" = some none)
  (z_enumerate:Z0 K mainGlobals "enumerate" = some none)
  (z_range:Z0 K mainGlobals "range" = some none)
  (z_abs:Z0 K mainGlobals "abs" = some none)
  (z_min:Z0 K mainGlobals "min" = some none)
  (z_isinstance:Z0 K mainGlobals "isinstance" = some none)
  (z_int:Z0 K mainGlobals "int" = some none)
  (z_bool:Z0 K mainGlobals "bool" = some none)
  (z_max:Z0 K mainGlobals "max" = some none)
  (z_all:Z0 K mainGlobals "all" = some none)
  (z_reversed:Z0 K mainGlobals "reversed" = some none)
  (z_zip:Z0 K mainGlobals "zip" = some none)
  (z_tuple:Z0 K mainGlobals "tuple" = some none)
  (z_str:Z0 K mainGlobals "str" = some none)
  {C_Tree:Addr} (n_Tree:Z0 K mainGlobals "Tree" = some (some (.ref C_Tree)))
  (a2:Me K C_Tree "__init__" "Tree.__init__" (mth (top 14) 0))
  (mk2:PySem.W.makesIn K C_Tree=true) (kc2:V7 K (.ref C_Tree)=true)
  (a3:Me K C_Tree "timing" "Tree.timing" (mth (top 14) 1))
  (a4:Me K C_Tree "flow_of_rules" "Tree.flow_of_rules" (mth (top 14) 2))
  (a5:Me K C_Tree "lack_of" "Tree.lack_of" (mth (top 14) 7))
  (a6:Me K C_Tree "is_wrong" "Tree.is_wrong" (mth (top 14) 6))
  (a7:Me K C_Tree "worst_rule" "Tree.worst_rule" (mth (top 14) 5))
  (a8:Me K C_Tree "wrong_rule" "Tree.wrong_rule" (mth (top 14) 4))
  (a9:Me K C_Tree "meeting" "Tree.meeting" (mth (top 14) 9))
  (a10:Me K C_Tree "way" "Tree.way" (mth (top 14) 10))
  (a11:Me K C_Tree "step_down" "Tree.step_down" (mth (top 14) 11))
  (a12:Me K C_Tree "step_up" "Tree.step_up" (mth (top 14) 12))
  (a13:Me K C_Tree "room" "Tree.room" (mth (top 14) 13))
  (a15:Me K C_Tree "shift" "Tree.shift" (mth (top 14) 15))
  (a16:Me K C_Tree "hang" "Tree.hang" (mth (top 14) 14))
  (a17:Me K C_Tree "mend" "Tree.mend" (mth (top 14) 8))
  (a18:Me K C_Tree "settle" "Tree.settle" (mth (top 14) 3))
  {t_STRIDE:Tok} (n_STRIDE:Z0 K mainGlobals "STRIDE" = some (some (.int 50 t_STRIDE)))
  (nn_Tree:Z0 K mainGlobals "Tree" = some (some (.ref C_Tree)))
  (pg_Tree:PySem.W.plainGet K C_Tree Str.empty=true)
  (hd_Tree:PySem.W.hasDictIn K C_Tree=true)
  (po_Tree:PySem.W.plainOver K C_Tree=true)
  (sa_Tree:Z6 K (.ref C_Tree) "__setattr__" = some (some (.builtin "object.__setattr__")))
  (na_Tree_many:Z6 K (.ref C_Tree) "many" = some none)
  (na_Tree_rules:Z6 K (.ref C_Tree) "rules" = some none)
  (na_Tree_bounds:Z6 K (.ref C_Tree) "bounds" = some none)
  (na_Tree_flow:Z6 K (.ref C_Tree) "flow" = some none)
  (na_Tree_times:Z6 K (.ref C_Tree) "times" = some none)
  (na_Tree_over:Z6 K (.ref C_Tree) "over" = some none)
  (na_Tree_under:Z6 K (.ref C_Tree) "under" = some none)
  (na_Tree_hooks:Z6 K (.ref C_Tree) "hooks" = some none)
  (na_Tree_depths:Z6 K (.ref C_Tree) "depths" = some none)
  (na_Tree_begin:Z6 K (.ref C_Tree) "begin" = some none) :
  ∃fd:FuncData,(∀(s:Shared) (v:Value),BindsTo s fd ⟨[v],[]⟩ [("_law_script",v)])/\∀base:Heap,K.In base->base.Ns mainGlobals mg->FnOk l.prog w K mg base CX0 6 fa fd ["_law_script"] (spD K 1 vW):=by
 have cT:ClsT_Tree K C_Tree:=⟨nn_Tree,⟨pg_Tree,hd_Tree,po_Tree,sa_Tree⟩,λf hf=>by simp only[Γ,W6,or_false] at hf;rcases hf with rfl | rfl | rfl | rfl | rfl | rfl | rfl | rfl | rfl | rfl<;>assumption⟩
 have e:=hfa.symm.trans (PySem.W.mg_of X G a42)
 cases e
 have zz_len:=Y3 X G z_len
 have zz_sum:=Y3 X G z_sum
 have zz_list:=Y3 X G z_list
 have zz_enumerate:=Y3 X G z_enumerate
 have zz_range:=Y3 X G z_range
 have zz_abs:=Y3 X G z_abs
 have zz_min:=Y3 X G z_min
 have zz_isinstance:=Y3 X G z_isinstance
 have zz_int:=Y3 X G z_int
 have zz_bool:=Y3 X G z_bool
 have zz_max:=Y3 X G z_max
 have zz_all:=Y3 X G z_all
 have zz_reversed:=Y3 X G z_reversed
 have zz_zip:=Y3 X G z_zip
 have zz_tuple:=Y3 X G z_tuple
 have zz_str:=Y3 X G z_str
 refine⟨T6 "law" "law" (kG (top 33)) (ek (top 33)) (ao (top 33)) .none kV42 dc42 pm42 an42 cd42 ct42,λs v=>.of_eq rfl,λbase _ _=>?_⟩
 have m_Tree:=PySem.W.mg_of X G n_Tree
 have m_STRIDE:=PySem.W.mg_of X G n_STRIDE
 have D0:=a0.go X G λ_ _ F0 hm=>bX l.prog w base F0 hm
 have D1:=a1.go X G λ_ _ F0 hm=>gQ l.prog w base F0 hm
 have DS2:=a2.go λ_ _ F0 hM=>gN l.prog w base m_Tree cT D0 D1 zz_len zz_sum zz_list zz_enumerate zz_range F0 hM mk2 kc2
 have D3:=a3.go λ_ _ F0 hM=>ge l.prog w base m_Tree cT F0 hM
 have D4:=a4.go λ_ _ F0 hM=>cC l.prog w base m_Tree cT F0 hM
 have D5:=a5.go λ_ _ F0 hM=>cN l.prog w base m_Tree cT F0 hM
 have D6:=a6.go λ_ _ F0 hM=>eo l.prog w base m_Tree cT F0 hM
 have D7:=a7.go λ_ _ F0 hM=>dn l.prog w base m_Tree cT zz_range D5 D6 zz_abs F0 hM
 have DS8:=a8.go λ_ _ F0 hM=>cZ l.prog w base m_Tree cT zz_range m_STRIDE D7 zz_min F0 hM
 have D9:=a9.go λ_ _ F0 hM=>fj l.prog w base m_Tree cT F0 hM
 have D10:=a10.go λ_ _ F0 hM=>jC l.prog w base m_Tree cT F0 hM
 have D11:=a11.go λ_ _ F0 hM=>dN l.prog w base m_Tree cT F0 hM
 have D12:=a12.go λ_ _ F0 hM=>fg l.prog w base m_Tree cT F0 hM
 have D13:=a13.go λ_ _ F0 hM=>iK l.prog w base m_Tree cT F0 hM
 have D14:=a10.go λ_ _ F0 hM=>e9 l.prog w base m_Tree cT F0 hM
 have DS15:=a15.go λ_ _ F0 hM=>f9 l.prog w base m_Tree cT F0 hM
 have DS16:=a16.go λ_ _ F0 hM=>gO l.prog w base m_Tree cT zz_enumerate D5 D14 DS15 F0 hM
 have DS17:=a17.go λ_ _ F0 hM=>gM l.prog w base m_Tree cT D5 D9 D10 D11 D12 D13 DS16 F0 hM
 have DS18:=a18.go λ_ _ F0 hM=>eX l.prog w base m_Tree cT DS8 DS17 F0 hM
 have D19:=a19.go X G λ_ _ F0 hm=>iw l.prog w base zz_isinstance zz_int zz_bool F0 hm
 have D20:=a20.go X G λ_ _ F0 hm=>i8 l.prog w base zz_max F0 hm
 have D21:=a21.go X G λ_ _ F0 hm=>lI l.prog w base D0 zz_enumerate D20 F0 hm
 have D22:=a22.go X G λ_ _ F0 hm=>m9 l.prog w base D0 zz_sum D20 F0 hm
 have D23:=a23.go X G λ_ _ F0 hm=>iJ l.prog w base zz_len zz_list zz_isinstance D19 zz_all F0 hm
 have D24:=a24.go X G λ_ _ F0 hm=>gP l.prog w base zz_len zz_list zz_range zz_reversed F0 hm
 have DS25:=a25.go X G λ_ _ F0 hm=>ei l.prog w base D0 zz_enumerate F0 hm
 have D25:=DS25.toD
 have DS26:=a26.go X G λ_ _ F0 hm=>jA l.prog w base zz_range D24 DS25 F0 hm
 have D26:=DS26.toD
 have DS27:=a27.go X G λ_ _ F0 hm=>mT l.prog w base D3 D4 DS26 DS2 DS18 F0 hm
 have D27:=DS27.toD
 have D28:=a28.go X G λ_ _ F0 hm=>dL l.prog w base D0 D19 F0 hm
 have D29:=a29.go X G λ_ _ F0 hm=>kK l.prog w base zz_len zz_list zz_isinstance zz_all D28 zz_zip F0 hm
 have D30:=a30.go X G λ_ _ F0 hm=>m8 l.prog w base zz_sum zz_zip F0 hm
 have D31:=a31.go X G λ_ _ F0 hm=>kJ l.prog w base D23 D29 D21 D30 D22 F0 hm
 have D32:=a32.go X G λ_ _ F0 hm=>e8 l.prog w base zz_len F0 hm
 have D33:=a33.go X G λ_ _ F0 hm=>eY l.prog w base zz_isinstance zz_int zz_bool F0 hm
 have D34:=a34.go X G λ_ _ F0 hm=>dy l.prog w base zz_range F0 hm
 have D35:=a35.go X G λ_ _ F0 hm=>gc l.prog w base D34 F0 hm
 have D36:=a36.go X G λ_ _ F0 hm=>gR l.prog w base zz_len zz_enumerate D34 F0 hm
 have D37:=a37.go X G λ_ _ F0 hm=>eZ l.prog w base zz_max F0 hm
 have D38:=a38.go X G λ_ _ F0 hm=>dM l.prog w base zz_len zz_list zz_isinstance D33 D37 F0 hm
 have D39:=a39.go X G λ_ _ F0 hm=>el l.prog w base zz_len zz_list zz_enumerate zz_isinstance D33 F0 hm
 have D40:=a40.go X G λ_ _ F0 hm=>c6 l.prog w base zz_len zz_range zz_tuple zz_str F0 hm
 have D41:=a41.go X G λ_ _ F0 hm=>c7 l.prog w base zz_len zz_tuple F0 hm
 exact fn_law l.prog w base zz_list zz_isinstance zz_bool D37 D32 D35 D36 D27 D31 D38 D40 D39 D41 (ui l42 c42 k42)
end K44
def PySem.W.Fast.tw11780101027464276203:Nat:=0
def PySem.W.Fast.tw18202800334586340855:Nat:=0
def PySem.W.Fast.tw12941853882142957723:Nat:=0
def PySem.W.Fast.tw18352992301827623938:Nat:=0
def PySem.W.Fast.tw16145350101544849046:Nat:=0
def PySem.W.Fast.tw11517971325088772649:Nat:=0
def PySem.W.Fast.tw5578796457528832779:Nat:=0
def PySem.W.Fast.tw16634740318522063908:Nat:=0
def PySem.W.Fast.tw15930345478771547119:Nat:=0
def PySem.W.Fast.tw5636605806095440469:Nat:=0
def PySem.W.Fast.tw393457729464583973:Nat:=0
def PySem.W.Fast.tw8648241354798949146:Nat:=0
def PySem.W.Fast.tw9950105401533474194:Nat:=0
def PySem.W.Fast.tw17670256822160487142:Nat:=0
def PySem.W.Fast.tw583492295244665805:Nat:=0
def PySem.W.Fast.tw7557874326371989714:Nat:=0
def PySem.W.Fast.tw3918489669887091154:Nat:=0
def PySem.W.Fast.tw14717939209993375091:Nat:=0
def PySem.W.Fast.tw16180798475520464863:Nat:=0
def PySem.W.Fast.tw7164086760006882658:Nat:=0
def PySem.W.Fast.tw2892845357061245497:Nat:=0
def PySem.W.Fast.tw222446945164405260:Nat:=0
def PySem.W.Fast.tw2289586415769994615:Nat:=0
def PySem.W.Fast.tw10293581925262214778:Nat:=0
def PySem.W.Fast.tw5158702934943956748:Nat:=0
def PySem.W.Fast.tw17759405668850141649:Nat:=0
def PySem.W.Fast.tw9550518905053987570:Nat:=0
def PySem.W.Fast.tw7093957381429907985:Nat:=0
def PySem.W.Fast.tw3826733807727342709:Nat:=0
def PySem.W.Fast.tw3518462360200353111:Nat:=0
def PySem.W.Fast.tw16670267551025489990:Nat:=0
def PySem.W.Fast.tw12131041554908807712:Nat:=0
def PySem.W.Fast.tw9455028579400787335:Nat:=0
def PySem.W.Fast.tw18346275748075845316:Nat:=0
def PySem.W.Fast.tw12879463955769270203:Nat:=0
def PySem.W.Fast.tw4039543899598083617:Nat:=0
def PySem.W.Fast.tw17008268985556515522:Nat:=0
def PySem.W.Fast.tw4261173825686790115:Nat:=0
def PySem.W.Fast.tw15901500900468097614:Nat:=0
def PySem.W.Fast.tw4658498256934311988:Nat:=0
def PySem.W.Fast.tw1400324325702172886:Nat:=0
def PySem.W.Fast.tw7705424868411413115:Nat:=0
def PySem.W.Fast.tw7244058964461785102:Nat:=0
def PySem.W.Fast.tw7131003617260000805:Nat:=0
def PySem.W.Fast.tw2531697686282833430:Nat:=0
def PySem.W.Fast.tw8996476803648828927:Nat:=0
def PySem.W.Fast.tw2619429572470951508:Nat:=0
def PySem.W.Fast.tw10930732244184556538:Nat:=0
def PySem.W.Fast.tw7559201871495337349:Nat:=0
def PySem.W.Fast.tw7342842148602916084:Nat:=0
def PySem.W.Fast.tw5612705820853034290:Nat:=0
def PySem.W.Fast.tw7373435256237706806:Nat:=0
def PySem.W.Fast.tw11933365020500176675:Nat:=0
def PySem.W.Fast.tw2327319248023755100:Nat:=0
def PySem.W.Fast.tw3985218433519058743:Nat:=0
def PySem.W.Fast.tw14557215607343434061:Nat:=0
def PySem.W.Fast.tw13665822176124626373:Nat:=0
def PySem.W.Fast.tw2617756865093884649:Nat:=0
def PySem.W.Fast.tw143354512509823402:Nat:=0
def PySem.W.Fast.tw1137054998522961813:Nat:=0
def PySem.W.Fast.tw16405126286115766198:Nat:=0
def PySem.W.Fast.tw14971182170383584384:Nat:=0
def PySem.W.Fast.tw15034315302972941112:Nat:=0
def PySem.W.Fast.tw5747128544696698088:Nat:=0
def PySem.W.Fast.tw8486973282400615179:Nat:=0
def PySem.W.Fast.tw15926666909246393768:Nat:=0
def PySem.W.Fast.tw18275427555912883174:Nat:=0
def PySem.W.Fast.tw10596615063334505289:Nat:=0
def PySem.W.Fast.tw10723073927324027656:Nat:=0
def PySem.W.Fast.tw2458041007184651524:Nat:=0
def PySem.W.Fast.tw18137832787337614796:Nat:=0
def PySem.W.Fast.tw6360942602410187957:Nat:=0
def PySem.W.Fast.tw273448450888700822:Nat:=0
def PySem.W.Fast.tw6893850584586368165:Nat:=0
def PySem.W.Fast.tw13366079937695498188:Nat:=0
def PySem.W.Fast.tw17105611803117488770:Nat:=0
def PySem.W.Fast.tw16274381634087374151:Nat:=0
def PySem.W.Fast.tw5184343435913193848:Nat:=0
def PySem.W.Fast.tw15549577021982491093:Nat:=0
def PySem.W.Fast.tw17958011918216061686:Nat:=0
def PySem.W.Fast.tw4043753203164989015:Nat:=0
def PySem.W.Fast.tw18126120288381227258:Nat:=0
def PySem.W.Fast.tw9729343385477826111:Nat:=0
def PySem.W.Fast.tw1161243048908243345:Nat:=0
def PySem.W.Fast.tw13502481065886135974:Nat:=0
def PySem.W.Fast.tw5004269752029255073:Nat:=0
def PySem.W.Fast.tw5875342557974996887:Nat:=0
def PySem.W.Fast.tw16541373431309570969:Nat:=0
def PySem.W.Fast.tw17659375265470874669:Nat:=0
def PySem.W.Fast.tw2415013322737519665:Nat:=0
def PySem.W.Fast.tw12165544058772449139:Nat:=0
def PySem.W.Fast.tw4526165794689548769:Nat:=0
def PySem.W.Fast.tw17065357051377284623:Nat:=0
def PySem.W.Fast.tw1441530508021637725:Nat:=0
def PySem.W.Fast.tw15427107061586130572:Nat:=0
def PySem.W.Fast.tw14155723915405484113:Nat:=0
def PySem.W.Fast.tw8774257334204995247:Nat:=0
def PySem.W.Fast.tw2643930527364877219:Nat:=0
def PySem.W.Fast.tw1946372626056120145:Nat:=0
def PySem.W.Fast.tw3536583720833843952:Nat:=0
def PySem.W.Fast.tw5747957395180030113:Nat:=0
def PySem.W.Fast.tw11477655543143595248:Nat:=0
def PySem.W.Fast.tw14596689051350668894:Nat:=0
def PySem.W.Fast.tw10104934497125419268:Nat:=0
def PySem.W.Fast.tw6373209684000970110:Nat:=0
def PySem.W.Fast.tw12554237142158554660:Nat:=0
def PySem.W.Fast.tw9332842031043869771:Nat:=0
def PySem.W.Fast.tw14508870456337095443:Nat:=0
def PySem.W.Fast.tw1865702822672892070:Nat:=0
def PySem.W.Fast.tw2773201120275417822:Nat:=0
def PySem.W.Fast.tw11490710839914685855:Nat:=0
def PySem.W.Fast.tw1714451739029209235:Nat:=0
def PySem.W.Fast.tw4349670791339677663:Nat:=0
def PySem.W.Fast.tw8923516519074359446:Nat:=0
def PySem.W.Fast.tw7113543319942028171:Nat:=0
def PySem.W.Fast.tw1071838146030518880:Nat:=0
def PySem.W.Fast.tw16796922436253525502:Nat:=0
def PySem.W.Fast.tw12407118471830089450:Nat:=0
def PySem.W.Fast.tw2903173218225368966:Nat:=0
def PySem.W.Fast.tw4722137866468946367:Nat:=0
def PySem.W.Fast.tw11565405468096277381:Nat:=0
def PySem.W.Fast.tw12925404511799501959:Nat:=0
def PySem.W.Fast.tw18430648938004657386:Nat:=0
def PySem.W.Fast.tw17602399719402572249:Nat:=0
def PySem.W.Fast.tw6873758718369981292:Nat:=0
def PySem.W.Fast.tw10609692151377160871:Nat:=0
def PySem.W.Fast.tw6575207431087232683:Nat:=0
local macro_rules | `(tactic| walk_at "F")=>`(tactic| (refine' ⟨_,_,?a,L2.ui ?l ?c ?k⟩;(case a=>k_is);(case l=>k_is);(case c=>k_is);(case k=>k_is)))
local macro_rules | `(tactic| walk_at "M")=>`(tactic| (refine' ⟨_,_,?a,?i,L2.ui ?l ?c ?k⟩;(case a=>k_is);(case i=>k_is);(case l=>k_is);(case c=>k_is);(case k=>k_is)))
open PySem.W PyProof.Rows
set_option maxRecDepth 100000 in
set_option maxHeartbeats 0 in
theorem PySem.Challenge.cw_cuetimer_k44_whole_lets_by_just_these_holds : PySem.Challenge.rw_cuetimer_k44_whole_lets_by_just_these.Holds := by
 w_on; o_law; k_head; (case hw => w_witness2)
 k_fill
 refine DL.walk (l := PySem.Challenge.rw_cuetimer_k44_whole_lets_by_just_these) (k := 6) (F := K44.vW) (x := "_law_script") rfl rfl K44.law_true ⟨rfl, by decide, by decide⟩ (fun w h Y => PySem.W.kIn_of Y) ?T
 case T =>
  intro w mg fa h KX G hmg
  refine' K44.all_mk KX G hmg ?_ ?_ ?_ ?_ ?_ ?_ ?_ ?_ ?_ ?_ ?_ ?_ ?_ ?_ ?_ ?_ ?_ ?_ ?_ ?_ ?_ ?_ ?_ ?_ ?_ ?_ ?_ ?_ ?_ ?_ ?_ ?_ ?_ ?_ ?_ ?_ ?_ ?_ ?_ ?_ ?_ ?_ ?_ ?_ ?_ ?_ ?_ ?_ ?_ ?_ ?_ ?_ ?_ ?_ ?_ ?_ ?_ ?_ ?_ ?_ ?_ ?_ ?_ ?_ ?_ ?_ ?_ ?_ ?_ ?_ ?_ ?_ ?_ ?_ ?_ ?_ ?_ ?_ ?_ ?_
  all_goals try first | walk_at "F" | walk_at "M" | k_is
#print axioms PySem.Challenge.cw_cuetimer_k44_whole_lets_by_just_these_holds
