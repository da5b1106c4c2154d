import PyProof.Rows.All
import Wide.All
import OpenK.AllK
import Wide.FinOn
import Lean
import PyProof.EqAt
import PyProof.EqKinds
import PyProof.TupleCall
import PySem.Challenge.RW_cuetimer_k55_cues_timed
set_option compiler.extract_closed false
set_option Elab.async false
set_option linter.all false
set_option maxRecDepth 100000
set_option maxHeartbeats 4000000
open List renaming length_append->η,mem_cons_of_mem->θ,getElem?_append_left->ι,getElem?_append_right->ο,getElem?_eq_some_iff->ρ,length_map->ς,mem_cons_self->υ,replicate->χ,mem_cons->ψ,map_cons->ω,getElem?_map->Γ,getElem?_eq_getElem->Δ,length_set->Λ,length_cons->Φ,range->Ψ,map_append->Z0,append_nil->Z3,mem_append->Z7,mem_of_getElem?->Z9,getD_eq_getElem?_getD->Y0,mem_append_right->Y3,mem_filter->Y6,map_map->Y9,nodup_cons->X0,not_mem_nil->X9,length_range->W0,find?_cons->W3,range'->W4,mem_singleton->W6,drop_length->V2,getElem?_replicate->V3,length->V5,mem_map->V6,length_replicate->U0,reverse_cons->U2,drop_drop->U4,length_drop->U5,all_eq_true->U6,drop_eq_getElem_cons->U9,getElem?_range->T4,getElem?_take->T6,append_assoc->T7,getElem?_eq_none->S4,mem_reverse->S5
open Nat renaming le_refl->ξ,lt_of_lt_of_le->Ω,ne_of_lt->Z4,lt_or_ge->Z6,sub_self->Y4,zero_le->Y5,not_lt_zero->Y8,le_of_lt->X5,le_trans->X8,zero_add->W1,lt_irrefl->V9
open Bool renaming and_eq_true->Z2,false_ne_true->Z8
open Int renaming toNat_natCast->W2,le_refl->V0,mul_le_mul_of_nonneg_left->V7,mul_zero->U7,add_zero->U8
open PySem PySem.Spec
noncomputable section
open PySem.W renaming Frag->ε,nsIn->Ξ,findIn->Z1,mg_none_of->Z5,keepIn->Y7,fnOf->X6,emptyDict->W5,kia_one->W7,instObj->W8,codeIn->U1,plainGet->T8,mg_of->T9
open PySem.PyData renaming int->ζ,list->Θ,tuple->W9,canLay0->V1,eqv->V4,canLayAll0->V8,strOk->U3
set_option hygiene false
local macro_rules|`(tactic|walk_at "c")=>`(tactic|(
  have cs:∀(k:Nat) (a:Addr),(α++[some l])[k]?=some (some a)->α[k]?=some (some a)\/(k=α.length/\a=l):=λk a h=>by
   by_cases hk:k<α.length
   ·rw[ι hk] at h;exact .inl h
   ·rw[ο `am] at h
    have h0:k-α.length=0:=by
     have:=(ρ.mp h).1
     simp at this
     omega
    rw[h0] at h
    simp at h
    exact .inr ⟨by omega,h.symm⟩
  have ne:∀(k:Nat) (a:Addr),α[k]?=some (some a)->a≠l:=λk a h z=>by
   obtain⟨o,h3,_⟩:=S.tracked h
   rw[z,hl] at h3;cases h3
  refine⟨by rw[η,η,S.len];rfl,λi j a h1 h2=>?_,λb hb=>?_,λb hb=>θ _ (S.sub b hb),λk a h=>?_⟩))
local macro_rules|`(tactic|walk_at "a")=>`(tactic|(
  have e:∀(k:Nat) (a:Addr),α[k]?=some (some a)->(α++[some l])[k]?=some (some a):=λk a h=>by
   rw[ι (ρ.mp h).1];exact h
  have cs:∀(k:Nat) (a:Addr),(α++[some l])[k]?=some (some a)->α[k]?=some (some a)\/(k=α.length/\a=l):=λk a h=>by
   by_cases hk:k<α.length
   ·rw[ι hk] at h;exact .inl h
   ·rw[ο `am] at h
    have h0:k-α.length=0:=by
     have:=(ρ.mp h).1
     simp at this
     omega
    rw[h0] at h
    simp at h
    exact .inr ⟨by omega,h.symm⟩))
local macro_rules|`(tactic|walk_at "e")=>`(tactic|(
  refine⟨λb zs h=>keep ?_ h,λb zs n h=>⟨n,keep (λz=>n (z▸ho)) h⟩,λb zs n h=>⟨n,keep (λz=>n (z▸ho)) h⟩,λb C dx fs n h=>⟨n,by rw[upd_ne (show b≠l from λz=>n (z▸ho))];exact h⟩⟩
  rintro rfl
  rcases h with h | ⟨u,h⟩
  all_goals simp_all))
local macro_rules|`(tactic|walk_at "d")=>`(tactic|(
  refine ho A δ μ O α σ H _ E (au (aq k) λr z v O1 α1 H1 T1 S1 r1=>?_)
  obtain⟨p1,p2⟩:=r))
local macro_rules|`(`we)=>`(starEach (e::es) X.env=(false,eval e X.env)::starEach es X.env)
local macro_rules|`(`DW)=>`((model X.prog X.w))
local macro_rules|`(`DX)=>`(Inv X pins σ H s)
local macro_rules|`(`DY)=>`((dC (.int 0)))
local macro_rules|`(`on)=>`((aa rfl))
local macro_rules|`(`am)=>`((by omega))
namespace L2
open PyProof.Rows
abbrev Key:=Sum Int Str
noncomputable def qg:Key->Value->Bool
 | .inl k,v=>Value.isInt k v
 | .inr x,v=>Value.isStrOf x v
noncomputable def keyH(w:World):Key->Int
 | .inl k=>hashInt k
 | .inr x=>hashStr w x
theorem b6:∀{k:Key} {v:Value},qg k v=true->(∃i t,k=Sum.inl i/\v=Value.int i t)\/(∃x t,k=Sum.inr x/\v=Value.str x t)
 | .inl i,v,h=>by
  obtain⟨t,e⟩:=Value.isInt_shape h
  simp_all
 | .inr x,v,h=>by
  obtain⟨t,e⟩:=Value.isStrOf_shape h
  simp_all
theorem xz(i:Int)(t:Tok):qg (.inl i) (.int i t)=true:=by simp [qg,Value.isInt]
theorem xy(x:Str)(t:Tok):qg (.inr x) (.str x t)=true:=by simp [qg,Value.isStrOf]
theorem key_ll(a b:Int):decide ((Sum.inl a:Key)=Sum.inl b)=(a==b):=by
 grind
theorem key_rr(a b:Str):decide ((Sum.inr a:Key)=Sum.inr b)=decide (a=b):=by
 simp
theorem key_lr(a:Int)(b:Str):decide ((Sum.inl a:Key)=Sum.inr b)=false:=decide_eq_false (λq=>nomatch q)
theorem key_rl(a:Str)(b:Int):decide ((Sum.inr a:Key)=Sum.inl b)=false:=decide_eq_false (λq=>nomatch q)
noncomputable def ce(prog:Program)(w:World):PySem.KeyKind prog w Key where
 is:=qg
 hash:=keyH w
 inj:=λv a b ha hb=>by
  rcases b6 ha with ⟨i,t,rfl,rfl⟩ | ⟨x,t,rfl,rfl⟩
  ·rcases b6 hb with ⟨j,u,rfl,e⟩ | ⟨y,u,rfl,e⟩
   ·injection e with e1 _;rw[e1]
   ·exact nomatch e
  ·rcases b6 hb with ⟨j,u,rfl,e⟩ | ⟨y,u,rfl,e⟩
   ·exact nomatch e
   ·injection e with e1 _;rw[e1]
 byValue:=λk v h=>by
  rcases b6 h with ⟨i,t,rfl,rfl⟩ | ⟨x,t,rfl,rfl⟩<;>rfl
 pyHash:=λhv h=>by
  rcases b6 hv with ⟨i,t,rfl,rfl⟩ | ⟨x,t,rfl,rfl⟩
  ·exact wpAny_pyHash_int h
  ·exact wpAny_pyHash_str h
 eqBool:=λhu hv h=>by
  rcases b6 hu with ⟨i,t,rfl,rfl⟩ | ⟨x,t,rfl,rfl⟩
  ·rcases b6 hv with ⟨j,u,rfl,rfl⟩ | ⟨y,u,rfl,rfl⟩
   ·rw[key_ll] at h;exact wpAny_eqBool_int h
   ·rw[key_lr] at h;exact SeqAt.EqAt.int_str i t y u _ _ _ _ h
  ·rcases b6 hv with ⟨j,u,rfl,rfl⟩ | ⟨y,u,rfl,rfl⟩
   ·rw[key_rl] at h;exact SeqAt.EqAt.str_int x t j u _ _ _ _ h
   ·rw[key_rr] at h;exact wpAny_eqBool_str h
 «strs»:=λk x t v h=>by
  rcases b6 h with ⟨i,u,rfl,e⟩ | ⟨y,u,rfl,e⟩
  ·exact nomatch e
  ·injection e with e1 _
   subst e1
   cases v<;>rfl
theorem tF(prog:Program)(w:World)(i:Int)(t:Tok):(ce prog w).is (.inl i) (.int i t)=true:=xz i t
theorem tE(prog:Program)(w:World)(x:Str)(t:Tok):(ce prog w).is (.inr x) (.str x t)=true:=xy x t
end L2
namespace L2
open PyProof.Rows
inductive V where
 | non | bl (b:Bool) | int (i:Int) | str (x:Str) | byt (b:Array UInt8) | flt (b:UInt64) | ref (a:Addr) | ty (n:String)
 deriving DecidableEq
def bm:V->Value->Prop
 | .non,u=>u=Value.none
 | .bl b,u=>u=Value.bool b
 | .int i,u=>∃t,u=Value.int i t
 | .str x,u=>∃t,u=Value.str x t
 | .byt b,u=>∃t,u=Value.bytes b t
 | .flt b,u=>∃t,u=Value.float b t
 | .ref a,u=>u=Value.ref a
 | .ty n,u=>u=Value.type n
abbrev aM:List V->List Value->Prop:=Paired bm
theorem aM.length{xs:List V}{us:List Value}(r:aM xs us):xs.length=us.length:=Paired.length r
theorem aM.get:∀{xs:List V} {us:List Value} {i:Nat} {x:V},aM xs us->xs[i]?=some x->∃u,us[i]?=some u/\bm x u
 | _,_,_,_,.nil,e=>by simp at e
 | _,_,0,_,.cons r _,e=>by simp_all
 | _,_,i+1,x,.cons _ t,e=>by
  obtain⟨u,h1,h2⟩:=aM.get t (by assumption)
  simp_all
theorem aM.set{x:V}{u:Value}(r:bm x u):∀{xs:List V} {us:List Value} (i:Nat),aM xs us->aM (xs.set i x) (us.set i u)
 | _,_,_,.nil=>.nil
 | _,_,0,.cons _ t=>.cons r t
 | _,_,i+1,.cons q t=>.cons q (aM.set r i t)
theorem aM.append:∀{xs ys:List V} {us ws:List Value},aM xs us->aM ys ws->aM (xs++ys) (us++ws)
 | _,_,_,_,.nil,s=>s
 | _,_,_,_,.cons r t,s=>.cons r (aM.append t s)
theorem aM.take:∀{xs:List V} {us:List Value} (n:Nat),aM xs us->aM (xs.take n) (us.take n)
 | _,_,0,_=>.nil
 | _,_,_+1,.nil=>.nil
 | _,_,n+1,.cons r t=>.cons r (aM.take n t)
theorem aM.drop:∀{xs:List V} {us:List Value} (n:Nat),aM xs us->aM (xs.drop n) (us.drop n)
 | _,_,0,r=>r
 | _,_,_+1,.nil=>.nil
 | _,_,n+1,.cons _ t=>aM.drop n t
def kj:Option V->Option Value->Prop
 | some v,some u=>bm v u
 | none,none=>True
 | _,_=>False
def KV:List (κ×V)->List (κ×Value)->Prop:=Paired λ(p:κ×V) (q:κ×Value)=>p.1=q.1/\bm p.2 q.2
noncomputable def kV:Key->V
 | .inl i=>.int i
 | .inr x=>.str x
inductive HO where
 | lst (xs:List V)
 | tup (xs:List V)
 | dK (kvs:List (Key×V)) | dT (kvs:List (List Key×V))
 | set (S:Int->Bool) (n:Nat)
 | ins (C dx:Addr) (fs:List (Str×V))
 | own (x:Addr)
 | xd (fs:List (Str×V))
 | met (f x:Addr)
 | rng (lo hi:Int)
 | frz (o:Obj) (u:HO)
 | tbl (ps:Array Value)
 | ext (φ:Heap->Prop)
abbrev Hp:=Addr->Option HO
noncomputable def upd(H:Hp)(a:Addr)(o:HO):Hp:=λb=>if b=a then some o else H b
theorem aA:upd H a o a=some o:=by unfold upd;simp
theorem upd_ne(h:b≠a):upd H a o b=H b:=by unfold upd;simp_all
theorem vS{H:Hp}{a b:Addr}{o u:HO}(h:H a=some o)(h':H b=some u)(d:o≠u):a≠b:=by
 grind
theorem aC{H:Hp}{a b:Addr}{o:HO}(h:H a=some o)(h':H b=none):a≠b:=by
 grind
section
variable(P:Program)(w:World)
def cK(H:Hp)(h:Heap)(a:Addr):HO->Prop
 | .lst xs=>xs.length<=sizeLine/\∃(its:List Value) (n:Nat),aM xs its/\h.get? a=some { cls:=.type "list",data:=.seq its.toArray n }
 | .tup xs=>xs.length<=sizeLine/\∃its:List Value,aM xs its/\IsTup h a its.toArray
 | .dK kvs=>kvs.length<=sizeLine/\(a==sysModules)=false/\∃vs,KV kvs vs/\h.DictOf (ce P w) a vs
 | .dT kvs=>kvs.length<=sizeLine/\(a==sysModules)=false/\∃xs:List (List Key×Addr×Value),
   Paired (λ(p:List Key×V) (q:List Key×Addr×Value)=>p.1=q.1/\H q.2.1=some (.tup (p.1.map kV))/\bm p.2 q.2.2) kvs xs /\
   ∃o es ep,h.get? a=some o/\o.ExactDict/\o.data=.dict es ep/\es.toList=xs.map (entryOfKey (tupleKind (ce P w)))/\(xs.map (·.1)).Nodup
 | .set S n=>h.SetOf (intKind P w) a S n
 | .ins C dx fs=>H dx=some (.own a)/\fs.length<=1000/\dx≠a/\h.get? a=some (W8 C dx) /\
   ∃mA,h.Ns1 dx mA/\(∀f,kj (fs.lookup f) (mA f))/\PySem.Within mA (fs.map (·.1))
 | .own _=>∃o,h.get? a=some o
 | .xd fs=>∃mA,h.Ns1 a mA/\∀f,kj (fs.lookup f) (mA f)
 | .rng lo hi=>∃t u v,h.get? a=some { cls:=.type "range",data:=.fields #[.int lo t,.int hi u,.int 1 v] }
 | .frz o u=>h.get? a=some o/\cK H h a u
 | .tbl ps=>h.get? a=some { cls:=.none,data:=.fields ps }
 | .met f x=>h.get? a=some (PySem.W.methodObj (.ref f) (.ref x))
 | .ext φ=>φ h/\(∃o,h.get? a=some o)/\∀h1 h2:Heap,φ h1->(∀o,h1.get? a=some o->h2.get? a=some o)->φ h2
def HOk(H:Hp)(h:Heap):Prop:=∀a o,H a=some o->cK P w H h a o
end
section
variable{P:Program}{w:World}{H H':Hp}{h h':Heap}{a:Addr}{o:HO}
theorem cK.lt(x:cK P w H h a o):a<h.objs.size:=by
 cases o with
 | lst xs=>obtain⟨_,_,_,_,e⟩:=x;exact Heap.lt_size e
 | tup xs=>obtain⟨_,_,_,p⟩:=x;exact p.lt
 | dK kvs=>obtain⟨_,_,_,_,o,_,_,e,_⟩:=x;exact Heap.lt_size e
 | dT kvs=>obtain⟨_,_,_,_,o,_,_,e,_⟩:=x;exact Heap.lt_size e
 | set S n=>obtain⟨o,_,_,_,e,_⟩:=x;exact Heap.lt_size e
 | ins C dx fs=>obtain⟨_,_,_,e,_⟩:=x;exact Heap.lt_size e
 | own y=>obtain⟨_,e⟩:=x;exact Heap.lt_size e
 | xd fs=>obtain⟨_,⟨_,_,_,e,_⟩,_⟩:=x;exact Heap.lt_size e
 | rng lo hi=>obtain⟨_,_,_,e⟩:=x;exact Heap.lt_size e
 | frz ob u=>obtain⟨e,_⟩:=x;exact Heap.lt_size e
 | tbl ps=>exact Heap.lt_size (show h.get? a=some _ from x)
 | met f y=>exact Heap.lt_size (show h.get? a=some _ from x)
 | ext φ=>obtain⟨_,⟨_,e⟩,_⟩:=x;exact Heap.lt_size e
theorem Paired.mapP:∀{l₁:List α} {l₂:List β},Paired F l₁ l₂->(∀a b,F a b->G a b)->Paired G l₁ l₂
 | _,_,.nil,_=>.nil
 | _,_,.cons r t,f=>.cons (f _ _ r) (Paired.mapP t f)
theorem cK.stay(x:cK P w H h a o)(k:∀b u,(b=a\/H b=some (.own a))->h.get? b=some u->h'.get? b=some u)
  (ho:∀b,H b=some (.own a)->H' b=some (.own a)) (ht:∀b xs,H b=some (.tup xs)->H' b=some (.tup xs)):cK P w H' h' a o:=by
 induction o with
 | lst xs=>obtain⟨z,its,n,r,e⟩:=x;exact⟨z,its,n,r,k _ _ (.inl rfl) e⟩
 | tup xs=>obtain⟨z,its,r,ob,e,c⟩:=x;exact⟨z,its,r,ob,k _ _ (.inl rfl) e,c⟩
 | dK kvs=>obtain⟨z,y,vs,r,ob,es,ep,e,c⟩:=x;exact⟨z,y,vs,r,ob,es,ep,k _ _ (.inl rfl) e,c⟩
 | dT kvs =>
  obtain⟨z,y,xs,r,ob,es,ep,e,c⟩:=x
  exact⟨z,y,xs,Paired.mapP r λp q z=>⟨z.1,ht _ _ z.2.1,z.2.2⟩,ob,es,ep,k _ _ (.inl rfl) e,c⟩
 | set S n=>obtain⟨ob,es,ep,t,e,c⟩:=x;exact⟨ob,es,ep,t,k _ _ (.inl rfl) e,c⟩
 | ins C dx fs =>
  obtain⟨d,z,ne,e,mA,⟨od,es,ep,e2,c⟩,r⟩:=x
  exact⟨ho _ d,z,ne,k _ _ (.inl rfl) e,mA,⟨od,es,ep,k _ _ (.inr d) e2,c⟩,r⟩
 | own y=>obtain⟨ob,e⟩:=x;exact⟨ob,k _ _ (.inl rfl) e⟩
 | xd fs=>obtain⟨mA,⟨od,es,ep,e,c⟩,r⟩:=x;exact⟨mA,⟨od,es,ep,k _ _ (.inl rfl) e,c⟩,r⟩
 | rng lo hi=>obtain⟨t,u,v,e⟩:=x;exact⟨t,u,v,k _ _ (.inl rfl) e⟩
 | frz ob u ih=>obtain⟨e,q⟩:=x;exact⟨k _ _ (.inl rfl) e,ih q⟩
 | tbl ps =>
  have e:h.get? a=some { cls:=.none,data:=.fields ps }:=x
  show h'.get? a=some { cls:=.none,data:=.fields ps }
  simp_all
 | met f y =>
  have e:h.get? a=some (PySem.W.methodObj (.ref f) (.ref y)):=x
  show h'.get? a=some (PySem.W.methodObj (.ref f) (.ref y))
  simp_all
 | ext φ=>obtain⟨p,⟨o,e⟩,st⟩:=x;exact⟨st _ _ p λo q=>k _ _ (.inl rfl) q,⟨o,k _ _ (.inl rfl) e⟩,st⟩
theorem HOk.lt(x:HOk P w H h)(e:H a=some o):a<h.objs.size:=(x a o e).lt
theorem HOk.fresh(x:HOk P w H h)(e:h.objs.size<=a):H a=none:=by
 cases q:H a with
 | none=>rfl
 | some u=>exact absurd (Ω (x.lt q) e) (V9 _)
theorem HOk.kept(x:HOk P w H h)(k:∀b u,h.get? b=some u->h'.get? b=some u):HOk P w H h':=λa o e =>
 (x a o e).stay (λb u _ q=>k b u q) (λ_ q=>q) λ_ _ q=>q
theorem HOk.laid(x:HOk P w H h)(k:∀b u,h.get? b=some u->h'.get? b=some u)(hp:h.objs.size<=a)(new:cK P w (upd H a o) h' a o):HOk P w (upd H a o) h':=λb u e=>by
 have hn:=x.fresh hp
 by_cases hb:b=a
 ·subst hb;rw[aA] at e;simp_all
 ·rw[upd_ne hb] at e
  exact(x b u e).stay (λc v _ q=>k c v q) (λc q=>by rw[upd_ne (aC q hn)];exact q) λc xs q=>by rw[upd_ne (aC q hn)];exact q
end
def Rd(H:Hp)(a:Addr)(u:HO):Prop:=H a=some u\/∃o,H a=some (.frz o u)
theorem Rd.ok(r:Rd H a u)(x:HOk P w H h):cK P w H h a u:=by
 rcases r with r | ⟨o,r⟩
 ·exact x a u r
 ·obtain⟨_,q⟩:=x a _ r
  exact q
def Mut:Option HO->Prop
 | some (.lst _)=>True
 | some (.dK _)=>True
 | some (.dT _)=>True
 | some (.set _ _)=>True
 | some (.ins _ _ _)=>True
 | some (.ext _)=>True
 | _=>False
section
theorem HOk.write(ok:HOk P w H h)(mu:Mut (H x))(he:e=x\/H e=some (.own x))(k:∀b u,b≠e->h.get? b=some u->h'.get? b=some u)(heo:∃u,h'.get? e=some u)
  (new:cK P w (upd H x o') h' x o'):HOk P w (upd H x o') h':=λb u q=>by
 have nown:∀c y,H c=some (.own y)->c≠x:=λc y r z=>by subst z;rw[r] at mu;exact mu
 have ntup:∀c xs,H c=some (.tup xs)->c≠x:=λc xs r z=>by subst z;rw[r] at mu;exact mu
 by_cases hb:b=x
 ·subst hb;rw[aA] at q;simp_all
 ·rw[upd_ne hb] at q
  by_cases hbe:b=e
  ·have q':H b=some (.own x):=by
    simp_all
   rw[q] at q';cases q'
   obtain⟨v,hv⟩:=heo
   exact⟨v,by simp_all⟩
  ·refine(ok b u q).stay (λc v hc r=>k c v ?_ r) (λc r=>by rw[upd_ne (nown c b r)];exact r) λc xs r=>by rw[upd_ne (ntup c xs r)];exact r
   grind
end
structure Un(fs ex:List Addr)(H H':Hp)(h h':Heap):Prop where
 keep:∀b o,h.get? b=some o->H b=none->b∉fs->b∉ex->h'.get? b=some o
 slot:∀b o,h.get? b=some o->H b=none->b∈fs->b∉ex->∃sl,h'.get? b=some { o with slots:=sl }
 free:∀b o,h.get? b=some o->H b=none->b∉ex->H' b=none
 there:∀b o,h.get? b=some o->b∉ex->∃o',h'.get? b=some o'
 tups:∀b xs,H b=some (.tup xs)->H' b=some (.tup xs)
 frzs:∀b o u,H b=some (.frz o u)->H' b=some (.frz o u)
 tbls:∀b ps,H b=some (.tbl ps)->∃more,H' b=some (.tbl (ps++more))
section
variable{fs fs' ex ex':List Addr}{H H1 H2:Hp}{h h1 h2 h':Heap}{a x e:Addr}{o:HO}
theorem Un.any(u:Un fs ex H H1 h h1)(q:h.get? b=some ob)(n:H b=none)(hx:b∉ex):∃sl,h1.get? b=some { ob with slots:=sl }:=by
 by_cases hb:b∈fs
 ·exact u.slot b ob q n hb hx
 ·exact⟨ob.slots,u.keep b ob q n hb hx⟩
theorem Un.kept(k:∀b u,h.get? b=some u->h'.get? b=some u):Un fs ex H H h h' :=
 ⟨λb ob q _ _ _=>k b ob q,λb ob q _ _ _=>⟨ob.slots,k b ob q⟩,λ_ _ _ n _=>n,λb ob q _=>⟨ob,k b ob q⟩,λ_ _ q=>q,λ_ _ _ q=>q,λ_ ps q=>⟨#[],by assumption⟩⟩
theorem Un.refl:Un fs ex H H h h:=Un.kept λ_ _ q=>q
theorem Un.laid(k:∀b u,h.get? b=some u->h'.get? b=some u)(hp:h.objs.size<=a)(hn:H a=none):Un fs ex H (upd H a o) h h' where
 keep:=λb u q _ _ _=>k b u q
 slot:=λb u q _ _ _=>⟨u.slots,k b u q⟩
 free:=λb u q n _=>by rw[upd_ne (Z4 (Ω (Heap.lt_size q) hp))];exact n
 there:=λb u q _=>⟨u,k b u q⟩
 tups:=λb xs q=>by rw[upd_ne (aC q hn)];exact q
 frzs:=λb u xs q=>by rw[upd_ne (aC q hn)];exact q
 tbls:=λb ps q=>⟨#[],by rw[upd_ne (aC q hn),q];simp⟩
theorem Un.write(mu:Mut (H x))(he:e=x\/H e=some (.own x))(k:∀b u,b≠e->h.get? b=some u->h'.get? b=some u)(heo:∃u,h'.get? e=some u):Un fs ex H (upd H x o) h h':=by
 have hx:∀b,H b=none->b≠x:=λb n z=>by subst z;rw[n] at mu;exact mu
 have hb:∀b,H b=none->b≠e:=λb n z=>by
  simp_all
 have hm:∀b u,H b=some u->¬Mut (some u)->b≠x:=λb u q nm z=>by simp_all
 refine⟨λb u q n _ _=>k b u (hb b n) q,λb u q n _ _=>⟨u.slots,k b u (hb b n) q⟩,λb u q n _=>by rw[upd_ne (hx b n)];exact n,λb u q _=>?_,
  λb xs q=>by rw[upd_ne (hm b _ q λz=>z)];exact q,λb u xs q=>by rw[upd_ne (hm b _ q λz=>z)];exact q,λb ps q=>⟨#[],by rw[upd_ne (hm b _ q λz=>z),q];simp⟩⟩
 grind
end
noncomputable def trk(h:Heap)(H:Hp):List Addr:=(Ψ h.objs.size).filter λa=>(H a).isSome
noncomputable def rH(h:Heap)(H:Hp):Heap:=PySem.W.hideAll h (trk h H)
theorem xB(h:Heap)(H:Hp):(rH h H).objs.size=h.objs.size:=PySem.W.hideAll_size _ _
theorem Ap(e:h.get? b=some o)(n:H b=none):(rH h H).get? b=some o :=
 PySem.W.hideAll_get _ e λhm=>by
  have q:= (Y6.mp hm).2
  simp_all
theorem CZ(e:(rH h H).get? b=some o):h.get? b=some o/\H b=none:=by
 have e':= PySem.W.of_hideAll (trk h H) e
 refine⟨e',?_⟩
 cases q:H b with
 | none=>rfl
 | some x =>
  have hm:b∈trk h H:=Y6.mpr ⟨List.mem_range.mpr (Heap.lt_size e'),by simp [q]⟩
  have z:(rH h H).get? b=none:=PySem.W.hideAll_none (trk h H) hm
  simp_all
noncomputable def DQ(g h:Heap)(L:Addr):List (Addr×Obj):=(Ψ h.objs.size).filterMap λa=>if a=L\/(g.get? a).isSome=true then none else (h.get? a).map λo=>(a,o)
noncomputable def aB(g h:Heap)(L d:Addr):List (Addr×Obj):=(DQ g h L).filter λp=>decide (p.1≠d)
end L2
namespace L2
open PyProof.Rows
structure Mod(K:ε)(mg:Str->Option Value)(base:Heap):Prop where
 kin:K.In base
 glob:base.Ns mainGlobals mg
 blt:∃mb,base.Ns builtinsNs mb/\∀x:Str,x ≠ "__name__" -> mb x=bootBuiltins x
 nolimit:base.NoLimit
structure Cx where
 prog:Program
 w:World
 K:ε
 mg:Str->Option Value
 base:Heap
 A:Around
 N:List Str
 s₀:Shared
 H₀:Hp
 env:Env
 outer:List Env
 stack:List Env
 ex:List Addr
 fn:Str->Bool
 calm:Bool
 pn:List (Addr×Obj)
 xe:Value->Shared->Prop
noncomputable def frs(l:List Env):List Addr:=l.filterMap (·.frame)
abbrev Cx.fs(X:Cx):List Addr:=frs X.outer
def Vis(sc:Scope)(x:Str):Prop:=sc.names.lookup x=some .local\/sc.names.lookup x=some .cell\/sc.names.lookup x=some .free
def Loc(sc:Scope)(x:Str):Prop:=sc.names.lookup x=some .local\/sc.names.lookup x=some .cell
def Look(env:Env)(h:Heap)(m:Str->Option Value)(x:Str)(u:Value):Prop :=
 (env.kindOf x=some .local/\m x=some u)\/((env.kindOf x=some .cell\/env.kindOf x=some .free)/\∃c,env.cells.lookup x=some c/\h.IsCell c (some u))
structure Cx.Ok(X:Cx):Prop where
 mod:Mod X.K X.mg X.base
 kind:X.env.scope.kind=.function
 glob:X.env.globals=mainGlobals
 blt:X.env.builtins=builtinsNs
 above:X.s₀.heap.objs.size<=X.env.locals
 inj:∀x y c,X.env.cells.lookup x=some c->X.env.cells.lookup y=some c->x=y
 has:∀x,(X.env.kindOf x=some .cell\/X.env.kindOf x=some .free)->∃c,X.env.cells.lookup x=some c
 cab:∀x c,X.fn x=true->X.env.cells.lookup x=some c->X.s₀.heap.objs.size<=c
 hd:X.calm=true->X.A.handled=none
 frames:X.A.frames=some X.stack
 stk:X.stack=X.outer\/(X.stack=X.env::X.outer/\X.env.frame=some X.env.locals)
 exf:∀b∈X.ex,b≠X.env.locals/\∀x c,X.env.cells.lookup x=some c->c≠b
 bs:∀b o,X.base.get? b=some o->X.s₀.heap.get? b=some o/\X.H₀ b=none
 bsz:X.base.objs.size<=X.s₀.heap.objs.size
 noex:∀b o,X.base.get? b=some o->b∉X.ex
 exfs:∀b∈X.ex,b∉X.fs
 funs:X.s₀.heap.FunFrames X.base X.outer
 frf:∀b∈X.fs,X.H₀ b=none
structure Inv(X:Cx)(pins:List (Addr×Obj))(σ:List (Option V))(H:Hp)(s:Shared):Prop where
 ok:X.Ok
 os:s.os=X.s₀.os
 bare:AllBare s.gens
 base:Un X.fs X.ex X.H₀ H X.s₀.heap s.heap
 loc:∃m,s.heap.Ns X.env.locals m/\∀(i:Nat) (x:Str) (v:V),X.N[i]?=some x->σ[i]?=some (some v)->Vis X.env.scope x->∃u,bm v u/\Look X.env s.heap m x u
 cell:∀x c,X.env.cells.lookup x=some c->∃v,s.heap.IsCell c v
 free:H X.env.locals=none
 freeC:∀x c,X.env.cells.lookup x=some c->H c=none
 pin:∀p∈X.pn++pins,s.heap.get? p.1=some p.2/\H p.1=none/\p.1≠X.env.locals/\p.1∉X.fs/\∀v,p.2.data≠.cell v
 hok:HOk X.prog X.w H s.heap
 len:σ.length=X.N.length
section
variable{X:Cx}{pins:List (Addr×Obj)}{σ:List (Option V)}{H H':Hp}{s:Shared}{h':Heap}
theorem Cx.Ok.nofr(ok:X.Ok){b:Addr}{o:Obj}(e:X.base.get? b=some o):b∉X.fs:=λhb=>by
 have:=(ok.funs.mem hb).1
 simp_all
theorem Inv.bs(I:`DX):∀b o,X.base.get? b=some o->s.heap.get? b=some o/\H b=none:=λb o e =>
 ⟨I.base.keep b o (I.ok.bs b o e).1 (I.ok.bs b o e).2 (I.ok.nofr e) (I.ok.noex b o e),I.base.free b o (I.ok.bs b o e).1 (I.ok.bs b o e).2 (I.ok.noex b o e)⟩
theorem Inv.bk(I:`DX):∀b o,X.base.get? b=some o->s.heap.get? b=some o:=λb o e=>(I.bs b o e).1
theorem Inv.mod(I:`DX):Mod X.K X.mg X.base:=I.ok.mod
theorem Inv.kIn(I:`DX):X.K.In s.heap:=I.ok.mod.kin.keeps I.bk
theorem Inv.lt(I:`DX):X.env.locals<s.heap.objs.size:=let ⟨_,hn,_⟩:=I.loc;hn.lt
theorem Inv.sz(I:`DX):X.s₀.heap.objs.size<=s.heap.objs.size:=X8 I.ok.above (X5 I.lt)
theorem Inv.nofs(I:`DX)(h:s.heap.objs.size<=a):a∉X.fs:=λhb=>by
 obtain⟨_,o,ho,_⟩:=I.ok.funs.mem hb
 exact absurd (Ω (Heap.lt_size ho) (X8 I.sz h)) (V9 _)
theorem Inv.cne(I:`DX):∀x c,X.env.cells.lookup x=some c->c≠X.env.locals:=λx c e z=>by
 obtain⟨v,o,ho,hd⟩:=I.cell x c e
 obtain⟨m,⟨o',es,ep,ho',hd',_⟩,_⟩:=I.loc
 simp_all
theorem Inv.funs(I:`DX):s.heap.FunFrames X.base X.outer:=by
 have all:∀(l:List Env),(∀b∈frs l,b∈X.fs)->X.s₀.heap.FunFrames X.base l->s.heap.FunFrames X.base l:=by
  intro l
  induction l with
  | nil=>intro _ _;trivial
  | cons env r ih =>
   intro hs hl
   obtain⟨hk,⟨L,o,hf,hn,ho,hd⟩,hr⟩:=hl
   have hL:= hs L (by unfold frs;simp_all)
   obtain⟨sl,e⟩:=I.base.slot L o ho (I.ok.frf L hL) hL λz=>I.ok.exfs L z hL
   exact⟨hk,⟨L,_,hf,hn,e,hd⟩,ih (λb hb=>hs b (by unfold frs;rw[List.filterMap_cons,hf];exact θ _ hb)) hr⟩
 exact all X.outer (λ_ hb=>hb) I.ok.funs
theorem Inv.stack(I:`DX):s.heap.FunFrames X.base X.stack:=by
 rcases I.ok.stk with e | ⟨e,hf⟩
 ·rw[e];exact I.funs
 ·rw[e]
  obtain⟨m,hn,_⟩:=I.loc
  refine .cons (by rw[I.ok.kind];decide) hf hn ?_ I.funs
  exact Heap.get?_none_of_le (X8 I.ok.bsz I.ok.above)
theorem Inv.stkSub(I:`DX):∀b∈frs X.stack,b∈X.env.locals::X.fs:=λb hb=>by
 rcases I.ok.stk with e | ⟨e,hf⟩
 ·simp_all
 ·rw[e] at hb
  unfold frs at hb
  rw[List.filterMap_cons,hf] at hb
  exact hb
theorem Inv.stkFree(I:`DX):∀b∈frs X.stack,H b=none:=λb hb=>by
 rcases ψ.mp (I.stkSub b hb) with e | hb
 ·rw[e];exact I.free
 ·obtain⟨_,o,ho,_⟩:=I.ok.funs.mem hb
  exact I.base.free b o ho (I.ok.frf b hb) λz=>I.ok.exfs b z hb
theorem Inv.step{g':Array GenState}{t':Nat}{d':Drawn}{ch:List Addr}(I:`DX)
  (hch:∀b∈ch,(b∈X.ex\/X.s₀.heap.objs.size<=b)/\b≠X.env.locals/\(∀x c,X.env.cells.lookup x=some c->c≠b)/\∀p∈X.pn++pins,p.1≠b)
  (keep:∀b o,b≠X.env.locals->b∉X.fs->b∉ch->s.heap.get? b=some o->H b=none->h'.get? b=some o)
  (slot:∀b o,b≠X.env.locals->b∈X.fs->b∉ch->s.heap.get? b=some o->H b=none->∃sl,h'.get? b=some { o with slots:=sl }) (free:∀b o,b∉ch->s.heap.get? b=some o->H b=none->H' b=none)
  (there:∀b o,b∉ch->s.heap.get? b=some o->∃o',h'.get? b=some o')
  (tups:∀b xs,H b=some (.tup xs)->H' b=some (.tup xs)) (frzs:∀b o u,H b=some (.frz o u)->H' b=some (.frz o u)) (tbls:∀b ps,H b=some (.tbl ps)->∃more,H' b=some (.tbl (ps++more)))
  (ns:∀m,s.heap.Ns X.env.locals m->h'.Ns X.env.locals m) (hok:HOk X.prog X.w H' h') (hg:AllBare g') :
  Inv X pins σ H' { s with heap:=h',gens:=g',drawn:=d',toks:=t' }:=by
 have neL:∀b o,X.s₀.heap.get? b=some o->b≠X.env.locals:=λb o e=>Z4 (Ω (Heap.lt_size e) I.ok.above)
 have neC:∀b o,X.s₀.heap.get? b=some o->b∉X.ex->b∉ch:=λb o e hx hb=>by
  rcases (hch b hb).1 with z | z
  ·simp_all
  ·exact absurd (Ω (Heap.lt_size e) z) (V9 _)
 have cellK:∀x c,X.env.cells.lookup x=some c->∀v,s.heap.IsCell c v->h'.IsCell c v:=λx c e v ⟨o,ho,hd⟩=>by
  have nch:c∉ch:=λz=>(hch c z).2.2.1 x c e rfl
  by_cases hc:c∈X.fs
  ·obtain⟨sl,q⟩:=slot c o (I.cne x c e) hc nch ho (I.freeC x c e)
   exact⟨_,q,hd⟩
  ·exact⟨o,keep c o (I.cne x c e) hc nch ho (I.freeC x c e),hd⟩
 refine⟨I.ok,I.os,hg,⟨λb o e n hb hx=>?_,λb o e n hb hx=>?_,λb o e n hx=>?_,λb o e hx=>?_,λb xs e=>tups b xs (I.base.tups b xs e),λb o xs e=>frzs b o xs (I.base.frzs b o xs e),λb ps e=>?_⟩,?_,λx c e=>?_,?_,λx c e=>?_,λp hp=>?_,hok,I.len⟩
 ·exact keep b o (neL b o e) hb (neC b o e hx) (I.base.keep b o e n hb hx) (I.base.free b o e n hx)
 ·obtain⟨sl,e1⟩:=I.base.slot b o e n hb hx
  obtain⟨sl',e2⟩:=slot b _ (neL b o e) hb (neC b o e hx) e1 (I.base.free b o e n hx)
  simp_all
 ·obtain⟨o',e1⟩:=I.base.there b o e hx
  exact free b o' (neC b o e hx) e1 (I.base.free b o e n hx)
 ·obtain⟨o',e1⟩:=I.base.there b o e hx
  simp_all
 ·obtain⟨m1,e1⟩:=I.base.tbls b ps e
  grind
 ·obtain⟨m,hn,hl⟩:=I.loc
  refine⟨m,ns m hn,λi x v e1 e2 e3=>?_⟩
  obtain⟨u,r,l⟩:=hl i x v e1 e2 e3
  refine⟨u,r,?_⟩
  rcases l with l | ⟨k,c,e,z⟩
  ·exact .inl l
  ·exact .inr ⟨k,c,e,cellK x c e _ z⟩
 ·obtain⟨v,z⟩:=I.cell x c e
  grind
 ·obtain⟨m,⟨o,_,_,ho,_⟩,_⟩:=I.loc
  exact free _ o (λz=>(hch _ z).2.1 rfl) ho I.free
 ·obtain⟨v,o,ho,hd⟩:=I.cell x c e
  exact free c o (λz=>(hch c z).2.2.1 x c e rfl) ho (I.freeC x c e)
 ·obtain⟨e,n,ne,nf,d⟩:=I.pin p hp
  grind
theorem Inv.un{t':Nat}(I:`DX)(u:Un X.fs [] H H' s.heap h')(hok:HOk X.prog X.w H' h'):Inv X pins σ H' { s with heap:=h',toks:=t' }:=by
 obtain⟨m,⟨o,es,ep,ho,r⟩,_⟩:=id I.loc
 obtain⟨sl,hL⟩:=u.any ho I.free (by simp)
 exact I.step (g':=s.gens) (d':=s.drawn) (ch:=[]) (λ_ z=>nomatch z) (λb o _ hb _ e n=>u.keep b o e n hb (by simp)) (λb o _ hb _ e n=>u.slot b o e n hb (by simp)) (λb o _ e n=>u.free b o e n (by simp)) (λb o _ e=>u.there b o e (by simp)) u.tups u.frzs u.tbls (λm' hm=>by
  obtain⟨o',es',ep',ho',r'⟩:=hm
  rw[ho] at ho';cases ho'
  exact⟨_,es',ep',hL,r'⟩) hok I.bare
theorem Inv.call{g':Array GenState}{t':Nat}{d':Drawn}{ch:List Addr}(I:`DX)(u:Un (frs X.stack) ch H H' s.heap h')(hok:HOk X.prog X.w H' h')(hg:AllBare g')
  (hch:∀b∈ch,(b∈X.ex\/X.s₀.heap.objs.size<=b)/\b≠X.env.locals/\(∀x c,X.env.cells.lookup x=some c->c≠b)/\∀p∈X.pn++pins,p.1≠b) :
  Inv X pins σ H' { s with heap:=h',gens:=g',drawn:=d',toks:=t' }:=by
 obtain⟨m,⟨o,es,ep,ho,r⟩,_⟩:=id I.loc
 obtain⟨sl,hL⟩:=u.any ho I.free λz=>(hch _ z).2.1 rfl
 exact I.step (ch:=ch) hch (λb o hL hb hc e n=>u.keep b o e n (λz=>(ψ.mp (I.stkSub b z)).elim hL hb) hc) (λb o _ _ hc e n=>u.any e n hc) (λb o hc e n=>u.free b o e n hc) (λb o hc e=>u.there b o e hc) u.tups u.frzs u.tbls (λm' hm=>by
  obtain⟨o',es',ep',ho',r'⟩:=hm
  rw[ho] at ho';cases ho'
  exact⟨_,es',ep',hL,r'⟩) hok hg
theorem Inv.turned{t':Nat}{it:Addr}(I:`DX)(k:∀b o,b≠it->s.heap.get? b=some o->h'.get? b=some o)(hn:H it=none)(hL:it≠X.env.locals)
  (h1:it∈X.ex\/X.s₀.heap.objs.size<=it) (h2:∀x c,X.env.cells.lookup x=some c->c≠it) (h3:∀p∈X.pn++pins,p.1≠it):Inv X pins σ H { s with heap:=h',toks:=t' }:=by
 have nit:∀b u,H b=some u->b≠it:=λb u e z=>by rw[z,hn] at e;cases e
 refine I.step (g':=s.gens) (d':=s.drawn) (ch:=[it]) (λb hb=>?_) (λb o _ _ hc e _=>k b o (λz=>hc (by simp [z])) e) (λb o _ _ hc e _=>⟨o.slots,k b o (λz=>hc (by simp [z])) e⟩) (λ_ _ _ _ n=>n)
  (λb o hc e=>⟨o,k b o (λz=>hc (by simp [z])) e⟩) (λ_ _ e=>e) (λ_ _ _ e=>e) (λb ps e=>⟨#[],by rw[e];simp⟩) (λm hm=>?_) (λb u e=>?_) I.bare
 ·have e:b=it:=by simpa using hb
  subst e
  exact⟨h1,hL,h2,h3⟩
 ·obtain⟨o,es,ep,ho,r⟩:=hm
  exact⟨o,es,ep,k _ o (Ne.symm hL) ho,r⟩
 ·refine(I.hok b u e).stay (λc v hc q=>k c v ?_ q) (λ_ q=>q) λ_ _ q=>q
  rcases hc with z | z
  ·rw[z];exact nit b u e
  ·exact nit c _ z
theorem Inv.tok(I:`DX)(t:Nat):Inv X pins σ H { s with toks:=t }:=I.un (h':=s.heap) (t':=t) Un.refl I.hok
theorem Inv.kept(I:`DX)(k:∀b u,s.heap.get? b=some u->h'.get? b=some u):Inv X pins σ H { s with heap:=h',toks:=t' }:=I.un (Un.kept k) (I.hok.kept k)
theorem Inv.laid(I:`DX)(k:∀b u,s.heap.get? b=some u->h'.get? b=some u)(hp:s.heap.objs.size<=a)(new:cK X.prog X.w (upd H a o) h' a o) :
  Inv X pins σ (upd H a o) { s with heap:=h',toks:=t' }:=I.un (Un.laid k hp (I.hok.fresh hp)) (I.hok.laid k hp new)
theorem Inv.write(I:`DX)(mu:Mut (H x))(he:e=x\/H e=some (.own x))(k:∀b u,b≠e->s.heap.get? b=some u->h'.get? b=some u)(heo:∃u,h'.get? e=some u)
  (new:cK X.prog X.w (upd H x o) h' x o):Inv X pins σ (upd H x o) { s with heap:=h',toks:=t' }:=I.un (Un.write mu he k heo) (I.hok.write mu he k heo new)
theorem Inv.pins_of(I:`DX)(h:∀p∈pins',s.heap.get? p.1=some p.2/\H p.1=none/\p.1≠X.env.locals/\p.1∉X.fs/\∀v,p.2.data≠.cell v):Inv X pins' σ H s :=
 ⟨I.ok,I.os,I.bare,I.base,I.loc,I.cell,I.free,I.freeC,λp hp=>(Z7.mp hp).elim (λz=>I.pin p (List.mem_append_left _ z)) (h p),I.hok,I.len⟩
theorem tq{N:List Str}(hN:N.Nodup){i j:Nat}{x:Str}(a:N[i]?=some x)(b:N[j]?=some x):i=j:=by
 obtain⟨h1,e1⟩:=ρ.mp a
 obtain⟨h2,e2⟩:=ρ.mp b
 exact(List.getElem_inj hN).mp (e1.trans e2.symm)
theorem pP{M:Model}{A:Around}{E:Value->Shared->Prop}{i:Nat}{x:Str}{v:V}{u:Value}{Q:Unit->Shared->Prop}(I:`DX)(hN:X.N.Nodup)(hi:X.N[i]?=some x)(hx:Loc X.env.scope x)(r:bm v u)
  (h:∀s',Inv X pins (σ.set i (some v)) H s'->(∃a,Heap.SameBut a s.heap s'.heap/\(a=X.env.locals\/X.env.cells.lookup x=some a))->Q () s') (hf:X.fn x=true\/X.env.scope.names.lookup x=some .local:=by first | exact .inl rfl | exact .inr rfl | assumption):wpAny M A (storeName X.env x u) Q E s:=by
 obtain⟨m,hn,hl⟩:=id I.loc
 have hcls:(X.env.scope.kind==.class||(X.env.scope.kind==.module&&X.env.locals != X.env.globals))=false:=by rw[I.ok.kind];rfl
 have hiσ:i<σ.length:=by rw[I.len];grind
 have cne:=I.cne
 have tracked:∀{a:Addr} {h':Heap},(∃o,s.heap.get? a=some o/\H a=none)->Heap.SameBut a s.heap h'->HOk X.prog X.w H h':=λ{a h'} ha hs b ob e=>by
  obtain⟨_,_,hfree⟩:=ha
  refine(I.hok b ob e).stay (λc w' hc q=>(hs.2 c ?_).trans q) (λ_ q=>q) λ_ _ q=>q
  grind
 rcases hx with hk | hk
 ·refine wpAny_storeName_local hk hn (λh' hn' hs=>?_) hcls
  obtain⟨oL,_,_,hoL,_⟩:=id hn
  refine h _ ⟨I.ok,I.os,I.bare,⟨λb o e n hb hx=>?_,λb o e n hb hx=>?_,I.base.free,λb o e hx=>?_,I.base.tups,I.base.frzs,I.base.tbls⟩,⟨_,hn',λj y v' e1 e2 e3=>?_⟩,λy c e=>?_,I.free,I.freeC,λp hp=>?_,tracked ⟨oL,hoL,I.free⟩ hs,by simpa using I.len⟩ ⟨_,hs,.inl rfl⟩
  ·exact(hs.2 b (Z4 (Ω (Heap.lt_size e) I.ok.above))).trans (I.base.keep b o e n hb hx)
  ·obtain⟨sl,e1⟩:=I.base.slot b o e n hb hx
   exact⟨sl,(hs.2 b (Z4 (Ω (Heap.lt_size e) I.ok.above))).trans e1⟩
  ·obtain⟨o',e1⟩:=I.base.there b o e hx
   exact⟨o',(hs.2 b (Z4 (Ω (Heap.lt_size e) I.ok.above))).trans e1⟩
  ·by_cases hj:j=i
   ·subst hj
    rw[hi] at e1;cases e1
    rw[List.getElem?_set_self hiσ] at e2
    cases e2
    exact⟨u,r,.inl ⟨hk,by simp⟩⟩
   ·rw[List.getElem?_set_ne (Ne.symm hj)] at e2
    obtain⟨u',r',q⟩:=hl j y v' e1 e2 e3
    refine⟨u',r',?_⟩
    rcases q with ⟨k,e⟩ | ⟨k,c,e,z⟩
    ·refine .inl ⟨k,?_⟩
     have:y≠x:=λe=>hj (tq hN e1 (e▸hi))
     simp_all
    ·exact .inr ⟨k,c,e,z.sameBut hs (cne y c e)⟩
  ·obtain⟨w',z⟩:=I.cell y c e
   exact⟨w',z.sameBut hs (cne y c e)⟩
  ·obtain⟨e,n,ne,nf,d⟩:=I.pin p hp
   exact⟨(hs.2 p.1 ne).trans e,n,ne,nf,d⟩
 ·have hfn:X.fn x=true:=by
   simp_all
  obtain⟨c,hc⟩:=I.ok.has x (.inl hk)
  obtain⟨w',z⟩:=I.cell x c hc
  refine wpAny_storeName_cell I.ok.kind hk hc z (λh' hc' hs=>?_)
  obtain⟨oc,hoc,hocd⟩:=id z
  refine h { s with heap:=h' } ⟨I.ok,I.os,I.bare,⟨λb o e n hb hx=>?_,λb o e n hb hx=>?_,I.base.free,λb o e hx=>?_,I.base.tups,I.base.frzs,I.base.tbls⟩,⟨m,hn.sameBut hs (Ne.symm (cne x c hc)),λj y v' e1 e2 e3=>?_⟩,λy c' e=>?_,I.free,I.freeC,λp hp=>?_,tracked ⟨oc,hoc,I.freeC x c hc⟩ hs,by simpa using I.len⟩ ⟨c,hs,.inr hc⟩
  ·exact(hs.2 b (Z4 (Ω (Heap.lt_size e) (I.ok.cab x c hfn hc)))).trans (I.base.keep b o e n hb hx)
  ·obtain⟨sl,e1⟩:=I.base.slot b o e n hb hx
   exact⟨sl,(hs.2 b (Z4 (Ω (Heap.lt_size e) (I.ok.cab x c hfn hc)))).trans e1⟩
  ·obtain⟨o',e1⟩:=I.base.there b o e hx
   exact⟨o',(hs.2 b (Z4 (Ω (Heap.lt_size e) (I.ok.cab x c hfn hc)))).trans e1⟩
  ·by_cases hj:j=i
   ·subst hj
    rw[hi] at e1;cases e1
    rw[List.getElem?_set_self hiσ] at e2
    cases e2
    exact⟨u,r,.inr ⟨.inl hk,c,hc,hc'⟩⟩
   ·rw[List.getElem?_set_ne (Ne.symm hj)] at e2
    obtain⟨u',r',q⟩:=hl j y v' e1 e2 e3
    refine⟨u',r',?_⟩
    rcases q with q | ⟨k,c',e,z'⟩
    ·exact .inl q
    ·refine .inr ⟨k,c',e,z'.sameBut hs ?_⟩
     rintro rfl
     exact hj (tq hN e1 (I.ok.inj _ _ _ e hc▸hi))
  ·by_cases hcc:c'=c
   ·grind
   ·obtain⟨w2,z2⟩:=I.cell y c' e
    exact⟨w2,z2.sameBut hs hcc⟩
  ·obtain⟨e,n,ne,nf,d⟩:=I.pin p hp
   refine⟨(hs.2 p.1 ?_).trans e,n,ne,nf,d⟩
   grind
theorem sw(I:`DX)(hN:X.N.Nodup)(hi:X.N[i]?=some x)(hx:Loc X.env.scope x)(r:bm v u)
  (h:∀s',Inv X pins (σ.set i (some v)) H s'->Q () s') (hf:X.fn x=true\/X.env.scope.names.lookup x=some .local:=by first | exact .inl rfl | exact .inr rfl | assumption):wpAny M A (storeName X.env x u) Q E s :=
 pP I hN hi hx r (λs' I' _=>h s' I') hf
theorem Inv.call'(I:`DX)(ho:s'.os=s.os)(u:Un (frs X.stack) ch H H' s.heap s'.heap)(hok:HOk X.prog X.w H' s'.heap)(hg:AllBare s'.gens)
  (hch:∀b∈ch,(b∈X.ex\/X.s₀.heap.objs.size<=b)/\b≠X.env.locals/\(∀x c,X.env.cells.lookup x=some c->c≠b)/\∀p∈X.pn++pins,p.1≠b):Inv X pins σ H' s':=by
 obtain⟨h',g',d',t',o'⟩:=s'
 have e:= ho
 subst e
 exact I.call u hok hg hch
end
abbrev XK:=Value->Option Addr->Hp->Prop
abbrev St:=List (Option V)
abbrev VK:=V->Hp->Prop
abbrev TE:=St->Hp->VK->Prop
abbrev TT:=St->Hp->(Bool->Hp->Prop)->Prop
abbrev TA:=St->Hp->(List V->Hp->Prop)->Prop
structure Ends where
 nx:St->Hp->Prop
 rt:VK
 bk:St->Hp->Prop:=λ_ _=>False
 ct:St->Hp->Prop:=λ_ _=>False
abbrev TS:=Ends->St->Hp->Prop
def EP(X:Cx)(pins:List (Addr×Obj))(σ:St)(Q:VK)(u:Value)(s':Shared):Prop:=∃v H',Inv X pins σ H' s'/\bm v u/\Q v H'
def TP(X:Cx)(pins:List (Addr×Obj))(σ:St)(Q:Bool->Hp->Prop)(b:Bool)(s':Shared):Prop:=∃H',Inv X pins σ H' s'/\Q b H'
def AP(X:Cx)(pins:List (Addr×Obj))(σ:St)(Q:List V->Hp->Prop)(us:List Value)(s':Shared):Prop:=∃vs H',Inv X pins σ H' s'/\aM vs us/\Q vs H'
def SP(X:Cx)(pins:List (Addr×Obj))(D:Ends)(f:Flow)(s':Shared):Prop :=
 match f with
 | .next=>∃σ' H',Inv X pins σ' H' s'/\D.nx σ' H'
 | .brk=>∃σ' H',Inv X pins σ' H' s'/\D.bk σ' H'
 | .cont=>∃σ' H',Inv X pins σ' H' s'/\D.ct σ' H'
 | .ret u=>∃v σ' H',Inv X pins σ' H' s'/\bm v u/\D.rt v H'
def PE(X:Cx)(e:Expr)(t:TE):Prop :=
 ∀(pins:List (Addr×Obj)) (s:Shared) (σ:St) (H:Hp) (Q:VK),Inv X pins σ H s->t σ H Q->wpAny `DW X.A (eval e X.env) (EP X pins σ Q) X.xe s
def PT(X:Cx)(e:Expr)(t:TT):Prop :=
 ∀(pins:List (Addr×Obj)) (s:Shared) (σ:St) (H:Hp) (Q:Bool->Hp->Prop),Inv X pins σ H s->t σ H Q->wpAny `DW X.A (isTrue e X.env (eval e X.env)) (TP X pins σ Q) X.xe s
def PW(X:Cx)(e:Expr)(t:TT):Prop :=
 ∀(whole:Sem Value) (pins:List (Addr×Obj)) (s:Shared) (σ:St) (H:Hp) (Q:Bool->Hp->Prop),Inv X pins σ H s->t σ H Q->wpAny `DW X.A (isTrue e X.env whole) (TP X pins σ Q) X.xe s
theorem PW.pt(h:PW X e t):PT X e t:=h _
def PA(X:Cx)(es:List Expr)(t:TA):Prop :=
 ∀(pos:Pos) (pins:List (Addr×Obj)) (s:Shared) (σ:St) (H:Hp) (Q:List V->Hp->Prop),Inv X pins σ H s->t σ H Q->wpAny `DW X.A (spliced (backTo pos (starEach es X.env))) (AP X pins σ Q) X.xe s
def PS(X:Cx)(st:Stmt)(t:TS):Prop :=
 ∀(pins:List (Addr×Obj)) (s:Shared) (σ:St) (H:Hp) (D:Ends),Inv X pins σ H s->t D σ H->wpAny `DW X.A (exec st X.env) (SP X pins D) X.xe s
def PSs(X:Cx)(st:List Stmt)(t:TS):Prop :=
 ∀(pins:List (Addr×Obj)) (s:Shared) (σ:St) (H:Hp) (D:Ends),Inv X pins σ H s->t D σ H->wpAny `DW X.A (execs st X.env) (SP X pins D) X.xe s
theorem thn(h:wpAny M A t Q E s)(hQ:∀a s,Q a s->Q' a s):wpAny M A t Q' E s:=wpAny_mono h hQ λ_ _ x=>x
end L2
namespace L2
open PyProof.Rows
section
variable{X:Cx}
noncomputable def ld(i:Nat):TE:=λσ H Q=>∃v,σ[i]?=some (some v)/\Q v H
noncomputable def tC(v:V):TE:=λ_ H Q=>Q v H
theorem pe_var(hN:X.N[i]?=some x)(hv:Vis X.env.scope x)(hd:(x==("__debug__" : Str))=false:=by decide)(hcd:(x==("__classdict__" : Str))=false:=by decide):PE X (.Name x pos) (ld i):=by
 intro pins s σ H Q I h
 obtain⟨v,e,h⟩:=h
 obtain⟨m,hn,hl⟩:=I.loc
 obtain⟨u,r,l⟩:=hl i x v hN e hv
 have fin:EP X pins σ Q u s:=⟨v,H,I,r,h⟩
 rcases l with ⟨hk,hm⟩ | ⟨hk,c,hc,hcell⟩
 ·exact wpAny_Name (wpAny_loadName_local I.ok.kind hk hn hm fin) hd
 ·rcases hk with hk | hk
  ·exact wpAny_Name (wpAny_loadName_cell I.ok.kind hk hc hcell fin) hd
  ·exact wpAny_Name (wpAny_loadName_free I.ok.kind hk hc hcell fin hcd) hd
theorem pe_int{i j pos}:PE X (.Constant (.int i) j pos) (tC (.int i)):=λ_ _ _ H _ I h=>wpAny_Constant_int ⟨.int i,H,I.tok _,⟨_,rfl⟩,h⟩
theorem pe_bl{b j pos}:PE X (.Constant (.bool b) j pos) (tC (.bl b)):=λ_ _ _ H _ I h=>Constant_bool ⟨.bl b,H,I,rfl,h⟩
theorem pe_non{j pos}:PE X (.Constant .none j pos) (tC .non):=λ_ _ _ H _ I h=>Constant_none ⟨.non,H,I,rfl,h⟩
theorem pe_str{x j pos}:PE X (.Constant (.str x) j pos) (tC (.str x)):=λ_ _ _ H _ I h=>Calls.Constant_str ⟨.str x,H,I.tok _,⟨_,rfl⟩,h⟩
def Gl(X:Cx)(x:Str):Prop:=X.env.kindOf x=some .globalImplicit
theorem rA(I:`DX)(hg:Gl X x)(hm:X.mg x=some u)(h:Q u s)
  (hd:(x==("__debug__" : Str))=false:=by decide):wpAny `DW X.A (eval (.Name x pos) X.env) Q E s :=
 Calls.Name_function_global I.ok.kind hg (Calls.loadGlobal_global (by rw[I.ok.glob];exact I.mod.glob.keeps I.bk) hm h) hd
theorem iW(I:`DX)(hg:Gl X x)(hm:X.mg x=none)(hv:bootBuiltins x=some u)(h:Q u s)
  (hn:x ≠ "__name__" := by decide) (hd:(x==("__debug__" : Str))=false:=by decide):wpAny `DW X.A (eval (.Name x pos) X.env) Q E s:=by
 obtain⟨mb,h1,h2⟩:=I.mod.blt
 exact Calls.Name_function_global I.ok.kind hg (Calls.loadGlobal_builtin (by rw[I.ok.glob];exact I.mod.glob.keeps I.bk) hm (by rw[I.ok.blt];exact h1.keeps I.bk) ((h2 x hn).trans hv) h) hd
theorem Cb(hg:Gl X x)(hm:X.mg x=some u)(r:bm v u)(hd:(x==("__debug__" : Str))=false:=by decide):PE X (.Name x pos) (tC v) :=
 λ_ _ _ H _ I h=>rA I hg hm ⟨v,H,I,r,h⟩ hd
theorem Ce(hg:Gl X x)(hm:X.mg x=none)(hv:bootBuiltins x=some u)(r:bm v u)(hn:x ≠ "__name__" := by decide)(hd:(x==("__debug__" : Str))=false:=by decide):PE X (.Name x pos) (tC v) :=
 λ_ _ _ H _ I h=>iW I hg hm hv ⟨v,H,I,r,h⟩ hn hd
variable{a b:Expr}{ta tb:TE}{pos:Pos}
def PC(X:Cx)(op:CmpOp)(a b:Expr)(t:TE):Prop :=
 ∀(pins:List (Addr×Obj)) (s:Shared) (σ:St) (H:Hp) (Q:VK),Inv X pins σ H s->t σ H Q ->
  wpAny `DW X.A (eval a X.env) (λv s₁=>wpAny `DW X.A (eval b X.env) (λu s₂=>wpAny `DW X.A (compareOp op v u) (EP X pins σ Q) X.xe s₂) X.xe s₁) X.xe s
theorem zN(b:Expr)(h:op≠.In)(h2:op≠.NotIn):behindInMarks op b=false:=by
 have e1:(op==CmpOp.In)=false:=by simp_all
 have e2:(op==CmpOp.NotIn)=false:=by simp_all
 cases b<;>simp [behindInMarks,e1,e2]
noncomputable def tB(t:TE):TT:=λσ H Q=>t σ H λx H1=>∃c,x=.bl c/\Q c H1
theorem pt_cmp(h:PC X op a b t)(h1:behindInMarks op b=false:=by first | exact zN _ (by decide) (by decide) | rfl):PT X (.Compare a [op] [b] pos) (tB t):=by
 intro pins s σ H Q I hw
 refine wpAny_isTrue_Compare1 (thn (h pins s σ H _ I hw) λv s1 h1=>thn h1 λu s2 h2=>thn h2 λc s3 z0=>?_) h1
 obtain⟨x,H1,I1,r1,q1⟩:=z0
 obtain⟨d,rfl,q⟩:=q1
 cases r1
 exact wpAny_truthy_bool ⟨H1,I1,q⟩
theorem pt_val(h:PE X e t)(he:∀whole,isTrue e X.env whole=(do let v <- whole;standAt e.pos;holding [v] (truthy v)):=by intro _;rfl):PT X e (tB t):=by
 intro pins s σ H Q I hw
 refine isTrue_plain (thn (h pins s σ H _ I hw) λv s1 z0=>?_) (he _)
 obtain⟨x,H1,I1,r1,q1⟩:=z0
 obtain⟨d,rfl,q⟩:=q1
 cases r1
 exact wpAny_truthy_bool ⟨H1,I1,q⟩
variable{tA tB':TT}{aB:List Expr}
noncomputable def tAnd(t u:TT):TT:=λσ H Q=>t σ H λc H1=>if c=true then u σ H1 Q else Q false H1
noncomputable def tOr(t u:TT):TT:=λσ H Q=>t σ H λc H1=>if c=true then Q true H1 else u σ H1 Q
noncomputable def tNot(t:TT):TT:=λσ H Q=>t σ H λc H1=>Q (!c) H1
theorem BW(ha:PT X a tA):PW X (.BoolOp .And [a] pos) tA:=by
 intro wh pins s σ H Q I h
 refine isTrue_and (thn (ha pins s σ H Q I h) λc s1 e=>?_)
 cases c with
 | true=>exact isTrue_and_nil e
 | false=>exact e
theorem pw_or1(ha:PT X a tA):PW X (.BoolOp .Or [a] pos) tA:=by
 intro wh pins s σ H Q I h
 refine isTrue_or (thn (ha pins s σ H Q I h) λc s1 e=>?_)
 cases c with
 | false=>exact isTrue_or_nil e
 | true=>exact e
theorem pw_and(ha:PT X a tA)(hb:PW X (.BoolOp .And (b::aB) pos) tB'):PW X (.BoolOp .And (a::b::aB) pos) (tAnd tA tB'):=by
 intro wh pins s σ H Q I h
 refine isTrue_and (thn (ha pins s σ H _ I h) λc s1 ⟨H1,I1,q1⟩=>?_)
 cases c with
 | true=>exact hb wh pins s1 σ H1 Q I1 q1
 | false=>assumption
theorem pw_or(ha:PT X a tA)(hb:PW X (.BoolOp .Or (b::aB) pos) tB'):PW X (.BoolOp .Or (a::b::aB) pos) (tOr tA tB'):=by
 intro wh pins s σ H Q I h
 refine isTrue_or (thn (ha pins s σ H _ I h) λc s1 ⟨H1,I1,q1⟩=>?_)
 cases c with
 | true=>assumption
 | false=>exact hb wh pins s1 σ H1 Q I1 q1
theorem pt_not(ha:PT X a tA):PT X (.UnaryOp .Not a pos) (tNot tA):=by
 intro pins s σ H Q I h
 exact isTrue_not (ha pins s σ H (λc H1=>Q (!c) H1) I h)
noncomputable def tAndV(ta tb:TE):TE:=λσ H Q=>ta σ H λx H1=>∃c,x=.bl c/\if c=true then tb σ H1 Q else Q (.bl false) H1
noncomputable def tNotV(ta:TE):TE:=λσ H Q=>ta σ H λx H1=>∃c,x=.bl c/\Q (.bl (!c)) H1
theorem pe_one{op}(h:PE X a t):PE X (.BoolOp op [a] pos) t:=λpins s σ H Q I hw=>BoolOp_one (h pins s σ H Q I hw)
theorem pe_and(ha:PE X a ta)(hb:PE X (.BoolOp .And (b::aB) pos) tb):PE X (.BoolOp .And (a::b::aB) pos) (tAndV ta tb):=by
 intro pins s σ H Q I h
 refine BoolOp_and (thn (ha pins s σ H _ I h) λv s1 z0=>?_)
 obtain⟨x,H1,I1,r1,q1⟩:=z0
 obtain⟨c,rfl,q1⟩:=q1
 cases r1
 refine wpAny_truthy_bool ?_
 cases c with
 | true=>exact hb pins s1 σ H1 Q I1 q1
 | false=>exact⟨.bl false,H1,I1,rfl,q1⟩
theorem pe_not(ha:PE X a ta):PE X (.UnaryOp .Not a pos) (tNotV ta):=by
 intro pins s σ H Q I h
 refine UnaryOp_ (thn (ha pins s σ H _ I h) λv s1 z0=>?_)
 obtain⟨x,H1,I1,r1,q1⟩:=z0
 obtain⟨c,rfl,q1⟩:=q1
 cases r1
 exact not_of (wpAny_truthy_bool ⟨.bl (!c),H1,I1,rfl,q1⟩)
noncomputable def tIf(t:TT)(ta tb:TE):TE:=λσ H Q=>t σ H λc H1=>if c=true then ta σ H1 Q else tb σ H1 Q
theorem za(hc:PT X c tA)(ha:PE X a ta)(hb:PE X b tb):PE X (.IfExp c a b pos) (tIf tA ta tb):=by
 intro pins s σ H Q I h
 refine wpAny_IfExp (thn (hc pins s σ H _ I h) λd s1 z0=>?_)
 obtain⟨H1,I1,q1⟩:=z0
 cases d with
 | true=>exact ha pins s1 σ H1 Q I1 q1
 | false=>exact hb pins s1 σ H1 Q I1 q1
end
end L2
namespace L2
open PyProof.Rows
def SqL(K:ε)(H:Hp)(a:Addr)(xs:List V):Prop :=
 Rd H a (.lst xs) \/
  ∃(o:Obj) (its:Array Value) (n:Nat),K.lookup a=some o/\o.cls=.type "list" /\ o.dict=none/\o.data=.seq its n/\its.size<=sizeLine/\aM xs its.toList
def SqT(K:ε)(H:Hp)(a:Addr)(xs:List V):Prop :=
 Rd H a (.tup xs) \/
  ∃(o:Obj) (its:Array Value) (n:Nat),K.lookup a=some o/\o.cls=.type "tuple" /\ o.data=.seq its n/\its.size<=sizeLine/\aM xs its.toList
noncomputable def absV:Value->Option V
 | .none=>some .non
 | .bool b=>some (.bl b)
 | .int i _=>some (.int i)
 | .str x _=>some (.str x)
 | .bytes b _=>some (.byt b)
 | .float b _=>some (.flt b)
 | .ref a=>some (.ref a)
 | .type n=>some (.ty n)
 | _=>none
theorem bm.abs(r:bm x u):absV u=some x:=by
 cases x with
 | non=>cases r;rfl
 | bl _=>cases r;rfl
 | int _=>obtain⟨t,rfl⟩:=r;rfl
 | str _=>obtain⟨t,rfl⟩:=r;rfl
 | byt _=>obtain⟨t,rfl⟩:=r;rfl
 | flt _=>obtain⟨t,rfl⟩:=r;rfl
 | ref _=>cases r;rfl
 | ty _=>cases r;rfl
theorem bm.inj(r:bm x u)(q:bm y u):x=y:=Option.some.inj (r.abs.symm.trans q.abs)
theorem aM.inj:∀{xs ys:List V} {us:List Value},aM xs us->aM ys us->xs=ys
 | _,_,_,.nil,.nil=>rfl
 | _,_,_,.cons r t,.cons r' t'=>by rw[r.inj r',aM.inj t t']
section
variable{X:Cx}{pins:List (Addr×Obj)}{σ:St}{H:Hp}{s:Shared}{a:Addr}{xs ys:List V}
theorem SqT.of{K:ε}(h:H a=some (.tup xs)):SqT K H a xs:=.inl (.inl h)
theorem Inv.list(I:`DX)(h:SqL X.K H a xs):∃its:List Value,aM xs its/\PlainL s.heap a its.toArray/\xs.length<=sizeLine:=by
 rcases h with h | ⟨o,its,n,hk,hc,hd,hs,hz,r⟩
 ·obtain⟨z,its,n,r,e⟩:=h.ok I.hok
  exact⟨its,r,⟨_,n,e,rfl,rfl,rfl⟩,z⟩
 ·refine⟨its.toList,r,⟨o,n,I.kIn a o hk,hc,hd,by assumption⟩,?_⟩
  have e:=r.length
  simp_all
theorem Inv.tuple(I:`DX)(h:SqT X.K H a xs):∃its:List Value,aM xs its/\IsTup s.heap a its.toArray/\xs.length<=sizeLine:=by
 rcases h with h | ⟨o,its,n,hk,hc,hs,hz,r⟩
 ·obtain⟨z,its,r,p⟩:=h.ok I.hok
  exact⟨its,r,p,z⟩
 ·refine⟨its.toList,r,⟨o,I.kIn a o hk,hc,n,by simpa using hs⟩,?_⟩
  have e:=r.length
  simp only[Array.length_toList] at e
  omega
theorem Inv.list_inj(I:`DX)(h:SqL X.K H a xs)(h':SqL X.K H a ys):xs=ys:=by
 obtain⟨its,r,⟨o,n,e,_,_,d⟩,_⟩:=I.list h
 obtain⟨its',r',⟨o',n',e',_,_,d'⟩,_⟩:=I.list h'
 rw[e] at e';cases e'
 rw[d] at d'
 injection d' with d1 _
 have:its=its':=by simp_all
 subst this
 exact r.inj r'
theorem Inv.tuple_inj(I:`DX)(h:SqT X.K H a xs)(h':SqT X.K H a ys):xs=ys:=by
 obtain⟨its,r,⟨o,e,_,n,d⟩,_⟩:=I.tuple h
 obtain⟨its',r',⟨o',e',_,n',d'⟩,_⟩:=I.tuple h'
 rw[e] at e';cases e'
 rw[d] at d'
 injection d' with d1 _
 have:its=its':=by simp_all
 subst this
 exact r.inj r'
end
abbrev Cx.wish(X:Cx)(E:Value->Shared->Prop):Cx:={ X with xe:=E }
abbrev Cx.nox(X:Cx):Cx:=X.wish λ_ _=>False
theorem Cx.Ok.wish{X:Cx}(ok:X.Ok)(E:Value->Shared->Prop):(X.wish E).Ok :=
 ⟨ok.mod,ok.kind,ok.glob,ok.blt,ok.above,ok.inj,ok.has,ok.cab,ok.hd,ok.frames,ok.stk,ok.exf,ok.bs,ok.bsz,ok.noex,ok.exfs,ok.funs,ok.frf⟩
theorem Cx.Ok.unwish{X:Cx}{E:Value->Shared->Prop}(ok:(X.wish E).Ok):X.Ok :=
 ⟨ok.mod,ok.kind,ok.glob,ok.blt,ok.above,ok.inj,ok.has,ok.cab,ok.hd,ok.frames,ok.stk,ok.exf,ok.bs,ok.bsz,ok.noex,ok.exfs,ok.funs,ok.frf⟩
section
variable{X:Cx}{pins:List (Addr×Obj)}{σ:St}{H:Hp}{s:Shared}{E:Value->Shared->Prop}
theorem Inv.wish(I:`DX)(E:Value->Shared->Prop):Inv (X.wish E) pins σ H s:=⟨I.ok.wish E,I.os,I.bare,I.base,I.loc,I.cell,I.free,I.freeC,I.pin,I.hok,I.len⟩
theorem Inv.unwish(I:Inv (X.wish E) pins σ H s):Inv X pins σ H s:=⟨I.ok.unwish,I.os,I.bare,I.base,I.loc,I.cell,I.free,I.freeC,I.pin,I.hok,I.len⟩
theorem SP.unwish(h:SP (X.wish E) pins D f s'):SP X pins D f s':=by
 cases f with
 | next=>obtain⟨σ',H',I,q⟩:=h;exact⟨σ',H',I.unwish,q⟩
 | brk=>obtain⟨σ',H',I,q⟩:=h;exact⟨σ',H',I.unwish,q⟩
 | cont=>obtain⟨σ',H',I,q⟩:=h;exact⟨σ',H',I.unwish,q⟩
 | ret u=>obtain⟨v,σ',H',I,r,q⟩:=h;exact⟨v,σ',H',I.unwish,r,q⟩
theorem PSs.nox{st:List Stmt}{t:TS}(h:PSs X.nox st t):PSs X st t:=λpins s σ H D I hw =>
 wpAny_mono (h pins s σ H D (I.wish _) hw) (λ_ _ q=>q.unwish) λ_ _ z=>False.elim z
end
section
variable{X:Cx}{st:Stmt}{aB:List Stmt}{t u:TS}{e:Expr}{te:TE}{pos:Pos}
noncomputable def tNext:TS:=λD σ H=>D.nx σ H
noncomputable def tSeq(t u:TS):TS:=λD σ H=>t { D with nx:=u D } σ H
theorem qS:PSs X [] tNext:=λ_ _ σ H _ I h=>wpAny_execs_nil ⟨σ,H,I,h⟩
theorem lj(h1:PS X st t)(h2:PSs X aB u):PSs X (st::aB) (tSeq t u):=by
 intro pins s σ H D I h
 refine wpAny_execs_cons (thn (h1 pins s σ H { D with nx:=u D } I h) λf s1 q=>?_)
 cases f with
 | next =>
  obtain⟨σ',H',I',q⟩:=q
  exact h2 pins s1 σ' H' D I' q
 | ret v=>exact q
 | brk=>exact q
 | cont=>exact q
theorem ny(h1:PS X st t):PSs X [st] t:=by
 intro pins s σ H D I h
 refine wpAny_execs_cons (thn (h1 pins s σ H D I h) λf s1 q=>?_)
 cases f with
 | next=>exact wpAny_execs_nil q
 | ret v=>exact q
 | brk=>exact q
 | cont=>exact q
noncomputable def tBreak:TS:=λD σ H=>D.bk σ H
theorem yT:PS X (.Break pos) tBreak:=λ_ _ σ H _ I h=>wpAny_Break ⟨σ,H,I,h⟩
theorem Inv.quiet(I:`DX):interactive X.env=false:=by simp [interactive,I.ok.kind]
noncomputable def tDrop(te:TE):TS:=λD σ H=>te σ H λ_ H1=>D.nx σ H1
theorem qT(he:PE X e te)(hs:swapsWith e none pos.line X.env=pure false:=by rfl):PS X (.Expr e pos) (tDrop te):=by
 intro pins s σ H D I h
 refine wpAny_Expr_any (thn (he pins s σ H _ I h) λv s1 z0=>?_) I.quiet hs
 obtain⟨x,H1,I1,r1,q1⟩:=z0
 exact⟨σ,H1,I1,q1⟩
noncomputable def tRet(te:TE):TS:=λD σ H=>te σ H D.rt
theorem jx(he:PE X e te):PS X (.Return (some e) pos) (tRet te):=by
 intro pins s σ H D I h
 refine wpAny_Return_some (thn (he pins s σ H _ I h) λv s1 z0=>?_)
 obtain⟨x,H1,I1,r1,q1⟩:=z0
 exact⟨x,σ,H1,I1,r1,q1⟩
noncomputable def tIfS(c:TT)(t u:TS):TS:=λD σ H=>c σ H λb H1=>if b=true then t D σ H1 else u D σ H1
theorem yR(hc:PT X c tc)(ha:PSs X a t)(hb:PSs X b u):PS X (.If c a b pos) (tIfS tc t u):=by
 intro pins s σ H D I h
 refine wpAny_If (thn (hc pins s σ H _ I h) λd s1 z0=>?_)
 obtain⟨H1,I1,q1⟩:=z0
 cases d with
 | true=>exact ha pins s1 σ H1 D I1 q1
 | false=>exact hb pins s1 σ H1 D I1 q1
noncomputable def tNever:TS:=λ_ _ _=>False
theorem yQ:PS X st tNever:=λ_ _ _ _ _ _ h=>h.elim
end
abbrev TG:=V->St->Hp->(St->Hp->Prop)->Prop
abbrev TGs:=List V->St->Hp->(St->Hp->Prop)->Prop
def PG(X:Cx)(target:Expr)(t:TG):Prop :=
 ∀(pins:List (Addr×Obj)) (s:Shared) (σ:St) (H:Hp) (v:V) (u:Value) (Q:St->Hp->Prop),Inv X pins σ H s->bm v u->t v σ H Q ->
  wpAny `DW X.A (assign target X.env u) (λ_ s'=>∃σ' H',Inv X pins σ' H' s'/\Q σ' H') X.xe s
def PGs(X:Cx)(ts:List Expr)(t:TGs):Prop :=
 ∀(pins:List (Addr×Obj)) (s:Shared) (σ:St) (H:Hp) (vs:List V) (us:List Value) (Q:St->Hp->Prop),Inv X pins σ H s->aM vs us->t vs σ H Q ->
  wpAny `DW X.A (assignInOrder ((assignEach ts X.env).map (·.2)) us) (λ_ s'=>∃σ' H',Inv X pins σ' H' s'/\Q σ' H') X.xe s
abbrev TSet:=V->V->V->Hp->(Hp->Prop)->Prop
def PSet(X:Cx)(t:TSet):Prop :=
 ∀(pins:List (Addr×Obj)) (s:Shared) (σ:St) (H:Hp) (o i v:V) (ov iv u:Value) (Q:Hp->Prop),Inv X pins σ H s->bm o ov->bm i iv->bm v u->t o i v H Q ->
  wpAny `DW X.A (setItem ov iv u) (λ_ s'=>∃H',Inv X pins σ H' s'/\Q H') X.xe s
abbrev TIp:=V->V->Hp->VK->Prop
def PIp(X:Cx)(op:Operator)(t:TIp):Prop :=
 ∀(pins:List (Addr×Obj)) (s:Shared) (σ:St) (H:Hp) (x y:V) (v u:Value) (Q:VK),Inv X pins σ H s->bm x v->bm y u->t x y H Q ->
  wpAny `DW X.A (inplaceOp op v u) (EP X pins σ Q) X.xe s
section
noncomputable def wa(i:Nat):TG:=λv σ H Q=>Q (σ.set i (some v)) H
theorem cb(hN:X.N.Nodup)(hi:X.N[i]?=some x)(hx:Loc X.env.scope x)(hf:X.fn x=true\/X.env.scope.names.lookup x=some .local:=by first | exact .inl rfl | exact .inr rfl | assumption):PG X (.Name x pos) (wa i):=by
 intro pins s σ H v u Q I r h
 exact wpAny_assign_Name (sw I hN hi hx r (λs' I'=>⟨_,H,I',h⟩) hf)
noncomputable def gNil:TGs:=λvs σ H Q=>vs=[]/\Q σ H
noncomputable def gCons(t:TG)(u:TGs):TGs:=λvs σ H Q=>∃v r,vs=v::r/\t v σ H λσ' H'=>u r σ' H' Q
theorem vL:PGs X [] gNil:=by
 intro pins s σ H vs us Q I r h
 obtain⟨e,h⟩:=h
 subst e
 exact assignInOrder_nil ⟨σ,H,I,h⟩
theorem sL(h1:PG X e t)(h2:PGs X es u)
  (hs:(assignEach (e::es) X.env).map (·.2)=assign e X.env::(assignEach es X.env).map (·.2):=by rfl):PGs X (e::es) (gCons t u):=by
 intro pins s σ H vs us Q I r h
 obtain⟨v,vr,e1,h⟩:=h
 subst e1
 cases r with
 | cons r rr =>
  rw[hs]
  refine assignInOrder_cons (thn (h1 pins s σ H _ _ _ I r h) λ_ s1 z0=>?_)
  obtain⟨σ1,H1,I1,q1⟩:=z0
  exact h2 pins s1 σ1 H1 _ _ Q I1 rr q1
noncomputable def gTup(K:ε)(n:Nat)(t:TGs):TG:=λv σ H Q=>∃a xs,v=.ref a/\SqT K H a xs/\xs.length=n/\t xs σ H Q
theorem yY(hc:X.calm=true)(h:PGs X es t)
  (hn:(assignEach es X.env).length=n:=by rfl) (hst:(assignEach es X.env).findIdx? (·.1)=none:=by rfl):PG X (.Tuple es k pos) (gTup X.K n t):=by
 intro pins s σ H v u Q I r hw
 obtain⟨a,xs,e1,hq,hl,hw⟩:=hw
 subst e1
 cases r
 obtain⟨its,rv,ht,hz⟩:=I.tuple hq
 refine assign_Tuple_tuple (I.ok.hd hc) ht (by simp [hn,<-hl,rv.length]) hst λh' hx=>?_
 have I1:Inv X pins σ H { s with heap:=h' }:=I.kept (t':=s.toks) λb o e=>hx b o (Z4 (Heap.lt_size e)) e
 exact h pins _ σ H xs _ Q I1 (by assumption) hw
noncomputable def gSub(to ti:TE)(t:TSet):TG:=λv σ H Q=>to σ H λo H1=>ti σ H1 λi H2=>t o i v H2 λH3=>Q σ H3
theorem yZ(ho:PE X o to)(hi:PE X i ti)(hs:PSet X t)
  (ha:∀v,assign (.Subscript o i pos) X.env v=(do
   let ov <- holding [v] (eval o X.env)
   let iv <- holding [v,ov] (eval i X.env)
   standAt pos
   holding [v,ov,iv] (setItem ov iv v)
   release [v,ov,iv] []):=by intro _;rfl):PG X (.Subscript o i pos) (gSub to ti t):=by
 intro pins s σ H v u Q I r h
 refine wpAny_bind (wpAny_holding (thn (ho pins s σ H _ I h) λov s1 z0=>?_))
 obtain⟨x,H1,I1,r1,q1⟩:=z0
 refine wpAny_bind (wpAny_holding (thn (hi pins s1 σ H1 _ I1 q1) λiv s2 z1=>?_))
 obtain⟨y,H2,I2,r2,q2⟩:=z1
 refine wpAny_bind (wpAny_standAt (wpAny_bind (wpAny_holding (thn (hs pins s2 σ H2 x y v ov iv u _ I2 r1 r2 r q2) λ_ s3 z2=>?_))))
 obtain⟨H3,I3,q3⟩:=z2
 exact wpAny_release ⟨σ,H3,I3,q3⟩
noncomputable def tAsg(te:TE)(g:TG):TS:=λD σ H=>te σ H λx H1=>g x σ H1 D.nx
theorem uw(he:PE X e te)(hg:PG X tg g)(hs:swapsWithSole [tg] e pos.line X.env=pure false:=by rfl)(hw:swappedStores [tg] e X.env=pure none:=by rfl)
  (h1:(assignEach [tg] X.env).map (·.2)=[assign tg X.env]:=by rfl):PS X (.Assign [tg] e pos) (tAsg te g):=by
 intro pins s σ H D I h
 refine wpAny_Assign_stores (thn (he pins s σ H _ I h) λv s1 z0=>?_) hs hw
 obtain⟨x,H1,I1,r1,q1⟩:=z0
 rw[h1]
 exact thn (hg pins s1 σ H1 x v _ I1 r1 q1) λ_ s2 q=>q
theorem mq(hN:X.N.Nodup)(hi:X.N[i]?=some x)(hx:Loc X.env.scope x)(he:PE X e te)(hs:swapsWith e (some (.Name x pos')) pos.line X.env=pure false:=by rfl)(hf:X.fn x=true\/X.env.scope.names.lookup x=some .local:=by first | exact .inl rfl | exact .inr rfl | assumption) :
  PS X (.Assign [.Name x pos'] e pos) (tAsg te (wa i)):=by
 intro pins s σ H D I h
 refine wpAny_Assign_Name (thn (he pins s σ H _ I h) λv s1 z0=>?_) hs
 obtain⟨y,H1,I1,r1,q1⟩:=z0
 exact sw I1 hN hi hx r1 (λs2 I2=>⟨_,H1,I2,q1⟩) hf
def tAugS(to ti te:TE)(tget:V->V->Hp->VK->Prop)(tip:TIp)(tset:TSet):TS:=λD σ H=>to σ H λo H1=>ti σ H1 λi H2=>tget o i H2 λx H3=>te σ H3 λy H4=>tip x y H4 λz H5=>tset o i z H5 λH6=>D.nx σ H6
def PGet(X:Cx)(t:V->V->Hp->VK->Prop):Prop :=
 ∀(pins:List (Addr×Obj)) (s:Shared) (σ:St) (H:Hp) (o i:V) (ov iv:Value) (Q:VK),Inv X pins σ H s->bm o ov->bm i iv->t o i H Q ->
  wpAny `DW X.A (getItem ov iv) (EP X pins σ Q) X.xe s
theorem B5(ho:PE X o to)(hi:PE X i ti)(hg:PGet X tget)(he:PE X e te)(hp:PIp X op tip)(hs:PSet X tset)
  (ha:∀ov iv new,augStore i ov iv new=(do holding [new,ov,iv] (setItem ov iv new);release [new,ov,iv] [];pure .next):=by intros;rfl):PS X (.AugAssign (.Subscript o i tpos) op e pos) (tAugS to ti te tget tip tset):=by
 intro pins s σ H D I h
 refine wpAny_AugAssign_SubscriptAny (thn (ho pins s σ H _ I h) λov s1 z0=>?_) ha
 obtain⟨x1,H1,I1,r1,q1⟩:=z0
 refine thn (hi pins s1 σ H1 _ I1 q1) λiv s2 z1=>?_
 obtain⟨x2,H2,I2,r2,q2⟩:=z1
 refine thn (hg pins s2 σ H2 x1 x2 ov iv _ I2 r1 r2 q2) λold s3 z2=>?_
 obtain⟨x3,H3,I3,r3,q3⟩:=z2
 refine thn (he pins s3 σ H3 _ I3 q3) λv s4 z3=>?_
 obtain⟨x4,H4,I4,r4,q4⟩:=z3
 refine thn (hp pins s4 σ H4 x3 x4 old v _ I4 r3 r4 q4) λnew s5 z4=>?_
 obtain⟨x5,H5,I5,r5,q5⟩:=z4
 refine thn (hs pins s5 σ H5 x1 x2 x5 ov iv new _ I5 r1 r2 r5 q5) λ_ s6 z5=>?_
 obtain⟨H6,I6,q6⟩:=z5
 exact⟨σ,H6,I6,q6⟩
noncomputable def ipI(f:Int->Int->Int):TIp:=λx y H Q=>∃i j,x=.int i/\y=.int j/\Q (.int (f i j)) H
theorem ip_add:PIp X .Add (ipI λi j=>i+j):=by
 intro pins s σ H x y v u Q I r1 r2 h
 obtain⟨i,j,e1,e2,q⟩:=h
 subst e1;subst e2
 obtain⟨t,rfl⟩:=r1
 obtain⟨t',rfl⟩:=r2
 exact iadd_int ⟨.int _,H,I.tok _,⟨_,rfl⟩,q⟩
end
section
def tWhile(c:TT)(tb:TS):TS:=λD σ H=>∃W:Nat->St->Hp->Prop,(∃m,W m σ H)/\∀m σ H,W m σ H ->
 c σ H λb H1=>if b=true then ∃N:St->Hp->Prop,(∀σ' H',N σ' H'->∃m',m'<m/\W m' σ' H')/\tb { D with nx:=N,ct:=N,bk:=D.nx } σ H1 else D.nx σ H1
theorem sI(hp:PassesOwn `DW X.A X.env X.xe)(hc:PT X c tc)(hb:PSs X body tb):PS X (.While c body [] pos) (tWhile tc tb):=by
 intro pins s σ H D I h
 obtain⟨W,⟨m0,w0⟩,turn⟩:=h
 refine wpAny_While (codeAny_whileLoop (λn s'=>∃σ' H',Inv X pins σ' H' s'/\W n σ' H') ?_ m0 ⟨σ,H,I,w0⟩)
 rintro n s1 ⟨σ1,H1,I1,w1⟩
 refine wpAny_passesOwn hp (thn (hc pins s1 σ1 H1 _ I1 (turn n σ1 H1 w1)) λb s2 ⟨H2,I2,q2⟩=>?_)
 cases b with
 | true =>
  obtain⟨N,hN,q2⟩:=q2
  rw[if_pos rfl]
  refine wpAny_passesOwn hp (thn (hb pins s2 σ1 H2 _ I2 q2) λf s3 q3=>?_)
  cases f with
  | next =>
   obtain⟨σ3,H3,I3,n3⟩:=q3
   obtain⟨m',hm,w3⟩:=hN σ3 H3 n3
   exact⟨m',hm,σ3,H3,I3,w3⟩
  | cont =>
   obtain⟨σ3,H3,I3,n3⟩:=q3
   obtain⟨m',hm,w3⟩:=hN σ3 H3 n3
   exact⟨m',hm,σ3,H3,I3,w3⟩
  | brk=>exact q3
  | ret v=>exact q3
 | false =>
  rw[if_neg Z8]
  exact wpAny_execs_nil ⟨σ1,H2,I2,q2⟩
end
structure It where
 go:Nat->Hp->Prop
 yld:Nat->Hp->V->Hp->Prop
 stop:Nat->Hp->Prop
def md(X:Cx)(pins:List (Addr×Obj))(H:Hp)(b:Addr):Prop :=
 H b=none/\b≠X.env.locals/\b∉X.fs/\(b∈X.ex\/X.s₀.heap.objs.size<=b)/\(∀x c,X.env.cells.lookup x=some c->c≠b)/\∀p∈X.pn++pins,p.1≠b
theorem Inv.fpOk(I:`DX)(hb:s.heap.objs.size<=b)(hn:H' b=none):md X pins H' b:=by
 refine⟨hn,Nat.ne_of_gt (Ω I.lt hb),I.nofs hb,.inr (X8 I.sz hb),λx c e z=>?_,λp hp z=>?_⟩
 ·obtain⟨v,q⟩:=I.cell x c e
  exact absurd (Ω q.lt (by simp_all)) (V9 _)
 ·exact absurd (Ω (Heap.lt_size (I.pin p hp).1) (by simp_all)) (V9 _)
structure Turn(P:Program)(w:World)(K:ε)(tg:Expr)(J:It)(fp:List Addr)(it:Addr)(tn:Nat->Heap->Prop):Prop where
 mem:it∈fp
 obj:∀i h,tn i h->∀b∈fp,∃o,h.get? b=some o/\∀v,o.data≠.cell v
 keep:∀i h h',tn i h->(∀b∈fp,∀o,h.get? b=some o->h'.get? b=some o)->tn i h'
 item:∀(X:Cx),X.prog=P->X.w=w->X.K=K->X.calm=true->∀(i:Nat) (pins:List (Addr×Obj)) (s:Shared) (σ:St) (H:Hp) (E:Value->Shared->Prop),Inv X pins σ H s->(∀b∈fp,md X pins H b)->tn i s.heap->J.go i H ->
  wpAny (model P w) X.A (pyNext (.ref it)) (λr s1=>∃u,r=some u /\
   wpAny (model P w) X.A (letOwnedTupleGo tg (.ref it) u) (λ_ s2=>∃x H',Inv X pins σ H' s2/\bm x u/\J.yld i H x H'/\tn (i+1) s2.heap/\∀b∈fp,H' b=none) E s1) E s
 done:∀(X:Cx),X.prog=P->X.w=w->X.K=K->X.calm=true->∀(i:Nat) (pins:List (Addr×Obj)) (s:Shared) (σ:St) (H:Hp) (E:Value->Shared->Prop),Inv X pins σ H s->(∀b∈fp,md X pins H b)->tn i s.heap->J.stop i H ->
  wpAny (model P w) X.A (pyNext (.ref it)) (λr s1=>r=none/\Inv X pins σ H s1) E s
 self:∀(A:Around) (i:Nat) (s:Shared) (Q:Value->Shared->Prop) (E:Value->Shared->Prop),tn i s.heap->Q (.ref it) s->wpAny (model P w) A (pyIter (.ref it)) Q E s
abbrev TI:=St->Hp->(It->Hp->Prop)->Prop
def PIE(X:Cx)(pins:List (Addr×Obj))(σ:St)(tg:Expr)(R:It->Hp->Prop)(itv:Value)(s2:Shared):Prop :=
 ∃(it:Addr) (fp:List Addr) (tn:Nat->Heap->Prop) (J:It) (H':Hp),itv=.ref it/\Inv X pins σ H' s2/\Turn X.prog X.w X.K tg J fp it tn/\tn 0 s2.heap/\(∀b∈fp,md X pins H' b)/\R J H'
def PI(X:Cx)(tg iter:Expr)(wi:TI):Prop :=
 ∀(pins:List (Addr×Obj)) (s:Shared) (σ:St) (H:Hp) (R:It->Hp->Prop),Inv X pins σ H s->wi σ H R ->
  wpAny `DW X.A (eval iter X.env) (λv s1=>wpAny `DW X.A (pyIter v) (PIE X pins σ tg R) X.xe s1) X.xe s
theorem tR(ho:s.heap.get? it=some o)(hc:o.cls=.type n)(hd:o.data=.fields vs)
    (hn:["enumerate", "zip", "dict_itemiterator", "dict_reverseitemiterator", "odict_iterator", "itertools.zip_longest", "itertools.pairwise"].contains n=false) (hQ:Q () s):wpAny M A (letOwnedTupleGo tg (.ref it) u) Q E s:=by
  cases tg<;>first
    | exact wpAny_pure hQ
    | (cases u<;>first
        | exact wpAny_pure hQ
        | (refine wpAny_bind (wpAny_load ho ?_)
           rw[hc,hd]
           show wpAny M A (if (["enumerate", "zip", "dict_itemiterator", "dict_reverseitemiterator", "odict_iterator", "itertools.zip_longest", "itertools.pairwise"].contains n&&vs[0]?==some (rawInt _))=true then _ else _) Q E s
           rw[if_neg (by intro h;rw[hn,Bool.false_and] at h;cases h)]
           exact wpAny_pure hQ))
noncomputable def Itl(K:ε)(a:Addr):It :=
 ⟨λi H=>∃xs x,SqL K H a xs/\xs[i]?=some x,λi H x H'=>H'=H/\∀xs,SqL K H a xs->xs[i]?=some x,λi H=>∃xs,SqL K H a xs/\xs.length<=i⟩
noncomputable def Itt(K:ε)(a:Addr):It :=
 ⟨λi H=>∃xs x,SqT K H a xs/\xs[i]?=some x,λi H x H'=>H'=H/\∀xs,SqT K H a xs->xs[i]?=some x,λi H=>∃xs,SqT K H a xs/\xs.length<=i⟩
noncomputable def Itr(lo:Int)(n:Nat):It:=⟨λi _=>i<n,λi H x H'=>H'=H/\x=.int (lo+i),λi _=>n<=i⟩
theorem pO{P:Program}{w:World}{K:ε}{tg:Expr}(a it:Addr):Turn P w K tg (Itl K a) [it] it (λi h=>h.IsListIter it a i) where
 mem:=by simp
 obj:=λi h st b hb=>by
  have e:b=it:=by simp_all
  subst e
  obtain⟨o,e,c,d⟩:=st
  simp_all
 keep:=λi h h' st k=>st.at λo e=>k it (by simp) o e
 item:=by
  intro X hP hw hK hc i pins s σ H E I hf st hg
  subst hP hw hK
  obtain⟨xs,x,hq,hx⟩:=hg
  obtain⟨its,rv,p,hz⟩:=I.list hq
  obtain⟨u,hu,ru⟩:=rv.get hx
  obtain⟨f0,f1,f2,f3,f4,f5⟩:=hf it (by simp)
  refine wpAny_pyNext_list_item st p.isList (x:=u) (by simp_all) λh' st' sb=>?_
  have I1:Inv X pins σ H { s with heap:=h' }:=I.turned (t':=s.toks) (λb o hb e=>(sb.2 b hb).trans e) f0 f1 f3 f4 f5
  obtain⟨o,e,c,d⟩:=id st'
  exact⟨u,rfl,tR (s:={ s with heap:=h' }) e c d (by decide) ⟨x,H,I1,ru,⟨rfl,λys hy=>by rw[I.list_inj hy hq];exact hx⟩,st',λb hb=>(hf b hb).1⟩⟩
 done:=by
  intro X hP hw hK hc i pins s σ H E I hf st hg
  subst hP hw hK
  obtain⟨xs,hq,hx⟩:=hg
  obtain⟨its,rv,p,hz⟩:=I.list hq
  obtain⟨f0,f1,f2,f3,f4,f5⟩:=hf it (by simp)
  have hl:=rv.length
  exact wpAny_pyNext_list_end (I.ok.hd hc) st p.isList (by simp_all) λh' eb=>⟨rfl,I.turned (t':=s.toks) (λb o hb e=>eb b o hb e) f0 f1 f3 f4 f5⟩
 self:=λ_ _ _ _ _ st h=>wpAny_pyIter_listiter st h
theorem ug{P:Program}{w:World}{K:ε}{tg:Expr}(a it:Addr):Turn P w K tg (Itt K a) [it] it (λi h=>h.IsTupleIter it a i) where
 mem:=by simp
 obj:=λi h st b hb=>by
  have e:b=it:=by simp_all
  subst e
  obtain⟨o,e,c,d⟩:=st
  simp_all
 keep:=λi h h' st k=>st.at λo e=>k it (by simp) o e
 item:=by
  intro X hP hw hK hc i pins s σ H E I hf st hg
  subst hP hw hK
  obtain⟨xs,x,hq,hx⟩:=hg
  obtain⟨its,rv,p,hz⟩:=I.tuple hq
  obtain⟨u,hu,ru⟩:=rv.get hx
  obtain⟨f0,f1,f2,f3,f4,f5⟩:=hf it (by simp)
  refine wpAny_pyNext_tuple_item st (show s.heap.IsTuple a its.toArray from p) (x:=u) (by simp_all) λh' st' sb=>?_
  have I1:Inv X pins σ H { s with heap:=h' }:=I.turned (t':=s.toks) (λb o hb e=>(sb.2 b hb).trans e) f0 f1 f3 f4 f5
  obtain⟨o,e,c,d⟩:=id st'
  exact⟨u,rfl,tR (s:={ s with heap:=h' }) e c d (by decide) ⟨x,H,I1,ru,⟨rfl,λys hy=>by rw[I.tuple_inj hy hq];exact hx⟩,st',λb hb=>(hf b hb).1⟩⟩
 done:=by
  intro X hP hw hK hc i pins s σ H E I hf st hg
  subst hP hw hK
  obtain⟨xs,hq,hx⟩:=hg
  obtain⟨its,rv,p,hz⟩:=I.tuple hq
  obtain⟨f0,f1,f2,f3,f4,f5⟩:=hf it (by simp)
  have hl:=rv.length
  exact wpAny_pyNext_tuple_end (I.ok.hd hc) st (show s.heap.IsTuple a its.toArray from p) (by simp_all) λh' eb=>⟨rfl,I.turned (t':=s.toks) (λb o hb e=>eb b o hb e) f0 f1 f3 f4 f5⟩
 self:=λ_ _ _ _ _ st h=>wpAny_pyIter_tupleiter st h
theorem uh{P:Program}{w:World}{K:ε}{tg:Expr}(it:Addr)(lo:Int)(n:Nat):Turn P w K tg (Itr lo n) [it] it (λi h=>IsRangeIter h it (lo+(i:Nat)*1) ((n:Int)-(i:Nat)) 1) where
 mem:=by simp
 obj:=λi h st b hb=>by
  simp_all
 keep:=λi h h' st k=>k it (by simp) _ st
 item:=by
  intro X hP hw hK hc i pins s σ H E I hf st hg
  subst hP hw hK
  obtain⟨f0,f1,f2,f3,f4,f5⟩:=hf it (by simp)
  have W:=Walks.range (prog:=X.prog) (w:=X.w) (I.ok.hd hc) it lo 1 n
  refine W.item i s _ _ hg st λv h' tk hv st' kk=>?_
  obtain⟨t,rfl⟩:=hv
  have I1:Inv X pins σ H { s with heap:=h',toks:=tk }:=I.turned (λb o hb e=>kk b o (by simp_all) e) f0 f1 f3 f4 f5
  refine⟨_,rfl,tR st' rfl rfl (by decide) ⟨.int (lo+i),H,I1,⟨t,?_⟩,⟨rfl,rfl⟩,st',λb hb=>(hf b hb).1⟩⟩
  simp
 done:=by
  intro X hP hw hK hc i pins s σ H E I hf st hg
  obtain⟨f0,f1,f2,f3,f4,f5⟩:=hf it (by simp)
  exact wpAny_pyNext_range_end (I.ok.hd hc) st (by have:n<=i:=hg;omega) λh' eb=>⟨rfl,I.turned (λb o hb e=>eb b o hb e) f0 f1 f3 f4 f5⟩
 self:=λ_ _ _ _ _ st h=>wpAny_pyIter_rangeiter st h
end L2
namespace L2
open PyProof.Rows
section
variable{X:Cx}{tg:Expr}
noncomputable def iList(K:ε)(tl:TE):TI:=λσ H R=>tl σ H λx H1=>∃a,x=.ref a/\(∃xs,SqL K H1 a xs)/\R (Itl K a) H1
theorem B9(hl:PE X l tl):PI X tg l (iList X.K tl):=by
 intro pins s σ H R I h
 refine thn (hl pins s σ H _ I h) λv s1 z0=>?_
 obtain⟨x,H1,I1,r1,q1⟩:=z0
 obtain⟨a,e,⟨xs,hq⟩,q⟩:=q1
 subst e
 cases r1
 obtain⟨its,rv,p,hz⟩:=I1.list hq
 refine wpAny_pyIter_list p.isList ?_
 refine⟨s1.heap.objs.size,[s1.heap.objs.size],_,_,H1,rfl,I1.kept λb o e=>Heap.get?_push_of_some _ e,pO a _,⟨_,Heap.get?_push_size _ rfl,rfl,rfl⟩,λb hb=>?_,q⟩
 have e:b=s1.heap.objs.size:=by simp_all
 subst e
 exact I1.fpOk (ξ _) (I1.hok.fresh (ξ _))
theorem sG{pins:List (Addr×Obj)}{σ:St}{H:Hp}{s:Shared}{R:It->Hp->Prop}{E:Value->Shared->Prop}{lo hi:Int}{t u v:Tok}{tk:Nat}(I:`DX)(h1 : -(2 ^ 62)<=lo)(h2:lo<2 ^ 62)(h3 : -(2 ^ 62)<=hi)(h4:hi<2 ^ 62)
  (q:R (Itr lo (hi-lo).toNat) H):wpAny `DW X.A (pyIter (.ref s.heap.objs.size)) (PIE X pins σ tg R) E { s with heap:=s.heap.push { cls:=.type "range",data:=.fields #[.int lo t,.int hi u,.int 1 v] },toks:=tk }:=by
 refine wpAny_pyIter_range (IsRange.new ..) (small_one h1 h2 h3 h4) ?_
 have I1:Inv X pins σ H { s with heap:=s.heap.push { cls:=.type "range",data:=.fields #[.int lo t,.int hi u,.int 1 v] },toks:=tk }:=I.kept λb o e=>Heap.get?_push_of_some _ e
 refine⟨(s.heap.push { cls:=.type "range",data:=.fields #[.int lo t,.int hi u,.int 1 v] }).objs.size,[(s.heap.push { cls:=.type "range",data:=.fields #[.int lo t,.int hi u,.int 1 v] }).objs.size],_,_,H,rfl,
  I1.kept (t':=tk) λb o e=>Heap.get?_push_of_some _ e,uh _ lo (hi-lo).toNat,?_,λb hb=>?_,q⟩
 ·have e1:lo+((0:Nat):Int)*1=lo:=by simp
  have e2:(((hi-lo).toNat:Nat):Int)-((0:Nat):Int)=Builtin.Range.rangeSize lo hi 1:=by rw[rangeSize_one];omega
  rw[e1,e2]
  exact Heap.get?_push_size _ rfl
 ·have e:b=(s.heap.push { cls:=.type "range",data:=.fields #[.int lo t,.int hi u,.int 1 v] }).objs.size:=by simp_all
  subst e
  exact I1.fpOk (ξ _) (I1.hok.fresh (ξ _))
noncomputable def iRng1(ta:TA):TI:=λσ H R=>ta σ H λvs H1=>∃j:Int,vs=[.int j] /\ -(2 ^ 62)<=j/\j<2 ^ 62/\R (Itr 0 j.toNat) H1
noncomputable def iRng2(ta:TA):TI:=λσ H R=>ta σ H λvs H1=>∃i j:Int,vs=[.int i,.int j]/\(-(2 ^ 62)<=i/\i<2 ^ 62 /\ -(2 ^ 62)<=j/\j<2 ^ 62)/\R (Itr i (j-i).toNat) H1
theorem pZ{a:Expr}{ta:TA}{p pos:Pos}(hg:Gl X "range")(hm:X.mg "range" = none)(ha:PA X [a] ta)(hs:starEach [a] X.env=[(false,eval a X.env)]:=by rfl):PI X tg (.Call (.Name "range" p) [a] [] pos) (iRng1 ta):=by
 intro pins s σ H R I h
 refine Call_ (iW I hg hm boot_range (PyProof.Rows.callWith_type1 (thn (ha pos pins s σ H _ I h) λus s1 z0=>?_) hs rfl))
 obtain⟨vs,H1,I1,r1,q1⟩:=z0
 obtain⟨j,e,q1,q2,q⟩:=q1
 subst e
 cases r1 with
 | cons r rr =>
  cases rr
  obtain⟨t,rfl⟩:=r
  exact call_range_1 (sG I1 `am `am q1 q2 (by simp_all))
theorem xa(hg:Gl X "range")(hm:X.mg "range" = none)(ha:PA X [a,b] ta)(hs:starEach [a,b] X.env=[(false,eval a X.env),(false,eval b X.env)]:=by rfl)(hs2:starEach [b] X.env=[(false,eval b X.env)]:=by rfl) :
  PI X tg (.Call (.Name "range" p) [a,b] [] pos) (iRng2 ta):=by
 intro pins s σ H R I h
 refine Call_ (iW I hg hm boot_range (PyProof.Rows.callWith_type1 (thn (ha pos pins s σ H _ I h) λus s1 ⟨vs,H1,I1,r1,q1⟩=>?_) (by simp_all) (by rw[hs2];rfl)))
 obtain⟨i,j,e,⟨q1,q2,q3,q4⟩,q⟩:=q1
 subst e
 cases r1 with
 | cons r rr =>
  cases rr with
  | cons r' rr =>
   cases rr
   obtain⟨t,rfl⟩:=r
   obtain⟨t',rfl⟩:=r'
   exact call_range_2 (sG I1 q1 q2 q3 q4 q)
def tFor(wi:TI)(g:TG)(tb:TS):TS:=λD σ H=>wi σ H λJ H1=>∃W:Nat->Nat->St->Hp->Prop,(∃m,W 0 m σ H1)/\∀i m σ H,W i m σ H ->
 (J.stop i H/\D.nx σ H)\/(J.go i H/\∃N:St->Hp->Prop,(∀σ' H',N σ' H'->∃m',m'<m/\W (i+1) m' σ' H')/\∀x H',J.yld i H x H'->g x σ H' λσ2 H2=>tb { D with nx:=N,ct:=N,bk:=D.nx } σ2 H2)
noncomputable def oz(fp:List Addr)(h:Heap):List (Addr×Obj):=fp.filterMap λb=>(h.get? b).map λo=>(b,o)
theorem iV(hb:b∈fp)(e:h.get? b=some o):(b,o)∈oz fp h:=List.mem_filterMap.mpr ⟨b,hb,by simp_all⟩
theorem xm(hp:p∈oz fp h):p.1∈fp/\h.get? p.1=some p.2:=by
 obtain⟨b,hb,e⟩:=List.mem_filterMap.mp hp
 cases q:h.get? b with
 | none=>simp_all
 | some o =>
  grind
theorem Inv.pinned(I:`DX)(hf:∀b∈fp,md X pins H b)(ho:∀b∈fp,∃o,s.heap.get? b=some o/\∀v,o.data≠.cell v):Inv X (pins++oz fp s.heap) σ H s :=
 I.pins_of λp hp=>(Z7.mp hp).elim (λz=>I.pin p (Y3 _ z)) λz=>by
  obtain⟨hb,e⟩:=xm z
  obtain⟨f0,f1,f2,_⟩:=hf p.1 hb
  grind
theorem Inv.unpinned(I:Inv X (pins++pl) σ H s):Inv X pins σ H s:=I.pins_of λp hp=>I.pin p (Y3 _ (List.mem_append_left _ hp))
theorem oy(hp:PassesOwn `DW X.A X.env X.xe)(hc:X.calm=true)(hi:PI X tg iter wi)(hg:PG X tg g)(hb:PSs X body tb)
  (hs:∀x,foldedSetIterable iter X.env x=pure x:=by intro _;rfl):PS X (.For tg iter body [] pos) (tFor wi g tb):=by
 intro pins s σ H D I h
 refine wpAny_For (thn (hi pins s σ H _ I h) λv s1 h1=>thn h1 λitv s2 h2=>?_) hs
 obtain⟨it,fp,tn,J,H2,e,I2,T,st2,f2,W,⟨m0,w0⟩,turn⟩:=h2
 subst e
 have stat:∀{H':Hp},(∀b∈fp,H' b=none)->∀b∈fp,md X pins H' b:=λhn b hb=>⟨hn b hb,(f2 b hb).2⟩
 refine codeAny_forLoop_any (λn s'=>∃i σ' H',Inv X pins σ' H' s'/\tn i s'.heap/\(∀b∈fp,H' b=none)/\W i n σ' H') ?_ m0 ⟨0,σ,H2,I2,st2,λb hb=>(f2 b hb).1,w0⟩
 rintro n s3 ⟨i,σ3,H3,I3,st3,fr3,w3⟩
 rcases turn i n σ3 H3 w3 with ⟨stop,qn⟩ | ⟨go,N,hN,step⟩
 ·refine wpAny_passesOwn hp (thn (T.done X rfl rfl rfl hc i pins s3 σ3 H3 X.xe I3 (stat fr3) st3 stop) λr s4 ⟨hr,I4⟩=>?_)
  subst hr
  exact wpAny_execs_nil ⟨σ3,H3,I4,qn⟩
 ·refine wpAny_passesOwn hp (thn (T.item X rfl rfl rfl hc i pins s3 σ3 H3 X.xe I3 (stat fr3) st3 go) λr s4 ⟨u,hr,h4⟩=>?_)
  subst hr
  refine wpAny_passesOwn hp (thn h4 λ_ s5 ⟨x,H5,I5,r5,y5,st5,fr5⟩=>?_)
  have I5':=I5.pinned (stat fr5) (T.obj _ _ st5)
  refine wpAny_passesOwn hp (thn (hg _ s5 σ3 H5 x u _ I5' r5 (step x H5 y5)) λ_ s6 ⟨σ6,H6,I6,q6⟩=>?_)
  refine wpAny_passesOwn hp (thn (hb _ s6 σ6 H6 _ I6 q6) λf s7 q7=>?_)
  have again:∀{σ7:St} {H7:Hp},Inv X (pins++oz fp s5.heap) σ7 H7 s7->N σ7 H7->∃m,m<n/\∃i σ' H',Inv X pins σ' H' s7/\tn i s7.heap/\(∀b∈fp,H' b=none)/\W i m σ' H':=λ{σ7 H7} I7 n7=>by
   obtain⟨m',hm,w7⟩:=hN σ7 H7 n7
   refine⟨m',hm,i+1,σ7,H7,I7.unpinned,T.keep _ _ _ st5 λb hb o e=>(I7.pin (b,o) (Y3 _ (Y3 _ (iV hb e)))).1,λb hb=>?_,w7⟩
   obtain⟨o,e,d⟩:=T.obj _ _ st5 b hb
   exact(I7.pin (b,o) (Y3 _ (Y3 _ (iV hb e)))).2.1
  cases f with
  | next=>obtain⟨σ7,H7,I7,n7⟩:=q7;exact again I7 n7
  | cont=>obtain⟨σ7,H7,I7,n7⟩:=q7;exact again I7 n7
  | brk=>obtain⟨σ7,H7,I7,q7⟩:=q7;exact⟨σ7,H7,I7.unpinned,q7⟩
  | ret v=>obtain⟨x7,σ7,H7,I7,r7,q7⟩:=q7;exact⟨x7,σ7,H7,I7.unpinned,r7,q7⟩
end
end L2
namespace L2
open PyProof.Rows
abbrev R2:=V->V->Hp->VK->Prop
def OpR(X:Cx)(f:Value->Value->Sem Value)(r:R2):Prop :=
 ∀(pins:List (Addr×Obj)) (s:Shared) (σ:St) (H:Hp) (x y:V) (v u:Value) (Q:VK),Inv X pins σ H s->bm x v->bm y u->r x y H Q ->
  wpAny `DW X.A (f v u) (EP X pins σ Q) X.xe s
def UnR(X:Cx)(f:Value->Sem Value)(r:V->Hp->VK->Prop):Prop :=
 ∀(pins:List (Addr×Obj)) (s:Shared) (σ:St) (H:Hp) (x:V) (v:Value) (Q:VK),Inv X pins σ H s->bm x v->r x H Q ->
  wpAny `DW X.A (f v) (EP X pins σ Q) X.xe s
def fQ(X:Cx)(f:Value)(r:List V->Hp->VK->Prop):Prop :=
 ∀(pins:List (Addr×Obj)) (s:Shared) (σ:St) (H:Hp) (xs:List V) (us:List Value) (Q:VK),Inv X pins σ H s->aM xs us->r xs H Q ->
  wpAny `DW X.A (call f us) (EP X pins σ Q) X.xe s
def TruR(X:Cx)(r:V->Hp->(Bool->Hp->Prop)->Prop):Prop :=
 ∀(pins:List (Addr×Obj)) (s:Shared) (σ:St) (H:Hp) (x:V) (v:Value) (Q:Bool->Hp->Prop),Inv X pins σ H s->bm x v->r x H Q ->
  wpAny `DW X.A (truthy v) (TP X pins σ Q) X.xe s
noncomputable def tOp(r:R2)(ta tb:TE):TE:=λσ H Q=>ta σ H λx H1=>tb σ H1 λy H2=>r x y H2 Q
def tUn(r:V->Hp->VK->Prop)(ta:TE):TE:=λσ H Q=>ta σ H λx H1=>r x H1 Q
def rI(C:Int->Int->Prop)(g:Int->Int->V):R2:=λx y H Q=>∃i j,x=.int i/\y=.int j/\C i j/\Q (g i j) H
noncomputable def rI0(g:Int->Int->V):R2:=λx y H Q=>∃i j,x=.int i/\y=.int j/\Q (g i j) H
def rU(g:Int->V):V->Hp->VK->Prop:=λx H Q=>∃i,x=.int i/\Q (g i) H
section
variable{X:Cx}{a b c:Expr}{ta tb tc:TE}{pos:Pos}
theorem binT(ha:PE X a ta)(hb:PE X b tb){pins:List (Addr×Obj)}{s:Shared}{σ:St}{H:Hp}{R:V->V->Hp->Prop}(I:`DX)
  (h:ta σ H λx H1=>tb σ H1 λy H2=>R x y H2) {Q:Value->Shared->Prop} {f:Value->Value->Sem Value}
  (hf:∀v u s2 x y H2,Inv X pins σ H2 s2->bm x v->bm y u->R x y H2->wpAny `DW X.A (f v u) Q X.xe s2) :
  wpAny `DW X.A (eval a X.env) (λv s₁=>wpAny `DW X.A (eval b X.env) (λu s₂=>wpAny `DW X.A (f v u) Q X.xe s₂) X.xe s₁) X.xe s:=by
 refine thn (ha pins s σ H _ I h) λv s1 ⟨x,H1,I1,r1,q1⟩=>?_
 refine thn (hb pins s1 σ H1 _ I1 q1) λu s2 ⟨y,H2,I2,r2,q2⟩=>?_
 exact hf v u s2 x y H2 I2 r1 r2 q2
theorem vM{op:Operator}{r:R2}(ho:OpR X (binaryOp op) r)(ha:PE X a ta)(hb:PE X b tb):PE X (.BinOp a op b pos) (tOp r ta tb):=by
 intro pins s σ H Q I h
 exact wpAny_BinOp (binT ha hb I h λv u s2 x y H2 I2 rx ry q=>ho pins s2 σ H2 x y v u Q I2 rx ry q)
theorem pe_un(ho:UnR X (unaryOp op) r)(ha:PE X a ta):PE X (.UnaryOp op a pos) (tUn r ta):=by
 intro pins s σ H Q I h
 refine UnaryOp_ (thn (ha pins s σ H _ I h) λv s1 z0=>?_)
 obtain⟨x,H1,I1,r1,q1⟩:=z0
 exact ho pins s1 σ H1 x v Q I1 r1 q1
theorem opI{f:Value->Value->Sem Value}{C:Int->Int->Prop}{g:Int->Int->Int}
  (rule:∀(i j:Int) (t u:Tok) (s:Shared) (Q:Value->Shared->Prop) (E:Value->Shared->Prop),C i j->Q (.int (g i j) s.toks) { s with toks:=s.toks+1 }->wpAny `DW X.A (f (.int i t) (.int j u)) Q E s) :
  OpR X f (rI C λi j=>.int (g i j)):=by
 intro pins s σ H x y v u Q I rx ry h
 obtain⟨i,j,rfl,rfl,hc,q⟩:=h
 obtain⟨t,rfl⟩:=rx
 obtain⟨t',rfl⟩:=ry
 exact rule i j t t' s _ _ hc ⟨.int (g i j),H,I.tok _,⟨_,rfl⟩,q⟩
theorem opI0{f:Value->Value->Sem Value}{g:Int->Int->Int}
  (rule:∀(i j:Int) (t u:Tok) (s:Shared) (Q:Value->Shared->Prop) (E:Value->Shared->Prop),Q (.int (g i j) s.toks) { s with toks:=s.toks+1 }->wpAny `DW X.A (f (.int i t) (.int j u)) Q E s) :
  OpR X f (rI0 λi j=>.int (g i j)):=by
 intro pins s σ H x y v u Q I rx ry h
 obtain⟨i,j,rfl,rfl,q⟩:=h
 obtain⟨t,rfl⟩:=rx
 obtain⟨t',rfl⟩:=ry
 exact rule i j t t' s _ _ ⟨.int (g i j),H,I.tok _,⟨_,rfl⟩,q⟩
theorem CU{f:Value->Value->Sem Value}{g:Int->Int->Bool}
  (rule:∀(i j:Int) (t u:Tok) (s:Shared) (Q:Value->Shared->Prop) (E:Value->Shared->Prop),Q (.bool (g i j)) s->wpAny `DW X.A (f (.int i t) (.int j u)) Q E s) :
  OpR X f (rI0 λi j=>.bl (g i j)):=by
 intro pins s σ H x y v u Q I rx ry h
 obtain⟨i,j,rfl,rfl,q⟩:=h
 obtain⟨t,rfl⟩:=rx
 obtain⟨t',rfl⟩:=ry
 exact rule i j t t' s _ _ ⟨.bl (g i j),H,I,rfl,q⟩
def CPow(i j:Int):Prop:=0<=j/\j<=1000000/\i.natAbs<2 ^ 64
def CMul(i j:Int):Prop:=(-(2 ^ 64)<i/\i<2 ^ 64)\/(-(2 ^ 64)<j/\j<2 ^ 64)
theorem CMul.ok(h:CMul i j):IntMulOk i j:=by
 rcases h with ⟨h1,h2⟩ | ⟨h1,h2⟩
 ·exact .of_left (intBits_le_64 h1 h2)
 ·exact .of_right (intBits_le_64 h1 h2)
theorem op_add:OpR X (binaryOp .Add) (rI0 λi j=>.int (i+j)):=opI0 λ_ _ _ _ _ _ _ q=>add_int q
theorem op_sub:OpR X (binaryOp .Sub) (rI0 λi j=>.int (i-j)):=opI0 λ_ _ _ _ _ _ _ q=>sub_int q
theorem op_mul:OpR X (binaryOp .Mult) (rI CMul λi j=>.int (i*j)):=opI λ_ _ _ _ _ _ _ hc q=>mul_int q hc.ok
theorem op_mod:OpR X (binaryOp .Mod) (rI (λ_ j=>0<j) λi j=>.int (i % j)):=opI λi j _ _ _ _ _ hc q=>by
 exact mod_int' `am (by grind)
theorem op_pow:OpR X (binaryOp .Pow) (rI CPow λi j=>.int (i ^ j.toNat)):=opI λ_ _ _ _ _ _ _ hc q=>pow_int_small hc.1 hc.2.1 hc.2.2 q
theorem unI{f:Value->Sem Value}{g:Int->Int}
  (rule:∀(i:Int) (t:Tok) (s:Shared) (Q:Value->Shared->Prop) (E:Value->Shared->Prop),Q (.int (g i) s.toks) { s with toks:=s.toks+1 }->wpAny `DW X.A (f (.int i t)) Q E s) :
  UnR X f (rU λi=>.int (g i)):=by
 intro pins s σ H x v Q I rx h
 obtain⟨i,rfl,q⟩:=h
 obtain⟨t,rfl⟩:=rx
 exact rule i t s _ _ ⟨.int (g i),H,I.tok _,⟨_,rfl⟩,q⟩
theorem un_neg:UnR X (unaryOp .USub) (rU λi=>.int (-i)):=unI λ_ _ _ _ _ q=>neg_int q
end
section
variable{X:Cx}{a b c:Expr}{ta tb tc:TE}{pos:Pos}
theorem uW(I:`DX)(q:Q (.bl k) H)(e:k=k'):EP X pins σ Q (.bool k') s:=by
 subst e
 exact⟨.bl k,H,I,rfl,q⟩
theorem op_lt:OpR X (compareOp .Lt) (rI0 λi j=>.bl (decide (i<j))):=CU λ_ _ _ _ _ _ _ q=>lt_int q
theorem op_le:OpR X (compareOp .LtE) (rI0 λi j=>.bl (decide (i<=j))):=CU λ_ _ _ _ _ _ _ q=>le_int q
theorem op_gt:OpR X (compareOp .Gt) (rI0 λi j=>.bl (decide (j<i))):=CU λ_ _ _ _ _ _ _ q=>gt_int q
theorem op_ge:OpR X (compareOp .GtE) (rI0 λi j=>.bl (decide (j<=i))):=CU λ_ _ _ _ _ _ _ q=>ge_int q
theorem op_isN:OpR X (compareOp .Is) (λx y H Q=>y=.non/\Q (.bl (decide (x=.non))) H):=by
 intro pins s σ H x y v u Q I rx ry h
 obtain⟨rfl,q⟩:=h
 cases ry
 refine is_none_gen (uW I q ?_)
 cases x<;>first
  | (cases rx;rfl)
  | (obtain⟨t,rfl⟩:=rx;rfl)
theorem CM:OpR X (compareOp .IsNot) (λx y H Q=>y=.non/\Q (.bl (!decide (x=.non))) H):=by
 intro pins s σ H x y v u Q I rx ry h
 obtain⟨rfl,q⟩:=h
 cases ry
 refine isnot_none_gen (uW I q ?_)
 cases x<;>first
  | (cases rx;rfl)
  | (obtain⟨t,rfl⟩:=rx;rfl)
theorem OpR.or(h:OpR X f r)(h':OpR X f r'):OpR X f (λx y H Q=>r x y H Q\/r' x y H Q):=by
 intro pins s σ H x y v u Q I rx ry q
 rcases q with q | q
 ·exact h pins s σ H x y v u Q I rx ry q
 ·exact h' pins s σ H x y v u Q I rx ry q
theorem zM(b:Expr)(h:op≠.In:=by decide)(h2:op≠.NotIn:=by decide):behindInMarks op b=false:=by
 have e1:(op==CmpOp.In)=false:=by simp_all
 have e2:(op==CmpOp.NotIn)=false:=by simp_all
 cases b<;>simp [behindInMarks,e1,e2]
theorem Cd{op:CmpOp}{r:R2}(ho:OpR X (compareOp op) r)(ha:PE X a ta)(hb:PE X b tb)(hm:behindInMarks op b=false):PE X (.Compare a [op] [b] pos) (tOp r ta tb):=by
 intro pins s σ H Q I h
 exact wpAny_Compare1 (binT ha hb I h λv u s2 x y H2 I2 rx ry q=>ho pins s2 σ H2 x y v u Q I2 rx ry q) hm
noncomputable def tTest(t:TE):TT:=λσ H Q=>t σ H λx H'=>∃k,x=.bl k/\Q k H'
theorem B3(ho:OpR X (compareOp op) r)(ha:PE X a ta)(hb:PE X b tb)(hm:behindInMarks op b=false):PT X (.Compare a [op] [b] pos) (tTest (tOp r ta tb)):=by
 intro pins s σ H Q I h
 refine wpAny_isTrue_Compare1 (thn (ha pins s σ H _ I h) λv s1 ⟨x,H1,I1,r1,q1⟩=>thn (hb pins s1 σ H1 _ I1 q1) λu s2 ⟨y,H2,I2,r2,q2⟩ =>
  thn (ho pins s2 σ H2 x y v u _ I2 r1 r2 q2) λc s3 ⟨z,H3,I3,r3,k,e,q3⟩=>?_) hm
 subst e
 cases r3
 exact wpAny_truthy_bool ⟨H3,I3,q3⟩
def TruV(K:ε)(x:V)(H:Hp)(k:Bool):Prop :=
 match x with
 | .non=>k=false
 | .bl b=>k=b
 | .int i=>k=(i != 0)
 | .str y=>y.length<=sizeLine/\k=((y.length:Int) != 0)
 | .byt y=>y.size<=sizeLine/\k=((y.size:Int) != 0)
 | .ref p=>(∃xs,SqL K H p xs/\k=!xs.isEmpty)\/(∃xs,SqT K H p xs/\k=!xs.isEmpty)\/∃kvs,H p=some (.dK kvs)/\k=!kvs.isEmpty
 | _=>False
theorem uQ(r:KV kvs vs):(!vs.isEmpty)=!kvs.isEmpty:=by
 cases r<;>rfl
theorem oR(r:aM xs its):(!its.toArray.isEmpty)=!xs.isEmpty:=by
 cases r<;>simp
theorem kQ:(sizeLine:Nat)<2 ^ 63:=by decide
theorem tru_ok:TruR X (λx H Q=>∃k,TruV X.K x H k/\Q k H):=by
 intro pins s σ H x v Q I rx h
 obtain⟨k,e,q⟩:=h
 have hs:= sizeLine_eq
 cases x with
 | non =>
  cases rx
  have e':= e
  subst e'
  exact truthy_none ⟨H,I,q⟩
 | bl b =>
  cases rx
  have e':= e
  subst e'
  exact wpAny_truthy_bool ⟨H,I,q⟩
 | int i =>
  obtain⟨t,rfl⟩:=rx
  have e':= e
  subst e'
  exact PySem.P.truthy_int ⟨H,I,q⟩
 | str y =>
  obtain⟨t,rfl⟩:=rx
  obtain⟨hy,e'⟩:y.length<=sizeLine/\k=((y.length:Int) != 0):=e
  subst e'
  exact PySem.P.truthy_str `am ⟨H,I.tok _,q⟩
 | byt y =>
  obtain⟨t,rfl⟩:=rx
  obtain⟨hy,e'⟩:y.size<=sizeLine/\k=((y.size:Int) != 0):=e
  subst e'
  exact PySem.W.truthy_bytes `am ⟨H,I.tok _,q⟩
 | ref p =>
  cases rx
  have e':= e
  rcases e' with ⟨xs,hx,e'⟩ | ⟨xs,hx,e'⟩ | ⟨kvs,hx,e'⟩
  ·subst e'
   obtain⟨its,r,pl,hz⟩:=I.list hx
   have hlen:=r.length
   exact wpAny_truthy_list pl.isList (by grind) ⟨H,I.tok _,by rw[oR r];exact q⟩
  ·subst e'
   obtain⟨its,r,pl,hz⟩:=I.tuple hx
   have hlen:=r.length
   exact truthy_tuple pl (by grind) ⟨H,I.tok _,by rw[oR r];exact q⟩
  ·subst e'
   obtain⟨hz,hS,vs,r,m⟩:kvs.length<=sizeLine/\(p==sysModules)=false/\∃vs,KV kvs vs/\s.heap.DictOf (ce X.prog X.w) p vs:=I.hok p _ hx
   have hlen:= Paired.length r
   exact wpAny_truthy_dict hS m `am ⟨H,I.tok _,by rw[uQ r];exact q⟩
 | _=>exact(show False from e).elim
theorem yP(ha:PE X a ta)(he:∀whole,isTrue a X.env whole=(do let v <- whole;standAt a.pos;holding [v] (truthy v))) :
  PT X a (λσ H Q=>ta σ H λx H'=>∃k,TruV X.K x H' k/\Q k H'):=by
 intro pins s σ H Q I h
 refine isTrue_plain (thn (ha pins s σ H _ I h) λv s1 z0=>?_) (he _)
 obtain⟨x,H1,I1,r1,q1⟩:=z0
 exact tru_ok pins s1 σ H1 x v Q I1 r1 q1
theorem uC:OpR X (binaryOp .Add) (λx y H Q=>∃i j,x=.str i/\y=.str j/\i.length+j.length<=sizeLine/\Q (.str (i++j)) H):=by
 intro pins s σ H x y v u Q I rx ry h
 obtain⟨i,j,rfl,rfl,hz,q⟩:=h
 obtain⟨t,rfl⟩:=rx
 obtain⟨t',rfl⟩:=ry
 exact add_str (λt' tk=>⟨.str (i++j),H,I.tok _,⟨_,rfl⟩,q⟩) hz
theorem k7(r:aM [x] us):∃u,us=[u]/\bm x u:=by
 cases r with
 | cons r1 r2=>cases r2;simp_all
theorem yh(r:aM [x,y] us):∃u w',us=[u,w']/\bm x u/\bm y w':=by
 cases r with
 | cons r1 r2 =>
  cases r2 with
  | cons r3 r4=>cases r4;grind
theorem xX(hc:X.calm=true):fQ X (.builtin "max") (λxs H Q=>∃i j,xs=[.int i,.int j]/\Q (.int (if j > i then j else i)) H):=by
 intro pins s σ H xs us Q I r h
 obtain⟨i,j,rfl,q⟩:=h
 obtain⟨u,w',rfl,⟨t,rfl⟩,⟨t',rfl⟩⟩:=yh r
 refine max_two_ints (I.ok.hd hc) λh' tk k=>⟨_,H,I.kept k,?_,q⟩
 by_cases hj:j > i
 ·rw[if_pos hj,if_pos hj];exact⟨_,rfl⟩
 ·rw[if_neg hj,if_neg hj];exact⟨_,rfl⟩
theorem xW(hc:X.calm=true):fQ X (.builtin "min") (λxs H Q=>∃i j,xs=[.int i,.int j]/\Q (.int (if j<i then j else i)) H):=by
 intro pins s σ H xs us Q I r h
 obtain⟨i,j,rfl,q⟩:=h
 obtain⟨u,w',rfl,⟨t,rfl⟩,⟨t',rfl⟩⟩:=yh r
 refine min_two_ints (I.ok.hd hc) λh' tk k=>⟨_,H,I.kept k,?_,q⟩
 by_cases hj:j<i
 ·rw[if_pos hj,if_pos hj];exact⟨_,rfl⟩
 ·rw[if_neg hj,if_neg hj];exact⟨_,rfl⟩
end
end L2
namespace L2
open PyProof.Rows
structure ObjM(h:Heap)(x dx C:Addr)(mA:Str->Option Value):Prop where
 obj:h.get? x=some (W8 C dx)
 ns:h.Ns1 dx mA
 ne:dx≠x
theorem xu{h:Heap}{dx:Addr}{mA:Str->Option Value}(n:h.Ns1 dx mA):∃od,h.get? dx=some od/\∀name,PySem.W.lookIn name od=some (mA name):=by
 obtain⟨o,es,ep,ho,hd,hk,_,hm⟩:=n
 refine⟨o,ho,λname=>?_⟩
 have e:=hm name
 unfold nsFind findBy at e
 rw[<-Array.find?_toList] at e
 unfold PySem.W.lookIn
 rw[hd]
 dsimp only
 split
 ·simp_all
 ·rename_i q
  rw[q] at e
  have a:es.toList.any (·.refKey)=false:=by
   rw[List.any_eq_false]
   intro y hy
   obtain⟨z,t,hkey⟩:=hk y (Array.mem_toList_iff.mp hy)
   simp [DictEntry.refKey,hkey]
  simp_all
theorem ObjM.look(I:ObjM h x dx C mA):∃od,PySem.W.InstAt h x (W8 C dx) C (some od)/\∀name,PySem.W.lookIn name od=some (mA name) :=
 let ⟨od,ho,hl⟩:=xu I.ns
 ⟨od,⟨I.obj,rfl,rfl,ho⟩,hl⟩
section
variable{prog:Program}{w:World}{A:Around}{E:Value->Shared->Prop}{s:Shared}{K:ε}{x dx C f:Addr}{mA:Str->Option Value}{name:Str}{v:Value}
theorem Di{expr:Bool}{Q:Value->Shared->Prop}(X:K.In s.heap)(I:ObjM s.heap x dx C mA)(hg:T8 K C name=true)(hh:PySem.W.hasDictIn K C=true)
  (ha:Z1 K (.ref C) name=some none) (hv:mA name=some v) (hv':PySem.W.handedIn v=true) (h:Q v { s with toks:=s.toks+1 }) :
  wpAny (model prog w) A (getAttr (.ref x) name expr) Q E s:=by
 obtain⟨od,J,hl⟩:=I.look
 exact PySem.W.get_value X J (PySem.W.plainGet_of hg).1 (PySem.W.findObj_own hh ha rfl (by simp_all)) hv' h
theorem At{pl:Sem Bool}{Q:Value×List Value->Shared->Prop}(X:K.In s.heap)(I:ObjM s.heap x dx C mA)(hg:T8 K C name=true)
  (hf:Z1 K (.ref C) name=some (some (.ref f))) (ht:PySem.W.isFn K (.ref f)=true) (hv:mA name=none) (h:Q (.ref f,[.ref x]) s) :
  wpAny (model prog w) A (getMethod (.ref x) name pl) Q E s:=by
 obtain⟨od,J,hl⟩:=I.look
 exact PySem.W.method_fn X J (PySem.W.plainGet_of hg).1 (PySem.W.plainGet_of hg).2 hf (beq_iff_eq.mp ht) (by show(PySem.W.lookIn name od).map (·.isSome)=some false;simp_all) h
theorem BK{ns:List Str}{Q:Unit->Shared->Prop}(X:K.In s.heap)(I:ObjM s.heap x dx C mA)
  (hs:Z1 K (.ref C) "__setattr__" = some (some (.builtin "object.__setattr__"))) (hp:PySem.W.plainOver K C=true) (ht:PySem.W.takerIn K C name=some none) (hh:PySem.W.hasDictIn K C=true)
  (hw:PySem.Within mA ns) (hsz:ns.length<=sizeLine)
  (h:∀h',ObjM h' x dx C (λy=>if y=name then some v else mA y)->Heap.SameBut dx s.heap h'->Q () { s with heap:=h',toks:=s.toks+2 }) :
  wpAny (model prog w) A (setAttr (.ref x) name v) Q E s:=by
 obtain⟨od,J,hl⟩:=I.look
 refine PySem.W.set_plain X J hs (PySem.W.osa_open X J hp ht λb=>?_)
 obtain⟨cd,hc,hd'⟩:=PySem.W.any_some hh
 have hx:= I.obj
 refine wpAny_bind (wpAny_pure (wpAny_bind (wpAny_bind (wpAny_loadPart hx (wpAny_bind (PySem.W.Looks.here (PySem.W.looks_clsIn X hc) ?_))))))
 rw[hd']
 refine wpAny_pure (wpAny_bind (wpAny_pure (wpAny_bind ?_)))
 refine wpAny_nsSet1 I.ns λh' hn2 hs2=>?_
 obtain⟨oD,esD,epD,hoD,hdD,hcD⟩:=hn2.count (PySem.Within.cons name v hw)
 refine wpAny_bind (wpAny_lookBehind hoD (by rw[hdD];exact pastItsLine_dict (X8 hcD (by simp_all))) ?_)
 exact wpAny_pure (h _ ⟨(hs2.2 _ (Ne.symm I.ne)).trans I.obj,hn2,I.ne⟩ hs2)
theorem zU{R:Result->Shared->Prop}{vs:List Value}{kw:List (Str×Value)}(X:K.In s.heap)(hm:PySem.W.makesIn K C=true)
  (hi:Z1 K (.ref C) "__init__" = some (some (.ref f))) (hf:PySem.W.typeIn K (.ref f)=some (.type "function"))
  (h:codeAny (model prog w) (A.under (.builtin "type.__call__" ⟨.ref C::vs,kw⟩)) (.call (.ref f) ⟨.ref (s.heap.objs.size+1)::vs,kw⟩) (PySem.W.InitBack (s.heap.objs.size+1) R)
   { s with heap:=(s.heap.push W5).push (W8 C s.heap.objs.size) }) :
  codeAny (model prog w) A (.call (.ref C) ⟨vs,kw⟩) R s:=by
 exact PySem.W.make_core (PySem.W.makes_of X hm) (PySem.W.looks_findIn X hi) (λself=>PySem.W.bind_fn X self hf) (.inl rfl) h
end
noncomputable def io(f:Str)(v:V):List (Str×V)->List (Str×V)
 | []=>[(f,v)]
 | (g,x)::r=>if g=f then (g,v)::r else (g,x)::io f v r
theorem mK(f g:Str)(v:V):∀fs:List (Str×V),(io f v fs).lookup g=if g=f then some v else fs.lookup g
 | []=>by
  show List.lookup g [(f,v)]=_
  grind
 | (k,x)::r=>by
  have ih:=mK f g v r
  rw[show io f v ((k,x)::r)=(if k=f then (k,v)::r else (k,x)::io f v r) from rfl]
  grind
theorem mz(f:Str)(v:V):∀fs:List (Str×V),f∈(io f v fs).map (·.1)/\∀g,g∈fs.map (·.1)->g∈(io f v fs).map (·.1)
 | []=>⟨by simp [io],λg h=>by simp at h⟩
 | (k,x)::r=>by
  obtain⟨i1,i2⟩:=mz f v r
  rw[show io f v ((k,x)::r)=(if k=f then (k,v)::r else (k,x)::io f v r) from rfl]
  grind
theorem mL(f:Str)(v:V):∀fs:List (Str×V),(io f v fs).length<=fs.length+1
 | []=>by simp [io]
 | (k,x)::r=>by
  have ih:=mL f v r
  rw[show io f v ((k,x)::r)=(if k=f then (k,v)::r else (k,x)::io f v r) from rfl]
  grind
theorem kj.some_of(r:kj (some v) o):∃u,o=some u/\bm v u:=by
 cases o with
 | none=>exact(show False from r).elim
 | some u=>exact⟨u,rfl,r⟩
theorem kj.none_of(r:kj none o):o=none:=by
 cases o with
 | none=>rfl
 | some u=>exact(show False from r).elim
theorem xC(r:bm v u):PySem.W.handedIn u=true:=by
 cases v with
 | non=>cases (show u=Value.none from r);rfl
 | bl b=>cases (show u=Value.bool b from r);rfl
 | int i=>obtain⟨t,e⟩:=(show ∃t,u=Value.int i t from r);cases e;rfl
 | str x=>obtain⟨t,e⟩:=(show ∃t,u=Value.str x t from r);cases e;rfl
 | byt b=>obtain⟨t,e⟩:=(show ∃t,u=Value.bytes b t from r);cases e;rfl
 | flt b=>obtain⟨t,e⟩:=(show ∃t,u=Value.float b t from r);cases e;rfl
 | ref a=>cases (show u=Value.ref a from r);rfl
 | ty n=>cases (show u=Value.type n from r);rfl
section
theorem rG(hok:HOk P w H h)(e:H a=some (.ins C dx fs)):∃mA,ObjM h a dx C mA/\(∀f,kj (fs.lookup f) (mA f))/\PySem.Within mA (fs.map (·.1))/\fs.length<=1000/\H dx=some (.own a):=by
 obtain⟨d,z,ne,ob,mA,n,r,q⟩:=(show cK P w H h a (.ins C dx fs) from hok a _ e)
 exact⟨mA,⟨ob,n,ne⟩,r,q,z,d⟩
end
structure Cls(K:ε)(C:Addr):Prop where
 pg:T8 K C Str.empty=true
 hd:PySem.W.hasDictIn K C=true
 po:PySem.W.plainOver K C=true
 sa:Z1 K (.ref C) "__setattr__" = some (some (.builtin "object.__setattr__"))
theorem Cls.get{K:ε}{C:Addr}(c:Cls K C)(f:Str):T8 K C f=true:=c.pg
def jg(K:ε)(C:Addr)(f:Str):Prop:=Z1 K (.ref C) f=some none
theorem jg.taker{K:ε}{C:Addr}{f:Str}(n:jg K C f):PySem.W.takerIn K C f=some none:=by
 unfold PySem.W.takerIn
 rw[show Z1 K (.ref C) f=some none from n]
 rfl
structure Meth(K:ε)(C:Addr)(m:Str)(f:Addr):Prop where
 at_:Z1 K (.ref C) m=some (some (.ref f))
 fn:PySem.W.isFn K (.ref f)=true
 kp:Y7 K (.ref f)=true
section
theorem uR(I:`DX)(e:H a=some (.ins C dx fs))(c:Cls X.K C)(n:jg X.K C f)(l:fs.lookup f=some v)
  (h:∀u s',Inv X pins σ H s'->bm v u->Q u s'):wpAny `DW A (getAttr (.ref a) f b) Q E s:=by
 obtain⟨mA,O,r,_,_,_⟩:=rG I.hok e
 obtain⟨u,hu,ru⟩:=kj.some_of (v:=v) (o:=mA f) (by rw[<-l];exact r f)
 exact Di I.kIn O (c.get f) c.hd n hu (xC ru) (h u _ (I.tok _) ru)
theorem oW(I:`DX)(e:H a=some (.ins C dx fs))(c:Cls X.K C)(k:Meth X.K C m g)(l:fs.lookup m=none)
  (h:Q (.ref g,[.ref a]) s):wpAny `DW A (getMethod (.ref a) m pl) Q E s:=by
 obtain⟨mA,O,r,_,_,_⟩:=rG I.hok e
 have hn:mA m=none:=kj.none_of (by grind)
 exact At I.kIn O (c.get m) k.at_ k.fn hn h
theorem um(I:`DX)(e:H a=some (.ins C dx fs))(c:Cls X.K C)(n:jg X.K C f)(hl:fs.length<1000)(ry:bm y u)
  (h:∀s',Inv X pins σ (upd H a (.ins C dx (io f y fs))) s'->Q () s'):wpAny `DW A (setAttr (.ref a) f u) Q E s:=by
 obtain⟨mA,O,r,wi,_,ho⟩:=rG I.hok e
 have hz:(fs.map (·.1)).length<=sizeLine:=by rw[ς,sizeLine_eq];omega
 refine BK I.kIn O c.sa c.po n.taker c.hd wi hz λh' O' sb=>h _ ?_
 have hd:∃o,h'.get? dx=some o:=let ⟨o,_,_,e',_⟩:=O'.ns;⟨o,e'⟩
 refine I.write (by rw[e];exact True.intro) (.inr ho) (λb q hb z=>(sb.2 b hb).trans z) hd ?_
 refine⟨by rw[upd_ne O.ne];exact ho,?_,O.ne,O'.obj,_,O'.ns,λg=>?_,λg hg=>?_⟩
 ·have:=mL f y fs;omega
 ·rw[mK]
  by_cases q:g=f
  ·rw[if_pos q,if_pos q];exact ry
  simp_all
 ·by_cases q:g=f
  ·rw[q];exact(mz f y fs).1
  ·refine(mz f y fs).2 g (wi g λz=>hg ?_)
   simp_all
theorem Inv.made(I:`DX):Inv X pins σ (upd (upd H s.heap.objs.size (.own (s.heap.objs.size+1))) (s.heap.objs.size+1) (.ins C s.heap.objs.size []))
  { s with heap:=(s.heap.push W5).push (W8 C s.heap.objs.size) }:=by
 have e1:(s.heap.push W5).get? s.heap.objs.size=some W5:=Heap.get?_push_size s.heap rfl
 have e2:((s.heap.push W5).push (W8 C s.heap.objs.size)).get? (s.heap.objs.size+1)=some (W8 C s.heap.objs.size):=by
  have:=Heap.get?_push_size (s.heap.push W5) (o:=W8 C s.heap.objs.size) rfl
  simp_all
 have e3:(s.heap.push W5).Ns s.heap.objs.size (λ_=>none):=⟨W5,#[],_,e1,rfl,(λe he=>absurd he (by simp)),λ_=>rfl⟩
 have I1:=I.laid (o:=.own (s.heap.objs.size+1)) (t':=s.toks) (λb u q=>Heap.get?_push_of_some _ q) (ξ _) ⟨_,e1⟩
 refine I1.laid (λb u q=>Heap.get?_push_of_some _ q) (Nat.le_of_eq (Heap.size_push _ _)) ?_
 have ne:s.heap.objs.size≠s.heap.objs.size+1:=Z4 (Nat.lt_succ_self _)
 refine⟨by rw[upd_ne ne,aA],Y5 _,ne,e2,λ_=>none,(Heap.Ns1.of_empty e3).at λo q=>Heap.get?_push_of_some _ q,λ_=>True.intro,λy hy=>absurd rfl hy⟩
theorem DP(hb:attributeBase e f env (eval e env)=eval e env)
  (h:wpAny (model prog w) A (eval e env) (λo s₁=>wpAny (model prog w) A (getAttr o f true) Q E s₁) E s):wpAny (model prog w) A (eval (.Attribute e f pos) env) Q E s :=
 Attribute_any_ h (by rw[arm_eval_Attribute,hb])
end
noncomputable def tFld(K:ε)(ta:TE)(f:Str):TE:=λσ H Q=>ta σ H λx H1=>∃a C dx fs v,x=.ref a/\H1 a=some (.ins C dx fs)/\Cls K C/\jg K C f/\fs.lookup f=some v/\Q v H1
noncomputable def sFld(K:ε)(ta tv:TE)(f:Str):TS:=λD σ H=>tv σ H λy H1=>ta σ H1 λx H2=>∃a C dx fs,x=.ref a/\H2 a=some (.ins C dx fs)/\Cls K C/\jg K C f/\fs.length<1000 /\
 D.nx σ (upd H2 a (.ins C dx (io f y fs)))
section
theorem zc(he:PE X e ta)(hb:attributeBase e f X.env (eval e X.env)=eval e X.env):PE X (.Attribute e f pos) (tFld X.K ta f):=by
 intro pins s σ H Q I h
 refine DP hb (thn (he pins s σ H _ I h) λu s1 z0=>?_)
 obtain⟨x,H1,I1,rx,a,C,dx,fs,v,ex,ea,c,n,l,q⟩:=z0
 subst ex
 obtain rfl:u=Value.ref a:=rx
 exact uR I1 ea c n l λu' s2 I2 ru=>⟨v,H1,I2,ru,q⟩
theorem ps_fld(ha:PE X o ta)(hv:PE X value tv)(hs:swapsWith value (some (.Attribute o f pos')) pos.line X.env=pure false):PS X (.Assign [.Attribute o f pos'] value pos) (sFld X.K ta tv f):=by
 intro pins s σ H D I h
 refine plainObj_wpAny_Assign_Attribute (thn (hv pins s σ H _ I h) λu s1 z0=>?_) hs
 obtain⟨y,H1,I1,ry,q⟩:=z0
 refine thn (ha pins s1 σ H1 _ I1 q) λov s2 z1=>?_
 obtain⟨x,H2,I2,rx,a,C,dx,fs,ex,ea,c,n,l,q2⟩:=z1
 subst ex
 obtain rfl:ov=Value.ref a:=rx
 exact um I2 ea c n l ry λs3 I3=>⟨σ,_,I3,q2⟩
end
section
end
end L2
namespace L2
open PyProof.Rows
structure Room(k:Nat)(A:Around):Prop where
 hd:A.handled=none
 dp:A.depth+3*k+5<recursionLimit
 un:A.units+16*k+200<cLine
theorem Room.mono(r:Room k A)(h:j<=k):Room j A:=⟨r.hd,by have:=r.dp;omega,by have:=r.un;omega⟩
theorem Room.deeper(r:Room (k+1) A)(env:Env):Room k (A.deeper env) :=
 ⟨r.hd,by have:=r.dp;show A.depth+1+3*k+5<_;omega,by have:=r.un;show A.units+3+16*k+200<_;omega⟩
theorem uM{A:Around}{C:Addr}{us:List Value}{kw:List (Str×Value)}:(A.under (.builtin "type.__call__" ⟨.ref C::us,kw⟩)).depth=A.depth+1:=by
 rfl
theorem uL{A:Around}{C:Addr}{us:List Value}{kw:List (Str×Value)}:(A.under (.builtin "type.__call__" ⟨.ref C::us,kw⟩)).units=A.units+1:=by
 rfl
theorem Room.make(r:Room (k+1) A)(C:Addr)(us:List Value)(kw:List (Str×Value)):Room k (A.under (.builtin "type.__call__" ⟨.ref C::us,kw⟩)) :=
 ⟨r.hd,by have:=r.dp;rw[uM];omega,by have:=r.un;rw[uL];omega⟩
theorem Room.depth(r:Room k A):A.depth<recursionLimit:=by have:=r.dp;omega
theorem Room.units(r:Room k A):A.units+64<cLine:=by have:=r.un;omega
noncomputable def tNil:TA:=λ_ H Q=>Q [] H
noncomputable def tCons(ta:TE)(tr:TA):TA:=λσ H Q=>ta σ H λx H1=>tr σ H1 λxs H2=>Q (x::xs) H2
section
theorem iS:PA X [] tNil:=λ_ _ _ _ H Q I h=>Calls.spliced_nil ⟨[],H,I,.nil,h⟩
theorem e8(ha:PE X e te)(hr:PA X es t)(hs:`we:=by rfl):PA X (e::es) (tCons te t):=by
 intro pos pins s σ H Q I h
 rw[hs]
 refine Calls.spliced_cons (thn (ha pins s σ H _ I h) λu s1 z0=>?_)
 obtain⟨x,H1,I1,r1,q1⟩:=z0
 refine thn (hr pos pins s1 σ H1 _ I1 q1) λus s2 z1=>?_
 obtain⟨xs,H2,I2,r2,q2⟩:=z1
 exact⟨x::xs,H2,I2,.cons r1 r2,q2⟩
noncomputable def tTup(t:TA):TE:=λσ H Q=>t σ H λxs H1=>xs.length<=sizeLine/\∀p,H1 p=none->Q (.ref p) (upd H1 p (.tup xs))
noncomputable def tLst(t:TA):TE:=λσ H Q=>t σ H λxs H1=>xs.length<=sizeLine/\∀p,H1 p=none->Q (.ref p) (upd H1 p (.lst xs))
theorem pe_tup{x1}(h:PA X es t):PE X (.Tuple es x1 pos) (tTup t):=by
 intro pins s σ H Q I hq
 refine wpAny_Tuple_spliced (thn (h pos pins s σ H _ I hq) λus s1 ⟨xs,H1,I1,r,z,q⟩=>⟨by rw[<-r.length];exact z,?_⟩)
 have hf:= I1.hok.fresh (ξ _)
 refine⟨.ref s1.heap.objs.size,upd H1 s1.heap.objs.size (.tup xs),I1.laid (λb u e=>Heap.get?_push_of_some _ e) (ξ _) ?_,rfl,q _ hf⟩
 exact⟨z,us,r,⟨_,Heap.get?_push_size _ rfl,rfl,_,rfl⟩⟩
theorem uz(h:PA X es t):PE X (.List es pos) (tLst t):=by
 intro pins s σ H Q I hq
 refine wpAny_List_spliced (thn (h pos pins s σ H _ I hq) λus s1 ⟨xs,H1,I1,r,z,q⟩=>⟨by rw[<-r.length];exact z,?_⟩)
 have hf:= I1.hok.fresh (ξ _)
 refine⟨.ref s1.heap.objs.size,upd H1 s1.heap.objs.size (.lst xs),I1.laid (λb u e=>Heap.get?_push_of_some _ e) (ξ _) ?_,rfl,q _ hf⟩
 exact⟨z,us,0,r,Heap.get?_push_size _ rfl⟩
end
abbrev Sp:=List V->Hp->VK->XK->Prop
abbrev CXT:=List Env->Hp->Shared->XK->Value->Shared->Prop
structure Env0(P:Program)(w:World)(K:ε)(mg:Str->Option Value)(base:Heap)(A:Around)(outer:List Env)(s:Shared)(H:Hp):Prop where
 frames:A.frames=some outer
 mod:Mod K mg base
 bs:∀b o,base.get? b=some o->s.heap.get? b=some o/\H b=none
 bsz:base.objs.size<=s.heap.objs.size
 funs:s.heap.FunFrames base outer
 frf:∀b∈frs outer,H b=none
 hok:HOk P w H s.heap
 bare:AllBare s.gens
def CE(outer:List Env)(P:Program)(w:World)(H:Hp)(s:Shared)(Q:VK)(u:Value)(s':Shared):Prop :=
 ∃v H',s'.os=s.os/\AllBare s'.gens/\Un (frs outer) [] H H' s.heap s'.heap/\HOk P w H' s'.heap/\bm v u/\Q v H'
def CR(CX:CXT)(outer:List Env)(P:Program)(w:World)(H:Hp)(s:Shared)(Q:VK)(E:XK)(r:Result)(s':Shared):Prop :=
 match r with
 | .ok (.ret u)=>CE outer P w H s Q u s'
 | .ok _=>False
 | .error e=>CX outer H s E e s'
structure FnOk(P:Program)(w:World)(K:ε)(mg:Str->Option Value)(base:Heap)(CX:CXT)(k:Nat)(f:Addr)(fd:FuncData)(ps:List Str)(sp:Sp):Prop where
 len:∀vs H Q E,sp vs H Q E->vs.length=ps.length
 run:∀(A:Around) (outer:List Env) (s:Shared) (H:Hp) (args:Args) (us:List Value) (vs:List V) (Q:VK) (E:XK),Room k A->Env0 P w K mg base A outer s H->BindsTo s fd args (ps.zip us)->aM vs us->sp vs H Q E ->
  codeAny (model P w) A (.call (.ref f) args) (CR CX outer P w H s Q E) s
theorem FnOk.imp{P:Program}{w:World}{K:ε}{mg:Str->Option Value}{base:Heap}{CX:CXT}{k:Nat}{f:Addr}{fd:FuncData}{ps:List Str}{sp sp':Sp}(F:FnOk P w K mg base CX k f fd ps sp)
  (h:∀vs H Q E,sp' vs H Q E->sp vs H Q E):FnOk P w K mg base CX k f fd ps sp' :=
 ⟨λvs H Q E q=>F.len vs H Q E (h _ _ _ _ q),λA outer s H args us vs Q E hr he hb hv hs=>F.run A outer s H args us vs Q E hr he hb hv (h _ _ _ _ hs)⟩
theorem Env0.make{P:Program}{w:World}{K:ε}{mg:Str->Option Value}{base:Heap}{A:Around}{outer:List Env}{s:Shared}{H:Hp}(e:Env0 P w K mg base A outer s H)(C:Addr)(us:List Value)(kw:List (Str×Value)) :
  Env0 P w K mg base (A.under (.builtin "type.__call__" ⟨.ref C::us,kw⟩)) outer s H:=⟨by first | exact e.frames | (simpa [Around.under,Code.envs,Code.isFrame,pushEnvs] using e.frames),e.mod,e.bs,e.bsz,e.funs,e.frf,e.hok,e.bare⟩
section
theorem Inv.env0(I:`DX):Env0 X.prog X.w X.K X.mg X.base X.A X.stack s H :=
 ⟨I.ok.frames,I.ok.mod,I.bs,X8 I.ok.bsz I.sz,I.stack,I.stkFree,I.hok,I.bare⟩
theorem Inv.after(I:`DX)(h:CE X.stack X.prog X.w H s Q u s'):EP X pins σ Q u s':=by
 obtain⟨v,H',os,bare,un,hok,r,q⟩:=h
 obtain⟨hh,g,d,t,os'⟩:=s'
 obtain rfl:os'=s.os:=os
 exact⟨v,H',I.call un hok bare (λb z=>absurd z (by simp)),r,q⟩
end
noncomputable def tCall(sp:Sp)(dvs:List V)(E:XK)(t:TA):TE:=λσ H Q=>t σ H λvs H1=>sp (vs++dvs) H1 Q E
noncomputable def tMeth(C:Addr)(m:Str)(sp:Sp)(dvs:List V)(E:XK)(ta:TE)(t:TA):TE:=λσ H Q=>ta σ H λx H1=>∃a dx fs,x=.ref a/\H1 a=some (.ins C dx fs)/\fs.lookup m=none /\
 t σ H1 λvs H2=>sp (x::(vs++dvs)) H2 Q E
noncomputable def tMake(C:Addr)(sp:Sp)(dvs:List V)(E:XK)(t:TA):TE:=λσ H Q=>t σ H λvs H1=>∀x dx,H1 x=none->H1 dx=none->dx≠x ->
 sp (.ref x::(vs++dvs)) (upd (upd H1 dx (.own x)) x (.ins C dx [])) (λv H2=>v=.non/\Q (.ref x) H2) E
def cM(K:ε)(fd:FuncData)(ps:List Str)(ds:List Value):Prop :=
 ∀(s:Shared) (us:List Value),K.In s.heap->(us++ds).length=ps.length->BindsTo s fd ⟨us,[]⟩ (ps.zip (us++ds))
theorem cM.all{K:ε}{fd:FuncData}{ps:List Str}(h:∀us:List Value,us.length=ps.length->bindArgs fd ⟨us,[]⟩=pure (ps.zip us)):cM K fd ps []:=λs us _ hl=>by
 rw[Z3] at hl ⊢
 exact .of_eq (h us hl)
def k6(CX:CXT)(X:Cx)(E:XK):Prop:=∀(pins:List (Addr×Obj)) (σ:St) (H:Hp) (s:Shared) (e:Value) (s':Shared),Inv X pins σ H s->CX X.stack H s E e s'->X.xe e s'
section
theorem uo(F:FnOk X.prog X.w X.K X.mg X.base CX k f fd ps sp)(hr:Room k X.A)(hb:cM X.K fd ps ds)(hd:aM dvs ds)(hx:k6 CX X E)
  (I:`DX) (r:aM vs us) (h:sp (vs++dvs) H Q E):wpAny `DW X.A (call (.ref f) us) (EP X pins σ Q) X.xe s:=by
 have r2:= r.append hd
 have hl:(us++ds).length=ps.length:=by rw[<-r2.length];exact F.len _ _ _ _ h
 refine wpAny_call (codeAny_mono (F.run X.A X.stack s H ⟨us,[]⟩ (us++ds) (vs++dvs) Q E hr I.env0 (hb s us I.kIn hl) r2 h) λr s' hq=>?_)
 cases r with
 | error e=>exact hx pins σ H s e s' I hq
 | ok fl =>
  cases fl with
  | ret u=>exact I.after hq
  | next=>assumption
  | brk=>assumption
  | cont=>assumption
theorem nz(F:FnOk X.prog X.w X.K X.mg X.base CX k f fd ps sp)(hr:Room k X.A)(hg:Gl X x)(hm:X.mg x=some (.ref f))(hk:Y7 X.K (.ref f)=true)(hb:cM X.K fd ps ds)(hd:aM dvs ds)(hx:k6 CX X E)
  (ha:PA X (e::es) t) (hdb:(x==("__debug__" : Str))=false:=by decide) (he:`we:=by rfl) (hpl:(backTo pos (starEach es X.env)).any (·.1)=false:=by rfl) :
  PE X (.Call (.Name x p) (e::es) [] pos) (tCall sp dvs E t):=by
 intro pins s σ H Q I h
 refine wpAny_Call_Name_kw (rA I hg hm ?_ hdb)
 refine PySem.W.callWith_K (h₀:=X.base) I.ok.mod.kin hk (thn (ha pos pins s σ H _ I h) λus s1 z0=>?_) he hpl
 obtain⟨vs,H1,I1,r,q⟩:=z0
 refine⟨I1.kIn,?_⟩
 exact uo F hr hb hd hx I1 r q
theorem qU(he:PE X o ta)(c:Cls X.K C)(hm:Meth X.K C m f)(F:FnOk X.prog X.w X.K X.mg X.base CX k f fd ps sp)(hr:Room k X.A)(hb:cM X.K fd ps ds)(hd:aM dvs ds)(hx:k6 CX X E)(ha:PA X (e::es) t)
  (hst:`we:=by rfl) (hpl:(backTo pos (starEach es X.env)).any (·.1)=false:=by rfl)
  (ht:eval (.Call (.Attribute o m apos) (e::es) [] pos) X.env=(do
   let ov <- eval o X.env
   standAt apos.atName
   let (f,first) <- holding [ov] (getMethod ov m pl)
   callWith pos f first (backTo pos (starEach (e::es) X.env)) (backToKw pos (keywordEach [] X.env))):=by rfl) :
  PE X (.Call (.Attribute o m apos) (e::es) [] pos) (tMeth C m sp dvs E ta t):=by
 intro pins s σ H Q I h
 refine PySem.W.methodCall_KW (thn (he pins s σ H _ I h) λu s1 z0=>?_) ht
 obtain⟨x,H1,I1,rx,a,dx,fs,ex,ea,l,q⟩:=z0
 subst ex
 obtain rfl:u=Value.ref a:=rx
 refine oW I1 ea c hm l ?_
 refine PySem.W.callWith_K (h₀:=X.base) I.ok.mod.kin hm.kp (thn (ha pos pins s1 σ H1 _ I1 q) λus s2 z1=>?_) hst hpl
 obtain⟨vs,H2,I2,r,q2⟩:=z1
 refine⟨I2.kIn,?_⟩
 exact uo (vs:=.ref a::vs) F hr hb hd hx I2 (.cons rfl r) q2
theorem sN(he:PE X o ta)(c:Cls X.K C)(hm:Meth X.K C m f)(F:FnOk X.prog X.w X.K X.mg X.base CX k f fd ps sp)(hr:Room k X.A)(hb:cM X.K fd ps ds)(hd:aM dvs ds)(hx:k6 CX X E)
  (ht:eval (.Call (.Attribute o m apos) [] [] pos) X.env=(do
   let ov <- eval o X.env
   standAt apos.atName
   let (f,first) <- holding [ov] (getMethod ov m pl)
   callWith pos f first (backTo pos (starEach [] X.env)) (backToKw pos (keywordEach [] X.env))):=by rfl) :
  PE X (.Call (.Attribute o m apos) [] [] pos) (tMeth C m sp dvs E ta tNil):=by
 intro pins s σ H Q I h
 refine PySem.W.methodCall_KW (thn (he pins s σ H _ I h) λu s1 z0=>?_) ht
 obtain⟨x,H1,I1,rx,a,dx,fs,ex,ea,l,q⟩:=z0
 subst ex
 obtain rfl:u=Value.ref a:=rx
 refine oW I1 ea c hm l ?_
 exact PySem.W.callWith_K0 I1.kIn hm.kp (uo (vs:=[.ref a]) F hr hb hd hx I1 (.cons rfl .nil) q)
structure Mk(K:ε)(C f:Addr):Prop where
 makes:PySem.W.makesIn K C=true
 init:Z1 K (.ref C) "__init__" = some (some (.ref f))
 fn:PySem.W.isFn K (.ref f)=true
 kp:Y7 K (.ref C)=true
theorem yI(M:Mk X.K C f)(F:FnOk X.prog X.w X.K X.mg X.base CX k f fd ps sp)(hr:Room (k+1) X.A)(hb:cM X.K fd ps ds)(hd:aM dvs ds)
  (hx:k6 CX X E) (I:`DX) (r:aM vs us)
  (h:∀x dx,H x=none->H dx=none->dx≠x->sp (.ref x::(vs++dvs)) (upd (upd H dx (.own x)) x (.ins C dx [])) (λv H2=>v=.non/\Q (.ref x) H2) E) :
  wpAny `DW X.A (call (.ref C) us) (EP X pins σ Q) X.xe s:=by
 have hq:=h (s.heap.objs.size+1) s.heap.objs.size (I.hok.fresh (Nat.le_succ _)) (I.hok.fresh (ξ _)) (Z4 (Nat.lt_succ_self _))
 have I2:=Inv.made (C:=C) I
 have r2:aM (V.ref (s.heap.objs.size+1)::(vs++dvs)) (Value.ref (s.heap.objs.size+1)::(us++ds)):=.cons rfl (r.append hd)
 have hl:(Value.ref (s.heap.objs.size+1)::us++ds).length=ps.length:=by
  have e:=r2.length
  rw[F.len _ _ _ _ hq] at e
  simp_all
 refine wpAny_call (zU (f:=f) I.kIn M.makes M.init (beq_iff_eq.mp M.fn) (codeAny_mono (F.run _ X.stack _ _ ⟨Value.ref (s.heap.objs.size+1)::us,[]⟩ (Value.ref (s.heap.objs.size+1)::(us++ds)) _ _ E (hr.make C us [])
  (I2.env0.make C us []) (hb _ (Value.ref (s.heap.objs.size+1)::us) I2.kIn hl) r2 hq) λr s' hq'=>?_))
 cases r with
 | error e=>exact hx pins σ _ _ e s' I2 hq'
 | ok fl =>
  cases fl with
  | ret u =>
   obtain⟨v,H',I3,rv,ev,q3⟩:=I2.after hq'
   subst ev
   exact⟨rv,⟨V.ref (s.heap.objs.size+1),H',I3,rfl,q3⟩⟩
  | next=>assumption
  | brk=>assumption
  | cont=>assumption
theorem Ca(M:Mk X.K C f)(F:FnOk X.prog X.w X.K X.mg X.base CX k f fd ps sp)(hr:Room (k+1) X.A)(hg:Gl X x)(hm:X.mg x=some (.ref C))(hb:cM X.K fd ps ds)(hd:aM dvs ds)(hx:k6 CX X E)
  (ha:PA X (e::es) t) (hdb:(x==("__debug__" : Str))=false:=by decide) (he:`we:=by rfl) (hpl:(backTo pos (starEach es X.env)).any (·.1)=false:=by rfl) :
  PE X (.Call (.Name x p) (e::es) [] pos) (tMake C sp dvs E t):=by
 intro pins s σ H Q I h
 refine wpAny_Call_Name_kw (rA I hg hm ?_ hdb)
 refine PySem.W.callWith_K (h₀:=X.base) I.ok.mod.kin M.kp (thn (ha pos pins s σ H _ I h) λus s1 z0=>?_) he hpl
 obtain⟨vs,H1,I1,r,q⟩:=z0
 refine⟨I1.kIn,?_⟩
 exact yI M F hr hb hd hx I1 r q
end
section
end
structure FnScope(N P:List Str)(sc:Scope):Prop where
 kind:sc.kind=.function
 co:sc.isCoroutine=false
 gen:sc.isGenerator=false
 nd:N.Nodup
 pre:N.take P.length=P
 par:∀x∈P,sc.names.lookup x=some .local\/sc.names.lookup x=some .cell
 nofree:∀y∈sc.names,y.2≠.free
theorem qB{kindOf:Str->Option NameKind}{x:Str}:∀{binds:List (Str×Value)} {m:Str->Option Value},(∀v,(x,v)∉binds)->bindL kindOf binds m x=m x
 | [],_,_=>rfl
 | (n,v)::r,m,h=>by
  unfold bindL
  rw[qB λw hw=>h w (θ _ hw)]
  split
  all_goals grind
theorem qD{kindOf:Str->Option NameKind}{x:Str}:∀{binds:List (Str×Value)} {m:Str->Option Value},(∀v,(x,v)∉binds)->bindC kindOf binds m x=m x
 | [],_,_=>rfl
 | (n,v)::r,m,h=>by
  unfold bindC
  rw[qD λw hw=>h w (θ _ hw)]
  split
  all_goals grind
theorem qC{kindOf:Str->Option NameKind}{x:Str}{v:Value}:∀{P:List Str} {vs:List Value} {i:Nat} {m:Str->Option Value},P.Nodup->P[i]?=some x->vs[i]?=some v->kindOf x=some .local ->
  bindL kindOf (P.zip vs) m x=some v
 | [],_,_,_,_,h,_,_=>by simp at h
 | _::_,[],_,_,_,_,h,_=>by simp at h
 | p::P,w::vs,0,m,nd,h1,h2,hk=>by
  simp at h1 h2;subst h1;subst h2
  show bindL kindOf ((p,w)::P.zip vs) m p=_
  unfold bindL
  rw[qB λv hv=>(X0.mp nd).1 (List.of_mem_zip hv).1,if_pos hk]
  simp
 | p::P,w::vs,i+1,m,nd,h1,h2,hk=>by
  show bindL kindOf ((p,w)::P.zip vs) m x=_
  unfold bindL
  exact qC (i:=i) (X0.mp nd).2 (by assumption) (by assumption) hk
theorem qE{kindOf:Str->Option NameKind}{x:Str}{v:Value}:∀{P:List Str} {vs:List Value} {i:Nat} {m:Str->Option Value},P.Nodup->P[i]?=some x->vs[i]?=some v->kindOf x≠some .local ->
  bindC kindOf (P.zip vs) m x=some v
 | [],_,_,_,_,h,_,_=>by simp at h
 | _::_,[],_,_,_,_,h,_=>by simp at h
 | p::P,w::vs,0,m,nd,h1,h2,hk=>by
  simp at h1 h2;subst h1;subst h2
  show bindC kindOf ((p,w)::P.zip vs) m p=_
  unfold bindC
  rw[qD λv hv=>(X0.mp nd).1 (List.of_mem_zip hv).1,if_neg hk]
  simp
 | p::P,w::vs,i+1,m,nd,h1,h2,hk=>by
  show bindC kindOf ((p,w)::P.zip vs) m x=_
  unfold bindC
  exact qE (i:=i) (X0.mp nd).2 (by assumption) (by assumption) hk
noncomputable def start(N:List Str)(vs:List V):St:=vs.map some++χ (N.length-vs.length) none
noncomputable def kX(CX:CXT)(P:Program)(w:World)(K:ε)(mg:Str->Option Value)(base:Heap)(N:List Str)(qual:Str)(scope:Scope)(f:Addr)(cd:Value)(A:Around)(outer:List Env)(s:Shared)(H:Hp)(E:XK):Cx where
 prog:=P
 w:=w
 K:=K
 mg:=mg
 base:=base
 A:=A.deeper (envOfC qual scope s.heap.objs.size f cd)
 N:=N
 s₀:=s
 H₀:=H
 env:=envOfC qual scope s.heap.objs.size f cd
 outer:=outer
 stack:=envOfC qual scope s.heap.objs.size f cd::outer
 ex:=[]
 calm:=true
 fn:=λ_=>true
 pn:=[]
 xe:=λe s'=>wpAny (model P w) (A.deeper (envOfC qual scope s.heap.objs.size f cd)) (leaving (envOfC qual scope s.heap.objs.size f cd) e) (λ_ s''=>CX outer H s E e s'') (λe' s''=>CX outer H s E e' s'') s'
theorem t9{sc:Scope}{n:Nat}{x:Str}(h:sc.names.lookup x=some .cell):∃c,(cellsFrom n sc.names []).lookup x=some c:=by
 have q:=PySem.W.cellsFrom_some sc.names n [] (.inl h)
 exact Option.isSome_iff_exists.mp q
theorem xA{CX:CXT}{P:Program}{w:World}{K:ε}{mg:Str->Option Value}{base:Heap}{N ps:List Str}{qual:Str}{scope:Scope}{f:Addr}{cd:Value}{A:Around}{outer:List Env}{s s1:Shared}{H:Hp}{E:XK}{us:List Value}{vs:List V}
  (S:FnScope N ps scope) (hd:A.handled=none) (e0:Env0 P w K mg base A outer s H) (hl:vs.length=ps.length) (r:aM vs us)
  (x:InCallC s s.heap.objs.size (bindL (envOfC qual scope s.heap.objs.size f cd).kindOf (ps.zip us) λ_=>none) (cellsFrom (s.heap.objs.size+1) scope.names []) (bindC (envOfC qual scope s.heap.objs.size f cd).kindOf (ps.zip us) λ_=>none) s1) :
  Inv (kX CX P w K mg base N qual scope f cd A outer s H E) [] (start N vs) H s1:=by
 have hpl:ps.length<=N.length:=by have:=congrArg V5 S.pre;grind
 obtain⟨h1,tk,rfl,hk⟩:=x.done
 have noA:∀b:Addr,b∉(kX CX P w K mg base N qual scope f cd A outer s H E).ex:=λb z=>absurd (show b∈([]:List Addr) from z) (by simp)
 refine⟨⟨e0.mod,S.kind,rfl,rfl,ξ _,λy z c h1 h2=>?_,λy hy=>?_,λy c _ h=>?_,λ_=>hd,Around.frames_deeper e0.frames,.inr ⟨rfl,rfl⟩,λb z=>absurd z (noA b),e0.bs,e0.bsz,λb _ _=>noA b,λb z=>absurd z (noA b),e0.funs,e0.frf⟩,
  rfl,e0.bare,Un.kept hk,⟨_,x.toInCall.ns,λi y v h1 h2 h3=>?_⟩,λy c h=>⟨_,x.cell y c h⟩,e0.hok.fresh (ξ _),λy c h=>?_,λp hp=>absurd (show p∈([]:List (Addr×Obj)) from hp) (by simp),e0.hok.kept hk,?_⟩
 ·exact name_of_addr x.apart (PySem.mem_of_lookup h1) (PySem.mem_of_lookup h2)
 ·rcases hy with hy | hy
  ·exact t9 hy
  ·exact absurd rfl (S.nofree _ (PySem.mem_of_lookup hy))
 ·exact X5 (x.above y c (PySem.mem_of_lookup h))
 ·have hi:i<vs.length:=by
   unfold start at h2
   grind
  have ha:vs[i]?=some v:=by
   unfold start at h2
   grind
  obtain⟨u,hu,rv⟩:=r.get ha
  have hp:ps[i]?=some y:=by
   rw[<-S.pre,List.getElem?_take_of_lt `am];exact h1
  have ndP:ps.Nodup:=by rw[<-S.pre];exact S.nd.sublist (List.take_sublist _ _)
  refine⟨u,rv,?_⟩
  rcases S.par y (Z9 hp) with k | k
  ·exact .inl ⟨k,qC ndP hp hu k⟩
  ·obtain⟨c,e⟩:=t9 k
   refine .inr ⟨.inl k,c,e,?_⟩
   have q:=x.cell y c e
   rw[qE ndP hp hu (by show scope.names.lookup y≠_;simp_all)] at q
   exact q
 ·exact e0.hok.fresh (X5 (x.above y c (PySem.mem_of_lookup h)))
 ·unfold start
  show _=N.length
  simp_all
theorem fn_of{CX:CXT}{P:Program}{w:World}{K:ε}{mg:Str->Option Value}{base:Heap}{k:Nat}{f:Addr}{name qual:Str}{params:Arguments}{body:List Stmt}{scope:Scope}{dV kV doc pm cdv ct oc:Value}{an od:Option Addr}
  {osl:Array (Option Value)} {N ps:List Str} {sp:Sp} (lk:K.lookup f=some ⟨oc,od,.func (X6 name qual params body scope dV kV doc pm an cdv ct),osl⟩) (hcd:U1 K cdv qual=true) (S:FnScope N ps scope)
  (len:∀vs H Q E,sp vs H Q E->vs.length=ps.length)
  (hbody:∀(A:Around) (outer:List Env) (s:Shared) (H:Hp) (vs:List V) (Q:VK) (E:XK),Room k (A.deeper (envOfC qual scope s.heap.objs.size f cdv))->sp vs H Q E ->
   ∃t,PSs (kX CX P w K mg base N qual scope f cdv A outer s H E) body t/\t { nx:=λ_ H'=>Q .non H',rt:=Q } (start N vs) H) :
  FnOk P w K mg base CX (k+1) f (X6 name qual params body scope dV kV doc pm an cdv ct) ps sp:=by
 refine⟨len,λA outer s H args us vs Q E hr e0 hb r hsp=>?_⟩
 have hl:=len _ _ _ _ hsp
 have KX:= e0.mod.kin.keeps λb o e=>(e0.bs b o e).1
 have lim:= e0.mod.nolimit.keeps λb o e=>(e0.bs b o e).1
 have hkind:∀y∈ps.zip us,scope.names.lookup y.1=some .local\/(scope.names.lookup y.1=some .cell/\((cellsFrom (s.heap.objs.size+1) scope.names []).lookup y.1).isSome=true):=λ⟨n,v⟩ hy=>by
  rcases S.par n (List.of_mem_zip hy).1 with q | q
  ·simp_all
  ·exact .inr ⟨q,PySem.W.cellsFrom_some _ _ _ (.inl q)⟩
 refine codeAny_call_function hr.depth (KX _ _ lk) rfl S.co S.gen rfl (PySem.W.codeRec_of KX hcd) (hb _ _ _ _ ?_)
 refine wpAny_newFunctionEnv_cells S.kind hkind λenv he s1 x=>?_
 subst he
 refine⟨lim.keeps x.toInCall.keep,codeAny_func ?_⟩
 obtain⟨t,ht,hq⟩:=hbody A outer s H vs Q E (hr.deeper _) hsp
 have I:Inv (kX CX P w K mg base N qual scope f cdv A outer s H E) [] (start N vs) H s1:=xA S hr.hd e0 hl r x
 refine wpAny_mono (ht [] s1 (start N vs) H _ I hq) (λfl s' hs=>?_) λe s' hs=>hs
 have fin:∀{σ':St} {H':Hp} {v:V} {u:Value},Inv (kX CX P w K mg base N qual scope f cdv A outer s H E) [] σ' H' s'->bm v u->Q v H'->CE outer P w H s Q u s' :=
  λ{σ' H' v u} J rv q=>⟨v,H',J.os,J.bare,J.base,J.hok,rv,q⟩
 cases fl with
 | ret u =>
  obtain⟨v,σ',H',J,rv,q⟩:=hs
  exact fin J rv q
 | next =>
  obtain⟨σ',H',J,q⟩:=hs
  exact fin (v:=V.non) J rfl q
 | brk =>
  obtain⟨_,_,_,q⟩:=hs
  simp_all
 | cont =>
  obtain⟨_,_,_,q⟩:=hs
  simp_all
end L2
namespace L2
open PyProof.Rows
section
variable{X:Cx}{x:Str}{p pos:Pos}{e:Expr}{es:List Expr}{t:TA}{id T:String}{r:List V->Hp->VK->Prop}
def tCB(r:List V->Hp->VK->Prop)(t:TA):TE:=λσ H Q=>t σ H λvs H1=>r vs H1 Q
theorem sO(hc:fQ X (.builtin id) r)(hg:Gl X x)(hm:X.mg x=none)(hv:bootBuiltins x=some (.builtin id))(ha:PA X (e::es) t)(hn:x ≠ "__name__" := by decide)(hdb:(x==("__debug__" : Str))=false:=by decide)
  (he:`we:=by rfl) (hpl:(backTo pos (starEach es X.env)).any (·.1)=false:=by rfl):PE X (.Call (.Name x p) (e::es) [] pos) (tCB r t):=by
 intro pins s σ H Q I h
 refine wpAny_Call_Name_kw (iW I hg hm hv ?_ hn hdb)
 refine PyProof.Rows.callWith_builtin1 (thn (ha pos pins s σ H _ I h) λus s1 z0=>?_) he hpl
 obtain⟨vs,H1,I1,r1,q1⟩:=z0
 exact hc pins s1 σ H1 vs us Q I1 r1 q1
theorem p6(hc:fQ X (.type T) r)(hg:Gl X x)(hm:X.mg x=none)(hv:bootBuiltins x=some (.type T))(ha:PA X (e::es) t)(hn:x ≠ "__name__" := by decide)(hdb:(x==("__debug__" : Str))=false:=by decide)
  (he:`we:=by rfl) (hpl:(backTo pos (starEach es X.env)).any (·.1)=false:=by rfl):PE X (.Call (.Name x p) (e::es) [] pos) (tCB r t):=by
 intro pins s σ H Q I h
 refine wpAny_Call_Name_kw (iW I hg hm hv ?_ hn hdb)
 refine PyProof.Rows.callWith_type1 (thn (ha pos pins s σ H _ I h) λus s1 z0=>?_) he hpl
 obtain⟨vs,H1,I1,r1,q1⟩:=z0
 exact hc pins s1 σ H1 vs us Q I1 r1 q1
end
end L2
namespace HT
open PyProof.Rows
section
open PySem.SeqAt
open PySem.AutoSeq1 (wpAny_loadPart')
open PySem.MeetsSeq PySem.MeetsSeq2 PySem.MeetsSeq3
end
section
variable{prog:Program}{w:World}{A:Around}{E:Value->Shared->Prop}{s:Shared}
theorem DN(ht:IsTup s.heap t vs.toArray)(hb:IsTup s.heap b ws.toArray)(hv:vs≠[])
  (h1:ws=[]->Q (.ref t) s) (h2:ws≠[]->Q (.ref s.heap.objs.size) { s with heap:=s.heap.push { cls:=.type "tuple",data:=.seq (vs++ws).toArray } })
  (hsz:vs.length+ws.length<=sizeLine):wpAny (model prog w) A (binaryOp .Add (.ref t) (.ref b)) Q E s:=by
 obtain⟨⟨cls,dd,data,sl⟩,ho,hc,n,hd⟩:=id ht
 obtain⟨⟨cls2,dd2,data2,sl2⟩,ho2,hc2,n2,hd2⟩:=id hb
 subst hc hd hc2 hd2
 have e:vs.toArray++ws.toArray=(vs++ws).toArray:=by simp
 by_cases hw:ws=[]
 ·exact concat_meets ⟨_,ho,rfl⟩ ⟨_,ho2,rfl⟩ noFill_tuple_add seq_tuple_add PySem.F.slot_tuple_add PySem.F.entry_tuple_add (PySem.F.args_tuple_add_2 _ _)
   (tuple_addW1 t b vs.toArray ws.toArray n n2 dd dd2 sl sl2 (by simp_all) (by simp [hw])) ⟨ho,ho2,h1 hw⟩
 ·refine concat_meets ⟨_,ho,rfl⟩ ⟨_,ho2,rfl⟩ noFill_tuple_add seq_tuple_add PySem.F.slot_tuple_add PySem.F.entry_tuple_add (PySem.F.args_tuple_add_2 _ _)
   (tuple_addW2 t b vs.toArray ws.toArray n n2 dd dd2 sl sl2 (by simp_all) (by simp_all) (by exact hsz)) ⟨ho,ho2,?_⟩
  simp_all
noncomputable def sIx(n d:Nat):Option Int->Nat
 | none=>d
 | some v=>if v<0 then (v+(n:Int)).toNat else min v.toNat n
theorem yF(n d:Nat):sIx n d none=d:=rfl
theorem BN(n d k:Nat):sIx n d (some (k:Int))=min k n:=by
 rfl
theorem sIx_le(n d:Nat)(hd:d<=n)(o:Option Int):sIx n d o<=n:=by
 cases o with
 | none=>exact hd
 | some v =>
  show(if v<0 then (v+(n:Int)).toNat else min v.toNat n)<=n
  grind
theorem wH(v:Int)(n d:Nat):(if v<0 then max (v+(n:Int)) 0 else min v (n:Int))=((sIx n d (some v):Nat):Int):=by
 show(if v<0 then max (v+(n:Int)) 0 else min v (n:Int))=(((if v<0 then (v+(n:Int)).toNat else min v.toNat n):Nat):Int)
 grind
theorem vi(lo hi:Option Int)(n:Nat):Builtin.Slice.sliceAdjust lo hi 1 (n:Int)=(((sIx n 0 lo:Nat):Int),((sIx n n hi:Nat):Int)):=by
 have h1:¬((1:Int)<0):=by omega
 unfold Builtin.Slice.sliceAdjust
 refine Prod.ext ?_ ?_
 ·cases lo with
  | none=>rfl
  | some v=>exact wH v n 0
 ·cases hi with
  | none=>rfl
  | some v=>exact wH v n n
theorem uy(i j:Nat):Builtin.Slice.slicePlaces (i:Int) (j:Int) 1=j-i:=by
 unfold Builtin.Slice.slicePlaces
 have h1:(1:Int) > 0:=by omega
 simp only[h1,if_true,Int.ediv_one]
 split<;>omega
theorem n5(p:IsPart v o)(h:Q o s):wpAny (model prog w) A (Builtin.Slice.slicePartIndex v) Q E s:=by
 cases p with
 | none=>exact slicePart_none h
 | int i t=>exact slicePart_int h
theorem mi{sl:Addr}{vl vu:Value}{lo hi:Option Int}{n:Nat}{Q:Int×Int×Nat->Shared->Prop}(hs:s.heap.IsSliceOf sl vl vu .none)(pl:IsPart vl lo)(pu:IsPart vu hi)
  (h:Q (((sIx n 0 lo:Nat):Int),1,sIx n n hi-sIx n 0 lo) s):wpAny (model prog w) A (Builtin.Slice.sliceApplied (.ref sl) (pure (n:Int))) Q E s:=by
 obtain⟨os,hos,hcs,hds⟩:=id hs
 refine wpAny_bind (wpAny_bind (wpAny_field hos hds rfl (wpAny_bind (wpAny_field hos hds rfl (wpAny_bind (wpAny_field hos hds rfl (wpAny_pure ?_)))))))
 refine wpAny_bind (slicePart_none ?_)
 refine wpAny_bind (n5 pl (wpAny_bind (n5 pu (wpAny_bind (wpAny_pure ?_)))))
 show wpAny _ _ (match Builtin.Slice.sliceAdjust lo hi 1 (n:Int) with | (lo,hi)=>pure (lo,(1:Int),Builtin.Slice.slicePlaces lo hi 1)) _ _ s
 rw[vi lo hi n]
 show wpAny _ _ (pure (((sIx n 0 lo:Nat):Int),(1:Int),Builtin.Slice.slicePlaces ((sIx n 0 lo:Nat):Int) ((sIx n n hi:Nat):Int) 1)) _ _ s
 rw[uy]
 exact wpAny_pure h
theorem yW(xs:Array Value)(i k:Nat):((Ψ k).filterMap λ(m:Nat)=>xs[((i:Int)+(m:Int)*1).toNat]?).toArray=((xs.toList.drop i).take k).toArray:=by
 have e:(λ(m:Nat)=>xs[((i:Int)+(m:Int)*1).toNat]?)=λm=>xs[i+m]?:=by
  grind
 rw[e]
 have:=pick_run xs i k
 rw[List.filterMap_map] at this
 have e2:((λx=>xs[x]?)∘λx=>i+x)=λm=>xs[i+m]?:=rfl
 simp_all
theorem lB{t sl:Addr}{items:Array Value}{vl vu:Value}{lo hi:Option Int}{Q:Value->Shared->Prop}(ht:IsTup s.heap t items)(hs:s.heap.IsSliceOf sl vl vu .none)(pl:IsPart vl lo)(pu:IsPart vu hi)
  (hw:¬(sIx items.size 0 lo=0/\sIx items.size items.size hi=items.size))
  (h:Q (.ref s.heap.objs.size) { s with heap:=s.heap.push { cls:=.type "tuple",data:=.seq ((items.toList.drop (sIx items.size 0 lo)).take (sIx items.size items.size hi-sIx items.size 0 lo)).toArray } })
  (hsz:items.size<=sizeLine):wpAny (model prog w) A (getItem (.ref t) (.ref sl)) Q E s:=by
 have htake:sizeOk (.seq ((items.toList.drop (sIx items.size 0 lo)).take (sIx items.size items.size hi-sIx items.size 0 lo)).toArray):=by
  show((items.toList.drop (sIx items.size 0 lo)).take (sIx items.size items.size hi-sIx items.size 0 lo)).toArray.size<=sizeLine
  grind
 obtain⟨os,hos,hcs,hds⟩:=id hs
 have hTs:s.TypeIs (.ref sl) "slice" := ⟨os,hos,hcs⟩
 unfold getItem
 try with_reducible refine wpAny_holding ?_
 refine wpAny_bind (wpAny_sequenceKey ht.typeIs (by decide) ?_)
 refine wpAny_bind (wpAny_callSpecial?_slot (name:=Str.ofString "__getitem__") ht.typeIs PyProof.Rows.slot_tuple_getitem
  (wpAny_call_entry PyProof.Rows.slot_tuple_getitem ht.typeIs entry_tuple_getitem ?_ (args_tuple_getitem _ _)))
 show wpAny _ _ (Builtin.Tuple.tupleItemsOf (.ref t) >>= _) _ _ s
 refine wpAny_bind (tupleItemsOf_ ht ?_)
 refine wpAny_bind (wpAny_typeOf hTs ?_)
 refine wpAny_bind (mi hs pl pu ?_)
 have hno:¬((((sIx items.size 0 lo:Nat):Int)==0&&(1:Int)==1&&(sIx items.size items.size hi-sIx items.size 0 lo)==items.size)=true):=by
  simp_all
 show wpAny _ _ (if (((sIx items.size 0 lo:Nat):Int)==0&&(1:Int)==1&&(sIx items.size items.size hi-sIx items.size 0 lo)==items.size)=true then _ else _) _ _ s
 rw[if_neg hno,yW]
 first
  | exact wpAny_bind (m:=Builtin.Tuple.tupleExact _) (wpAny_newObj_type (wpAny_pure ⟨_,rfl,wpAny_pure h⟩) htake)
  | exact wpAny_bind (m:=Builtin.Tuple.tupleExact _) (wpAny_newObj_type (wpAny_bind (wpAny_pure (wpAny_pure ⟨_,rfl,wpAny_pure h⟩))) htake)
  | exact wpAny_bind (wpAny_bind (m:=Builtin.Tuple.tupleExact _) (wpAny_newObj_type (wpAny_pure (wpAny_pure ⟨_,rfl,wpAny_pure h⟩)) htake))
  | exact wpAny_bind (wpAny_bind (m:=Builtin.Tuple.tupleExact _) (wpAny_newObj_type (wpAny_pure ⟨_,rfl,wpAny_pure h⟩) htake))
end
end HT
namespace L2
open PyProof.Rows
abbrev TO:=St->Hp->(Option Int->Hp->Prop)->Prop
def PO(X:Cx)(e:Option Expr)(t:TO):Prop :=
 ∀(pins:List (Addr×Obj)) (s:Shared) (σ:St) (H:Hp) (Q:Option Int->Hp->Prop),Inv X pins σ H s->t σ H Q ->
  wpAny `DW X.A (evalPart e X.env) (λu s'=>∃o H',Inv X pins σ H' s'/\IsPart u o/\Q o H') X.xe s
noncomputable def Bp:TO:=λ_ H Q=>Q none H
noncomputable def tPart(t:TE):TO:=λσ H Q=>t σ H λx H1=>∃i,x=.int i/\Q (some i) H1
section
variable{X:Cx}{e:Expr}{te:TE}{lo hi:Option Expr}{tl th:TO}{pos p2:Pos}
theorem B8:PO X none Bp:=by
 intro pins s σ H Q I h
 exact wpAny_pure ⟨none,H,I,.none,h⟩
theorem B7(h:PE X e te):PO X (some e) (tPart te):=by
 intro pins s σ H Q I hw
 refine thn (h pins s σ H _ I hw) λu s1 z0=>?_
 obtain⟨x,H1,I1,r1,q1⟩:=z0
 obtain⟨i,rfl,q⟩:=q1
 obtain⟨t,rfl⟩:=r1
 exact⟨some i,H1,I1,.int i t,q⟩
def SlR(X:Cx)(r:V->Option Int->Option Int->Hp->VK->Prop):Prop :=
 ∀(pins:List (Addr×Obj)) (s:Shared) (σ:St) (H:Hp) (x:V) (v vl vu:Value) (lo hi:Option Int) (sl:Addr) (Q:VK),Inv X pins σ H s->bm x v->s.heap.IsSliceOf sl vl vu .none->IsPart vl lo->IsPart vu hi->r x lo hi H Q ->
  ∃T id,typeLookup (.type T) "__getitem__" = pure (some (.builtin id))/\s.TypeIs v T/\wpAny `DW X.A (getItem v (.ref sl)) (EP X pins σ Q) X.xe s
theorem SlR.or(h:SlR X r)(h':SlR X r'):SlR X (λx lo hi H Q=>r x lo hi H Q\/r' x lo hi H Q):=by
 intro pins s σ H x v vl vu lo hi sl Q I rx hs pl pu q
 rcases q with q | q
 ·exact h pins s σ H x v vl vu lo hi sl Q I rx hs pl pu q
 ·exact h' pins s σ H x v vl vu lo hi sl Q I rx hs pl pu q
def tSl(r:V->Option Int->Option Int->Hp->VK->Prop)(te:TE)(tl th:TO):TE:=λσ H Q=>te σ H λx H1=>tl σ H1 λl H2=>th σ H2 λu H3=>r x l u H3 Q
theorem y0{r:V->Option Int->Option Int->Hp->VK->Prop}(hr:SlR X r)(he:PE X e te)(hl:PO X lo tl)(hu:PO X hi th):PE X (.Subscript e (.Slice lo hi none p2) pos) (tSl r te tl th):=by
 intro pins s σ H Q I h
 refine Subscript_ (thn (he pins s σ H _ I h) λv s1 z0=>?_)
 obtain⟨x,H1,I1,r1,q1⟩:=z0
 refine wpAny_Slice (thn (hl pins s1 σ H1 _ I1 q1) λvl s2 z1=>?_)
 obtain⟨l,H2,I2,pl,q2⟩:=z1
 refine thn (hu pins s2 σ H2 _ I2 q2) λvu s3 z2=>?_
 obtain⟨u,H3,I3,pu,q3⟩:=z2
 refine wpAny_pure ?_
 have I4:Inv X pins σ H3 { s3 with heap:=s3.heap.push { cls:=.type "slice",data:=.fields #[vl,vu,.none] } }:=I3.kept λb ob q=>Heap.get?_push_of_some _ q
 obtain⟨T,id,hT,ht,hg⟩:=hr pins { s3 with heap:=s3.heap.push { cls:=.type "slice",data:=.fields #[vl,vu,.none] } } σ H3 x v vl vu l u s3.heap.objs.size Q I4 r1 (Heap.IsSliceOf.new ..) pl pu q3
 exact tail_any ht hT hg (by rfl)
noncomputable def xP(xs:List V)(lo hi:Option Int):List V:=(xs.drop (HT.sIx xs.length 0 lo)).take (HT.sIx xs.length xs.length hi-HT.sIx xs.length 0 lo)
theorem mT(xs:List V)(lo hi:Option Int):(xP xs lo hi).length<=xs.length:=by
 unfold xP
 rw[List.length_take,U5]
 omega
def rSlT(K:ε):V->Option Int->Option Int->Hp->VK->Prop:=λx lo hi H Q=>∃a xs,x=.ref a/\SqT K H a xs /\
 ¬(HT.sIx xs.length 0 lo=0/\HT.sIx xs.length xs.length hi=xs.length)/\∀p,H p=none->Q (.ref p) (upd H p (.tup (xP xs lo hi)))
theorem sl_tup:SlR X (rSlT X.K):=by
 intro pins s σ H x v vl vu lo hi sl Q I rx hs pl pu h
 obtain⟨a,xs,rfl,hx,hw,q⟩:=h
 cases rx
 obtain⟨its,r,ht,hz⟩:=I.tuple hx
 have hlen:its.toArray.size=xs.length:=by exact r.length.symm
 refine⟨"tuple",_,PyProof.Rows.slot_tuple_getitem.lookup,ht.typeIs,?_⟩
 refine HT.lB ht hs pl pu (by simp_all) ?_ `am
 rw[hlen]
 refine⟨.ref s.heap.objs.size,_,I.laid (λb ob q=>Heap.get?_push_of_some _ q) (ξ _) ?_,rfl,q _ (I.hok.fresh (ξ _))⟩
 exact⟨X8 (mT xs lo hi) hz,_,(r.drop (HT.sIx xs.length 0 lo)).take (HT.sIx xs.length xs.length hi-HT.sIx xs.length 0 lo),IsTup.new _ _⟩
noncomputable def rCatT(K:ε):R2:=λx y H Q=>∃a b xs ys,x=.ref a/\y=.ref b/\SqT K H a xs/\SqT K H b ys/\xs≠[]/\xs.length+ys.length<=sizeLine /\
 (ys=[]->Q (.ref a) H)/\(ys≠[]->∀p,H p=none->Q (.ref p) (upd H p (.tup (xs++ys))))
theorem aM.nil_iff(r:aM xs us):us=[]↔xs=[]:=by
 cases r with
 | nil=>simp
 | cons _ _=>simp
theorem CP:OpR X (binaryOp .Add) (rCatT X.K):=by
 intro pins s σ H x y v u Q I rx ry h
 obtain⟨a,b,xs,ys,rfl,rfl,ha,hb,hx,hz,q1,q2⟩:=h
 cases rx
 cases ry
 obtain⟨its,r1,p1,_⟩:=I.tuple ha
 obtain⟨its2,r2,p2,_⟩:=I.tuple hb
 refine HT.DN p1 p2 (λz=>hx (r1.nil_iff.mp z)) (λz=>⟨.ref a,H,I,rfl,q1 (r2.nil_iff.mp z)⟩) (λz=>?_) (by rw[<-r1.length,<-r2.length];exact hz)
 refine⟨.ref s.heap.objs.size,_,I.laid (λb ob q=>Heap.get?_push_of_some _ q) (ξ _) ?_,rfl,q2 (λw=>z (r2.nil_iff.mpr w)) _ (I.hok.fresh (ξ _))⟩
 exact⟨by simp_all,_,r1.append r2,IsTup.new _ _⟩
end
end L2
namespace L2
open PyProof.Rows
noncomputable def ixN(n:Nat)(i:Int):Option Nat:=if 0<=i then (if i<n then some i.toNat else none) else if -(n:Int)<=i then some (i+n).toNat else none
noncomputable def atI(xs:List α)(i:Int):Option α:=(ixN xs.length i).bind λj=>xs[j]?
theorem vZ(h:ixN n i=some j):seqIndex? i n=some j/\j<n /\ -(n:Int)<=i/\i<n:=by
 unfold ixN at h
 by_cases h0:0<=i
 ·rw[if_pos h0] at h
  by_cases h1:i<n
  ·rw[if_pos h1] at h
   have e:= Option.some.inj h
   exact⟨by rw[seqIndex_of h0 h1,e],by omega,by omega,h1⟩
  simp_all
 ·rw[if_neg h0] at h
  by_cases h1 : -(n:Int)<=i
  ·rw[if_pos h1] at h
   have e:= Option.some.inj h
   exact⟨by rw[seqIndex_neg `am h1,e],by omega,h1,by omega⟩
  simp_all
theorem nK(h:atI xs i=some v):∃j,seqIndex? i xs.length=some j/\xs[j]?=some v/\j<xs.length /\ -(xs.length:Int)<=i/\i<xs.length:=by
 unfold atI at h
 cases e:ixN xs.length i with
 | none=>simp_all
 | some j =>
  rw[e] at h
  obtain⟨h1,h2,h3,h4⟩:=vZ e
  simp_all
theorem kg{α:Type}{xs:List α}{j:Nat}{v:α}(h:xs[j]?=some v):atI xs (j:Int)=some v:=by
 have hj:= (ρ.mp h).1
 have e:ixN xs.length (j:Int)=some j:=by
  unfold ixN
  simp_all
 unfold atI;simp_all
def se(b:Expr):Prop:=∀o i,subscripted b false o i=operate [o,i] (getItem o i)
def IxR(X:Cx)(r:R2):Prop :=
 ∀(value slice:Expr) (pins:List (Addr×Obj)) (s:Shared) (σ:St) (H:Hp) (x y:V) (v u:Value) (Q:VK),Inv X pins σ H s->bm x v->bm y u->r x y H Q ->
  subscripted slice false v u=operate [v,u] (getItem v u)->wpAny `DW X.A (subscriptTail value slice v u) (EP X pins σ Q) X.xe s
def MtR(X:Cx)(id:String)(r:V->List V->Hp->VK->Prop):Prop :=
 ∀(pins:List (Addr×Obj)) (s:Shared) (σ:St) (H:Hp) (x:V) (xs:List V) (v:Value) (us:List Value) (Q:VK),Inv X pins σ H s->bm x v->aM xs us->r x xs H Q ->
  wpAny `DW X.A (call (.builtin id) (v::us)) (EP X pins σ Q) X.xe s
section
variable{X:Cx}{a b:Expr}{ta tb:TE}{pos:Pos}
theorem IxR.or(h:IxR X r)(h':IxR X r'):IxR X (λx y H Q=>r x y H Q\/r' x y H Q):=by
 intro value slice pins s σ H x y v u Q I rx ry q hs
 rcases q with q | q
 ·exact h value slice pins s σ H x y v u Q I rx ry q hs
 ·exact h' value slice pins s σ H x y v u Q I rx ry q hs
theorem pe_ix(hr:IxR X r)(ha:PE X a ta)(hb:PE X b tb)(hs:se b):PE X (.Subscript a b pos) (tOp r ta tb):=by
 intro pins s σ H Q I h
 exact Subscript_ (binT ha hb I h λv u s2 x y H2 I2 rx ry q=>hr a b pins s2 σ H2 x y v u Q I2 rx ry q (hs _ _))
noncomputable def rIxL(K:ε):R2:=λx y H Q=>∃p xs i v,x=.ref p/\y=.int i/\SqL K H p xs/\atI xs i=some v/\Q v H
noncomputable def rIxT(K:ε):R2:=λx y H Q=>∃p xs i v,x=.ref p/\y=.int i/\SqT K H p xs/\atI xs i=some v/\Q v H
noncomputable def rIxS:R2:=λx y H Q=>∃z i c,x=.str z/\y=.int i/\z.length<=sizeLine/\atI z.cps.toList i=some c/\Q (.str ⟨#[c]⟩) H
theorem Da:IxR X (rIxL X.K):=by
 intro value slice pins s σ H x y v u Q I rx ry h hs
 obtain⟨p,xs,i,z,rfl,rfl,hq,he,q⟩:=h
 cases rx
 obtain⟨t,rfl⟩:=ry
 obtain⟨its,r,pl,hz⟩:=I.list hq
 obtain⟨j,h1,h2,h3,h4,h5⟩:=nK he
 obtain⟨w,ew,rw'⟩:=r.get h2
 have hl:=r.length
 have hn:=kQ
 have fin:EP X pins σ Q w s:=⟨z,H,I,rw',q⟩
 by_cases h0:0<=i
 ·have hj:i.toNat=j:=by
   rw[seqIndex_of h0 h5] at h1
   simp_all
  exact item_listR pl.isList h0 `am (by simp_all) fin hs
 ·have hj:(i+(its.toArray.size:Int)).toNat=j:=by
   rw[seqIndex_neg `am h4] at h1
   simp_all
  exact subscriptTail_builtinR (x:=w) pl.isList.typeIs slot_list_getitem.lookup
   (wpAny_getItem_list_neg (Q:=λr s'=>r=w/\EP X pins σ Q r s') pl.isList `am (by simp_all) `am (by simp_all) ⟨rfl,fin⟩) hs
theorem ix_tup:IxR X (rIxT X.K):=by
 intro value slice pins s σ H x y v u Q I rx ry h hs
 obtain⟨p,xs,i,z,rfl,rfl,hq,he,q⟩:=h
 cases rx
 obtain⟨t,rfl⟩:=ry
 obtain⟨its,r,pl,hz⟩:=I.tuple hq
 obtain⟨j,h1,h2,h3,h4,h5⟩:=nK he
 obtain⟨w,ew,rw'⟩:=r.get h2
 have hl:=r.length
 have hn:=kQ
 have fin:EP X pins σ Q w s:=⟨z,H,I,rw',q⟩
 exact subscriptTail_builtinR (x:=w) pl.typeIs slot_tuple_getitem.lookup
  (getItem_tuple (j:=j) (Q:=λr s'=>r=w/\EP X pins σ Q r s') pl `am `am (by simp_all) (by simp_all) ⟨rfl,fin⟩) hs
theorem ix_str:IxR X rIxS:=by
 intro value slice pins s σ H x y v u Q I rx ry h hs
 obtain⟨z,i,c,rfl,rfl,hz,he,q⟩:=h
 obtain⟨t,rfl⟩:=rx
 obtain⟨t',rfl⟩:=ry
 obtain⟨j,h1,h2,h3,h4,h5⟩:=nK he
 have hl:z.cps.toList.length=z.length:=by rfl
 rw[hl] at h1 h4 h5
 have hn:=kQ
 exact tail_any (typeIs_str s z t) slot_str_getitem.lookup (getItem_str (c:=c) (by
  grind) (by simp_all) ⟨.str ⟨#[c]⟩,H,I.tok _,⟨_,rfl⟩,q⟩) hs
noncomputable def rIx(K:ε):R2:=λx y H Q=>rIxL K x y H Q\/rIxT K x y H Q\/rIxS x y H Q
theorem Ak:IxR X (rIx X.K):=Da.or (ix_tup.or ix_str)
theorem uK(its:List Value)(n j:Nat)(u:Value):Obj.mapSeq (·.setIfInBounds j u) { cls:=.type "list",data:=.seq its.toArray n }={ cls:=.type "list",data:=.seq (its.set j u).toArray n }:=by
 simp [Obj.mapSeq]
theorem Inv.lst{pins:List (Addr×Obj)}{σ:St}{H:Hp}{s:Shared}{p:Addr}{xs:List V}(I:`DX)(h:H p=some (.lst xs)) :
  ∃(its:List Value) (n:Nat),aM xs its/\s.heap.get? p=some { cls:=.type "list",data:=.seq its.toArray n }/\xs.length<=sizeLine:=by
 obtain⟨z,its,n,r,e⟩:=I.hok p _ h
 exact⟨its,n,r,e,z⟩
theorem Inv.lstUpd{pins:List (Addr×Obj)}{σ:St}{H:Hp}{s:Shared}{p:Addr}{xs ys:List V}{its its':List Value}{n n':Nat}{f:Obj->Obj}(I:`DX)(h:H p=some (.lst xs))
  (ho:s.heap.get? p=some { cls:=.type "list",data:=.seq its.toArray n }) (hf:f { cls:=.type "list",data:=.seq its.toArray n }={ cls:=.type "list",data:=.seq its'.toArray n' }) (r:aM ys its') (hz:ys.length<=sizeLine) (t:Nat) :
  Inv X pins σ (upd H p (.lst ys)) { s with heap:=s.heap.update p f,toks:=t }:=by
 have e:(s.heap.update p f).get? p=some { cls:=.type "list",data:=.seq its'.toArray n' }:=by
  rw[Heap.get?_update_self f ho (by rw[hf]<;>rfl),hf]
 refine I.write (by rw[h];trivial) (.inl rfl) (λb u hb q=>(Heap.get?_update_other _ _ (Ne.symm hb)).trans q) ⟨_,e⟩ ?_
 exact⟨hz,its',n',r,e⟩
def rSetL:V->V->V->Hp->(Hp->Prop)->Prop:=λo i v H Q=>∃p xs k j,o=.ref p/\i=.int k/\H p=some (.lst xs)/\ixN xs.length k=some j/\Q (upd H p (.lst (xs.set j v)))
theorem n6:PSet X rSetL:=by
 intro pins s σ H o i v ov iv u Q I ro ri rv h
 obtain⟨p,xs,k,j,rfl,rfl,hp,hj,q⟩:=h
 cases ro
 obtain⟨t,rfl⟩:=ri
 obtain⟨its,n,r,ho,hz⟩:=I.lst hp
 obtain⟨h1,h2,h3,h4⟩:=vZ hj
 have hl:=r.length
 have hn:=kQ
 have I':Inv X pins σ (upd H p (.lst (xs.set j v))) { s with heap:=s.heap.update p (Obj.mapSeq (·.setIfInBounds j u)) } :=
  I.lstUpd hp ho (uK its n j u) (r.set rv j) (by simp_all) s.toks
 by_cases h0:0<=k
 ·have hk:k.toNat=j:=by
   rw[seqIndex_of h0 h4] at h1
   simp_all
  exact PySem.W.ki_setAt ho h0 `am (by simp_all) (by grind)
 ·have hk:(k+(its.toArray.size:Int)).toNat=j:=by
   rw[seqIndex_neg `am h3] at h1
   simp_all
  exact PySem.W.ki_setBack ho `am (by simp_all) `am (by grind)
theorem qQ(lo hi:Option Int)(n:Nat):(sliceBounds lo hi none n).1=((HT.sIx n 0 lo:Nat):Int)/\(sliceBounds lo hi none n).2.1=((HT.sIx n n hi:Nat):Int)/\(sliceBounds lo hi none n).2.2=1:=by
 refine⟨?_,?_,rfl⟩
 ·cases lo with
  | none=>rfl
  | some i =>
   simp only[sliceBounds,HT.sIx,Option.getD_none,show(1:Int) > 0 by decide,if_true]
   grind
 ·cases hi with
  | none=>rfl
  | some i =>
   simp only[sliceBounds,HT.sIx,Option.getD_none,show(1:Int) > 0 by decide,if_true]
   grind
theorem pE(its:List Value)(lo hi:Option Int):slicePick its.toArray lo hi none=((its.drop (HT.sIx its.length 0 lo)).take (HT.sIx its.length its.length hi-HT.sIx its.length 0 lo)).toArray:=by
 obtain⟨h1,h2,h3⟩:=qQ lo hi its.toArray.size
 unfold slicePick
 rw[h1,h2,h3]
 simp only[sliceRange_one,pick_run,List.size_toArray]<;>rfl
def rSlL(K:ε):V->Option Int->Option Int->Hp->VK->Prop:=λx lo hi H Q=>∃a xs,x=.ref a/\SqL K H a xs/\∀p,H p=none->Q (.ref p) (upd H p (.lst (xP xs lo hi)))
theorem BG:SlR X (rSlL X.K):=by
 intro pins s σ H x v vl vu lo hi sl Q I rx hs pl pu h
 obtain⟨a,xs,rfl,hx,q⟩:=h
 cases rx
 obtain⟨its,r,ht,hz⟩:=I.list hx
 have hlen:=r.length
 refine⟨"list",_,slot_list_getitem.lookup,ht.isList.typeIs,?_⟩
 refine wpAny_getItem_list_slice ht.isList hs pl pu .none (by simp) ?_ (by simp_all)
 rw[pE,<-hlen]
 refine⟨.ref s.heap.objs.size,_,I.laid (λb ob q=>Heap.get?_push_of_some _ q) (ξ _) ?_,rfl,q _ (I.hok.fresh (ξ _))⟩
 exact⟨X8 (mT xs lo hi) hz,_,0,(r.drop (HT.sIx xs.length 0 lo)).take (HT.sIx xs.length xs.length hi-HT.sIx xs.length 0 lo),Heap.get?_push_size _ rfl⟩
theorem r6:fQ X (.builtin "len") (λxs H Q=>∃p ys,xs=[.ref p]/\(SqL X.K H p ys\/SqT X.K H p ys)/\Q (.int ys.length) H):=by
 intro pins s σ H xs us Q I r h
 obtain⟨p,ys,rfl,hq,q⟩:=h
 obtain⟨u,rfl,rx⟩:=k7 r
 cases rx
 have hn:=kQ
 rcases hq with hq | hq
 ·obtain⟨its,r',pl,hz⟩:=I.list hq
  have hlen:=r'.length
  exact Calls.call_len_list pl.isList (by grind) ⟨.int ys.length,H,I.tok _,⟨s.toks+1,by simp_all⟩,q⟩
 ·obtain⟨its,r',pl,hz⟩:=I.tuple hq
  have hlen:=r'.length
  exact len_tuple pl (by grind) ⟨.int ys.length,H,I.tok _,⟨s.toks+1,by simp_all⟩,q⟩
theorem rZ:fQ X (.builtin "len") (λxs H Q=>∃z,xs=[.str z]/\z.length<=sizeLine/\Q (.int z.length) H):=by
 intro pins s σ H xs us Q I r h
 obtain⟨z,rfl,hz,q⟩:=h
 obtain⟨u,rfl,t,rfl⟩:=k7 r
 have hn:=kQ
 exact len_str `am ⟨.int z.length,H,I.tok _,⟨_,rfl⟩,q⟩
theorem fQ.or(h:fQ X f r)(h':fQ X f r'):fQ X f (λxs H Q=>r xs H Q\/r' xs H Q):=by
 intro pins s σ H xs us Q I rs q
 rcases q with q | q
 ·exact h pins s σ H xs us Q I rs q
 ·exact h' pins s σ H xs us Q I rs q
theorem l3:fQ X (.type "list") (λxs H Q=>∃p ys,xs=[.ref p]/\(SqL X.K H p ys\/SqT X.K H p ys)/\∀l,H l=none->Q (.ref l) (upd H l (.lst ys))):=by
 intro pins s σ H xs us Q I r h
 obtain⟨p,ys,rfl,hq,q⟩:=h
 obtain⟨u,rfl,rx⟩:=k7 r
 cases rx
 have fin:∀(its:List Value),aM ys its->ys.length<=sizeLine->∀(h':Heap) (c':Nat),(∀b o',s.heap.get? b=some o'->h'.get? b=some o') ->
   h'.get? s.heap.objs.size=some { cls:=.type "list",dict:=none,data:=.seq its.toArray c',slots:=#[] }->EP X pins σ Q (.ref s.heap.objs.size) { s with heap:=h' }:=λits r' hz h' c' kp e =>
  ⟨.ref s.heap.objs.size,_,I.laid (t':=s.toks) kp (ξ _) (show cK X.prog X.w _ h' _ (.lst ys) from⟨hz,its,c',r',e⟩),rfl,q _ (I.hok.fresh (ξ _))⟩
 rcases hq with hq | hq
 ·obtain⟨its,r',pl,hz⟩:=I.list hq
  have hlen:=r'.length
  obtain⟨o,ho,hc,n,hd⟩:=pl.isList
  exact call_list_seq p (.inl rfl) ho hc hd (λh' c' kp e=>fin its r' hz h' c' kp e) (by simp_all)
 ·obtain⟨its,r',pl,hz⟩:=I.tuple hq
  have hlen:=r'.length
  obtain⟨o,ho,hc,n,hd⟩:=pl
  exact call_list_seq p (.inr rfl) ho hc hd (λh' c' kp e=>fin its r' hz h' c' kp e) (by simp_all)
def tyV(K:ε)(T:String)(x:V)(H:Hp):Prop:=match x with
 | .str _=>T = "str"
 | .int _=>T = "int"
 | .ref p=>(T = "list" /\ ∃xs,SqL K H p xs)\/(T = "tuple" /\ ∃o,K.lookup p=some o/\o.cls=.type "tuple" /\ o.dict=none) \/
   (T = "dict" /\ ((∃kvs,H p=some (.dK kvs))\/∃kvs,H p=some (.dT kvs)))\/(T = "set" /\ ∃S n,H p=some (.set S n))
 | _=>False
theorem yi(I:`DX)(r:bm x v)(ty:tyV X.K T x H) :
  s.TypeIs v T/\∀a,v=.ref a->∃ob,s.heap.get? a=some ob/\ob.dict=none:=by
 cases x with
 | str z =>
  obtain⟨t,rfl⟩:=r
  cases (show T = "str" from ty)
  exact⟨typeIs_str s z t,λ_ e=>nomatch e⟩
 | int i =>
  obtain⟨t,rfl⟩:=r
  cases (show T = "int" from ty)
  exact⟨typeIs_int s i t,λ_ e=>nomatch e⟩
 | ref p =>
  cases r
  rcases ty with ⟨rfl,xs,hq⟩ | ⟨rfl,o,hk,hc,hd⟩ | ⟨rfl,hk⟩ | ⟨rfl,S,n,hk⟩
  ·obtain⟨its,_,pl,_⟩:=I.list hq
   refine⟨pl.isList.typeIs,λa e=>?_⟩
   cases e
   obtain⟨o,n,e,c,hd,_⟩:=pl
   simp_all
  ·refine⟨⟨o,I.kIn p o hk,hc⟩,λa e=>?_⟩
   cases e
   exact⟨o,I.kIn _ o hk,hd⟩
  ·have z:∃o,s.heap.get? p=some o/\o.ExactDict:=by
    rcases hk with ⟨kvs,hk⟩ | ⟨kvs,hk⟩
    ·obtain⟨_,_,_,_,o,_,_,e,ex,_⟩:=I.hok p _ hk
     simp_all
    ·obtain⟨_,_,_,_,o,_,_,e,ex,_⟩:=I.hok p _ hk
     simp_all
   obtain⟨o,e,ex⟩:=z
   refine⟨⟨o,e,ex.1⟩,λa e2=>?_⟩
   cases e2
   exact⟨o,e,ex.2.1⟩
  ·obtain⟨o,_,_,_,e,ex,_⟩:=I.hok p _ hk
   refine⟨⟨o,e,ex.1⟩,λa e2=>?_⟩
   cases e2
   exact⟨o,e,ex.2.1⟩
 | _=>exact False.elim ty
def tBM0(K:ε)(T:String)(r:V->List V->Hp->VK->Prop)(to:TE):TE:=λσ H Q=>to σ H λx H1=>tyV K T x H1/\r x [] H1 Q
def tBM(K:ε)(T:String)(r:V->List V->Hp->VK->Prop)(to:TE)(t:TA):TE:=λσ H Q=>to σ H λx H1=>tyV K T x H1/\t σ H1 λxs H2=>r x xs H2 Q
variable{o e:Expr}{es:List Expr}{to:TE}{t:TA}{name:Str}{apos cpos:Pos}{T id:String}{r:V->List V->Hp->VK->Prop}
theorem pe_bm0(pa:PlainAttrs T)(slot:Slot T name id)(hty:typeOf (.builtin id)=pure (.type "method_descriptor"))(hm:MtR X id r)(ho:PE X o to)
  (hbase:attributeBase o name X.env (eval o X.env)=eval o X.env:=by rfl) (hline:(apos.endLine==cpos.line)=true:=by rfl):PE X (.Call (.Attribute o name apos) [] [] cpos) (tBM0 X.K T r to):=by
 intro pins s σ H Q I h
 refine wpAny_Call_method0_late hbase hline (thn (ho pins s σ H _ I h) λv s1 z0=>?_)
 obtain⟨x,H1,I1,r1,ty,q1⟩:=z0
 obtain⟨h1,h2⟩:=yi I1 r1 ty
 exact⟨T,id,pa,slot,hty,h1,h2,Calls.callWith_builtin rfl (PySem.evalArgs_none (hm pins s1 σ H1 x [] v [] Q I1 r1 .nil q1))⟩
theorem sP(pa:PlainAttrs T)(slot:Slot T name id)(hty:typeOf (.builtin id)=pure (.type "method_descriptor"))(hm:MtR X id r)(ho:PE X o to)(ha:PA X (e::es) t)
  (hbase:attributeBase o name X.env (eval o X.env)=eval o X.env:=by rfl)
  (hfew:((backTo cpos (starEach (e::es) X.env)).all (λx=>!x.1)&&(backToKw cpos (keywordEach [] X.env)).all (λx=>x.1.isSome)
   && decide ((e::es).length+([]:List Keyword).length+(if ([]:List Keyword).isEmpty then 0 else 1)<30))=true:=by rfl)
  (hline:(apos.endLine==cpos.line)=true:=by rfl) (hs:`we:=by rfl) (hplain:(backTo cpos (starEach es X.env)).any (·.1)=false:=by rfl) :
  PE X (.Call (.Attribute o name apos) (e::es) [] cpos) (tBM X.K T r to t):=by
 intro pins s σ H Q I h
 refine wpAny_Call_method_late hbase hfew hline rfl (thn (ho pins s σ H _ I h) λv s1 z0=>?_)
 obtain⟨x,H1,I1,r1,ty,q1⟩:=z0
 obtain⟨h1,h2⟩:=yi I1 r1 ty
 refine⟨T,id,pa,slot,hty,h1,h2,?_⟩
 have hA:=ha cpos pins s1 σ H1 _ I1 q1
 rw[hs] at hA ⊢
 refine Calls.callWith_builtin (by assumption) (Calls.evalArgs_plain ?_)
 refine thn hA λus s2 z1=>?_
 obtain⟨vs,H2,I2,r2,q2⟩:=z1
 exact hm pins s2 σ H2 x vs v us Q I2 r1 r2 q2
end
end L2
namespace L2
open PyProof.Rows
def MtM(X:Cx)(id:String)(r:V->List V->Hp->VK->Prop):Prop :=
 ∀(pins:List (Addr×Obj)) (s:Shared) (σ:St) (H:Hp) (x:V) (xs:List V) (v:Value) (us:List Value) (Q:VK),Inv X pins σ H s->bm x v->aM xs us->r x xs H Q ->
  wpAny `DW X.A (call (.builtin id) (v::us)) (EP X pins σ Q) X.xe s
theorem aM.one:∀{x:V} {us:List Value},aM [x] us->∃u,us=[u]/\bm x u
 | _,_,.cons r .nil=>⟨_,rfl,r⟩
theorem aM.zero:∀{us:List Value},aM [] us->us=[]
 | _,.nil=>rfl
theorem aM.dropLast(h:aM xs us):aM xs.dropLast us.dropLast:=by
 induction h with
 | nil=>exact .nil
 | cons r t ih =>
  cases t with
  | nil=>exact .nil
  | cons q t'=>exact .cons r ih
theorem aM.reverse(h:aM xs us):aM xs.reverse us.reverse:=by
 induction h with
 | nil=>exact .nil
 | cons r t ih=>rw[U2,U2];exact aM.append ih (.cons r .nil)
theorem aM.rep(h:aM xs us):∀k:Nat,aM (χ k xs).flatten (χ k us).flatten
 | 0=>.nil
 | k+1=>by
  exact aM.append h (aM.rep h k)
theorem erase_last(l:List α):l.eraseIdx (l.length-1)=l.dropLast:=by
 simp
theorem qu(its:List Value):∀(k:Nat) (acc:List Value),
  List.foldl (λx1 x2=>x1++x2) acc.toArray (χ k its.toArray)=(acc++(χ k its).flatten).toArray
 | 0,acc=>by simp
 | k+1,acc=>by
  have e:acc.toArray++its.toArray=(acc++its).toArray:=by simp
  have e2:(acc++its)++(χ k its).flatten=acc++(χ (k+1) its).flatten:=by
   grind
  rw[<-e2,<-qu its k (acc++its),<-e,List.replicate_succ,List.foldl_cons]
section
variable{X:Cx}{pins:List (Addr×Obj)}{σ:St}{H:Hp}{s:Shared}{l b:Addr}{xs ys zs:List V}
theorem Inv.lset{its its':List Value}{n:Nat}{f:Array Value->Array Value}{t':Nat}(I:`DX)(hH:H l=some (.lst xs))
  (e:s.heap.get? l=some { cls:=.type "list",data:=.seq its.toArray n }) (hf:f its.toArray=its'.toArray) (hv:aM ys its') (hz:ys.length<=sizeLine) :
  Inv X pins σ (upd H l (.lst ys)) { s with heap:=s.heap.update l (Obj.mapSeq f),toks:=t' }:=by
 have q:=PySem.IsL.update e f
 rw[hf] at q
 refine I.write (by rw[hH];exact trivial) (.inl rfl) (λb' u hb hu=>(Heap.get?_update_other s.heap (Obj.mapSeq f) (Ne.symm hb)).trans hu) ⟨_,q⟩ ?_
 exact⟨hz,its',_,hv,q⟩
theorem Inv.lnew(I:`DX)(hv:aM ys its)(hz:ys.length<=sizeLine) :
  Inv X pins σ (upd H s.heap.objs.size (.lst ys)) { s with heap:=s.heap.push { cls:=.type "list",data:=.seq its.toArray },toks:=t' } :=
 I.laid (λ_ _ q=>Heap.get?_push_of_some _ q) (ξ _) ⟨hz,its,0,hv,Heap.get?_push_size _ rfl⟩
theorem Inv.fresh(I:`DX):H s.heap.objs.size=none:=I.hok.fresh (ξ _)
theorem Inv.lstM(I:`DX)(hH:H l=some (.lst xs)):xs.length<=sizeLine/\∃(its:List Value) (n:Nat),aM xs its/\xs.length=its.length/\s.heap.get? l=some { cls:=.type "list",data:=.seq its.toArray n }:=by
 obtain⟨z,its,n,r,e⟩:=I.hok l _ hH
 exact⟨z,its,n,r,r.length,e⟩
theorem tj(h:n<=sizeLine):Builtin.List.listTooLong n=false:=by
 unfold Builtin.List.listTooLong
 simp_all
end
section
variable{X:Cx}
def BV:V->List V->Hp->VK->Prop:=λx vs H Q=>∃l xs y,x=.ref l/\vs=[y]/\H l=some (.lst xs)/\xs.length<sizeLine/\Q .non (upd H l (.lst (xs++[y])))
theorem ms:MtM X "list.append" BV:=by
 intro pins s σ H x vs v us Q I rx rv h
 obtain⟨l,xs,y,rfl,rfl,hH,hz,q⟩:=h
 cases rx
 obtain⟨u,rfl,ru⟩:=rv.one
 obtain⟨z,its,n,r,hl,e⟩:=I.lstM hH
 refine call_meets F.slot_list_append ⟨_,e,rfl⟩ F.entry_list_append (F.args_list_append_2 _ _) (PySem.list_append l its.toArray n u (by simp_all)) ⟨e,?_⟩
 refine⟨.non,_,I.lset hH e (by simp) (r.append (.cons ru .nil)) ?_,rfl,q⟩
 grind
def BU:V->List V->Hp->VK->Prop:=λx vs H Q=>∃l b xs zs,x=.ref l/\vs=[.ref b]/\H l=some (.lst xs)/\H b=some (.lst zs)/\xs.length+zs.length<=sizeLine/\Q .non (upd H l (.lst (xs++zs)))
theorem qd:MtM X "list.extend" BU:=by
 intro pins s σ H x vs v us Q I rx rv h
 obtain⟨l,b,xs,zs,rfl,rfl,hH,hB,hz,q⟩:=h
 cases rx
 obtain⟨u,rfl,ru⟩:=rv.one
 cases ru
 obtain⟨z,its,n,r,hl,e⟩:=I.lstM hH
 obtain⟨z2,its2,n2,r2,hl2,e2⟩:=I.lstM hB
 have hsz:its.toArray.size+its2.toArray.size<=sizeLine:=by simp_all
 have hlong:¬(!its.toArray.isEmpty&&Builtin.List.listTooLong (its.toArray.size+its2.toArray.size))=true:=by
  rw[tj hsz,Bool.and_false]
  simp
 refine call_meets F.slot_list_extend ⟨_,e,rfl⟩ F.entry_list_extend (F.args_list_extend_2 _ _)
  (AutoSeq1.list_extend_list_list_0 l its.toArray n b its2.toArray n2 hlong `am `am) ⟨e,e2,?_⟩
 refine⟨.non,_,I.lset hH e (by simp) (r.append r2) ?_,rfl,q⟩
 simp_all
def rPop:V->List V->Hp->VK->Prop:=λx vs H Q=>∃l xs y,x=.ref l/\vs=[]/\H l=some (.lst xs)/\xs[xs.length-1]?=some y/\Q y (upd H l (.lst xs.dropLast))
theorem mt_pop:MtM X "list.pop" rPop:=by
 intro pins s σ H x vs v us Q I rx rv h
 obtain⟨l,xs,y,rfl,rfl,hH,hy,q⟩:=h
 cases rx
 have hus:=rv.zero
 subst hus
 obtain⟨z,its,n,r,hl,e⟩:=I.lstM hH
 obtain⟨u,hu,ru⟩:=r.get hy
 have hy':its.toArray[its.toArray.size-1]?=some u:=by
  simp_all
 refine call_meets F.slot_list_pop ⟨_,e,rfl⟩ F.entry_list_pop (F.args_list_pop_1 _) (MeetsSeq.list_pop_last l its.toArray n u hy' (by simp_all)) ⟨e,?_⟩
 refine⟨y,_,I.lset hH e ?_ r.dropLast ?_,ru,q⟩
 all_goals grind
noncomputable def rRep:R2:=λx y H Q=>∃l k xs,x=.ref l/\y=.int k/\H l=some (.lst xs) /\ -(2 ^ 63)<=k/\k<2 ^ 63/\xs.length*k.toNat<=sizeLine /\
 ∀p,H p=none->Q (.ref p) (upd H p (.lst (χ k.toNat xs).flatten))
theorem C8(xs:List α)(k:Nat):(χ k xs).flatten.length=k*xs.length:=by
 simp
theorem op_rep:OpR X (binaryOp .Mult) rRep:=by
 intro pins s σ H x y v u Q I rx ry h
 obtain⟨l,k,xs,rfl,rfl,hH,h1,h2,hz,q⟩:=h
 cases rx
 obtain⟨t,rfl⟩:=ry
 obtain⟨z,its,n,r,hl,e⟩:=I.lstM hH
 have hlen:its.toArray.size*k.toNat<=sizeLine:=by simp_all
 have hcap:¬its.toArray.size*k.toNat > (2 ^ 63-1) / 8:=by
  have:(sizeLine:Nat)<=(2 ^ 63-1) / 8:=by decide
  omega
 have hfit:¬(!Builtin.List.listFitsIndex k)=true:=by
  rw[fitsIndex_both h1 h2]
  simp
 have hlong:¬Builtin.List.listTooLong (its.toArray.size*k.toNat)=true:=by
  rw[tj hlen]
  simp
 have hnew:List.foldl (λx1 x2=>x1++x2) #[] (χ (if its.toArray.isEmpty=true then 0 else k.toNat) its.toArray)=(χ k.toNat its).flatten.toArray:=by
  have f0:∀m:Nat,List.foldl (λx1 x2=>x1++x2) #[] (χ m its.toArray)=(χ m its).flatten.toArray:=λm=>by
   have:=qu its m []
   assumption
  rw[f0]
  cases its with
  | nil=>simp
  | cons a r'=>rfl
 refine wpAny_binaryOp_repeat_ref (T := "list") (U := "int") (by decide) ⟨_,e,rfl⟩ (λs'=>typeIs_int s' k t) noFill_list_mul F.fills_int_mul F.slot_int_rmul repeat_list F.slot_int_index.lookup
  (call_meets F.slot_int_rmul (typeIs_int s k t) F.entry_int_rmul (F.args_int_rmul_2 _ _) (int___rmul___int_list k t l its.toArray n)
   ⟨e,rfl,⟨_,e,rfl⟩,call_meets F.slot_list_mul ⟨_,e,rfl⟩ F.entry_list_mul (F.args_list_mul_2 _ _) (AutoListH.list___mul___list_int_3 l its.toArray n k t hfit hcap hlong) ⟨e,?_⟩⟩)
 rw[hnew]
 exact⟨.ref _,_,I.lnew (t':=s.toks) (r.rep k.toNat) (by rw[C8,Nat.mul_comm];exact hz),rfl,q _ I.fresh⟩
end
section
end
section
end
end L2
namespace Att
open PySem.W PySem.Calls PyProof.Rows
theorem ng:∀(ns:List Int) (vs:List Value),WellAll P h vs (ns.map WData.int)->IntsAre vs ns:=by
 intro ns
 induction ns with
 | nil =>
  intro vs w
  cases w
  exact .nil
 | cons n ns ih =>
  intro vs w
  cases w with
  | cons a b =>
   cases a
   exact .cons _ _ (ih _ b)
theorem wT{l:OpenLaw}{n:Nat}(hn:l.most=some n){P:Params}{h:Heap}{args:List WData}{vals:List Value}
  (hpre:l.row.toRowW.claim.pre args=true) (hwl:WellAll P h vals args) :
  ∃a vs ns,vals=[Value.ref a]/\args=[WData.list (ns.map WData.int)]/\h.get? a=some { cls:=.type "list",data:=.seq vs.toArray }/\IntsAre vs ns/\ns.length<=n:=by
 have hsh:= (pre_splitW hpre).1
 have hc:l.pre.holds [] { args:=args }=true:=(pre_splitW hpre).2
 obtain⟨d,r,rfl,h1,h2⟩:=hasAllW_cons hsh
 obtain rfl:=hasAllW_nil h2
 obtain⟨xs,rfl,h3⟩:=hasW_list h1
 obtain⟨ns,rfl⟩:=items_int h3
 have hlen:ns.length<=n:=by
  have h4:(WTm.not (.lt (.lit (.int (n:Int))) (.len (.arg 0)))).holds [] { args:=[.list (ns.map .int)] }=true:=by
   have h4:=(holds_andW hc).1
   simp_all
  have h5:=condW_of h4 (w_not (w_lt w_lit (w_len_list (w_arg rfl))))
  simp_all
 cases hwl with
 | cons w1 w2 =>
  cases w2
  cases w1 with
  | list ho hall=>exact⟨_,_,ns,rfl,rfl,ho,ng ns _ hall,hlen⟩
theorem w9(l:OpenLaw)(args:List WData):l.row.toRowW.claim.post args (.bool true) args=true :=
 postW_of (r:=l.row.toRowW) (X:=(true==true))
  (show WShape.has [] (.bool true) .bool=true by first | rfl | decide | simp [WShape.has,WShape.arms,WShape.armsAll])
  (show(WTm.eq .res (.lit (.bool true))).value [] { args:=args,res:=some (.bool true),after:=args }=some (.bool (true==true)) from w_eq_bool (w_res rfl) w_lit) rfl
theorem ub{l:OpenLaw}{n:Nat}{q:Program}{loose:List Str}{XP:(Str->Option Value)->Heap->Prop}{YP:World->Heap->Prop}{d:DefRec}
  (hn:l.most=some n) (hdf:d.params.defaults=[])
  (call:∀(w:World) (s₀ s₁:Shared) (mg mb:Str->Option Value) (fa:Addr) (o:Obj) (pm cd doc:Value) (a:Addr) (vs:List Value) (ns:List Int),
   Ground q loose [] XP w s₀ mg mb s₁.heap->YP w s₁.heap ->
   s₁.heap.get? fa=some o->o.data=.func (docDef d.name d.params d.body d.scope pm cd doc)->s₁.heap.CodeRec cd d.name->mg d.name=some (.ref fa) ->
   s₁.heap.get? a=some { cls:=.type "list",data:=.seq vs.toArray }->IntsAre vs ns->ns.length<=n->s₁.gens=#[] ->
   codeAny (model l.prog w) callerA (.call (.ref fa) ⟨[.ref a],[]⟩) (λr s'=>r=.ok (.ret (.bool true))/\OldK s₁.heap s'.heap/\s'.os=s₁.os/\AllBare s'.gens) s₁) :
  WalkO q loose XP YP l.row.toRowW d [] (λf vs=>PySem.call f vs):=by
 intro w s₀ s₁ mg mb G Y fa o pm cd doc dV kV ho hd hcd hD hmg hg args vals as hpre hlay hrd hwl hlo
 obtain rfl:dV=.none:=Dflts.none hD hdf
 obtain rfl:kV=.none:=Dflts.noKw hD
 obtain⟨a,vs,ns,rfl,rfl,hobj,hints,hlen⟩:=wT hn hpre hwl
 refine enter_call (codeAny_mono (call w s₀ s₁ mg mb fa o pm cd doc a vs ns G Y ho (fd_plain hd) hcd hmg hobj hints hlen hg) λr s' hq=>?_)
 obtain⟨rfl,h2,h3,h4⟩:=hq
 exact⟨.inl ⟨.bool true,.bool true,[],rfl,λ_=>rfl,.bool true,w9 l _,λ_=>⟨List.Pairwise.nil,λ_ hm=>(nomatch hm)⟩⟩,h2,h3,h4⟩
section
end
end Att
namespace L2
open PyProof.Rows
theorem pN:∀{vs:List Value} {ns:List Int},IntsAre vs ns->aM (ns.map V.int) vs
 | _,_,.nil=>.nil
 | _,_,.cons n t h=>.cons ⟨t,rfl⟩ (pN h)
def Only(H:Hp):Prop:=∀b,H b=none\/∃o xs,H b=some (.frz o (.lst xs))
theorem Ad{P:Program}{w:World}{K:ε}{mg mb:Str->Option Value}{CX:CXT}{k:Nat}{fa a:Addr}{fd:FuncData}{x:Str}{sp:Sp}{s₁:Shared}{vs:List Value}{ns:List Int}
  (KX:K.In s₁.heap) (hns:s₁.heap.Ns mainGlobals mg) (hb:s₁.heap.Ns builtinsNs mb) (hbb:∀x:Str,x ≠ "__name__" -> mb x=bootBuiltins x) (hlim:s₁.heap.NoLimit) (hg:s₁.gens=#[])
  (ha:s₁.heap.get? a=some { cls:=.type "list",data:=.seq vs.toArray }) (hi:IntsAre vs ns) (hl:ns.length<=sizeLine) (hr:Room k callerA)
  (F:∀base:Heap,K.In base->base.Ns mainGlobals mg->FnOk P w K mg base CX k fa fd [x] sp) (hbind:∀(s:Shared) (u:Value),BindsTo s fd ⟨[u],[]⟩ [(x,u)])
  (hsp:∀H:Hp,Only H->SqL K H a (ns.map V.int)->sp [.ref a] H (λv _=>v=.bl true) λ_ _ _=>False)
  (hCX:∀H e s',CX [] H s₁ (λ_ _ _=>False) e s'->False) :
  codeAny (model P w) callerA (.call (.ref fa) ⟨[.ref a],[]⟩) (λr s'=>r=.ok (.ret (.bool true))/\OldK s₁.heap s'.heap/\s'.os=s₁.os/\AllBare s'.gens) s₁:=by
 have rv:=pN hi
 have lenV:=hi.length
 have core:∀H:Hp,Only H->SqL K H a (ns.map V.int)->HOk P w H s₁.heap->(∀b,H b≠none->b=a)->(H a≠none->K.lookup a=none) ->
   codeAny (model P w) callerA (.call (.ref fa) ⟨[.ref a],[]⟩) (λr s'=>r=.ok (.ret (.bool true))/\OldK s₁.heap s'.heap/\s'.os=s₁.os/\AllBare s'.gens) s₁:=by
  intro H hO hS hok hA hK
  have base_of:∀{b:Addr} {o:Obj},s₁.heap.get? b=some o->H b=none->(rH s₁.heap H).get? b=some o:=λe n=>Ap e n
  have noA:∀{b:Addr} {o:Obj} {es:Array DictEntry} {ep:Nat},s₁.heap.get? b=some o->o.data=.dict es ep->H b=none:=λ{b o es ep} e d=>by
   cases q:H b with
   | none=>rfl
   | some u =>
    have e':b=a:=hA b (by rw[q];simp)
    subst e'
    rw[ha] at e;cases e
    have d':Data.seq vs.toArray _=Data.dict es ep:=d
    cases d'
  have nsK:∀{b:Addr} {m:Str->Option Value},s₁.heap.Ns b m->(rH s₁.heap H).Ns b m:=λ{b m} ⟨o,es,ep,e,d,r⟩=>⟨o,es,ep,base_of e (noA e d),d,r⟩
  have hKb:K.In (rH s₁.heap H):=λb o e=>base_of (KX b o e) (by
   cases q:H b with
   | none=>rfl
   | some u =>
    have e':b=a:=hA b (by rw[q];simp)
    subst e'
    rw[hK (by rw[q];simp)] at e;cases e)
  have hM:Mod K mg (rH s₁.heap H):=⟨hKb,nsK hns,⟨mb,nsK hb,hbb⟩,let ⟨mc,h1,h2⟩:=hlim;⟨mc,nsK h1,h2⟩⟩
  have e0:Env0 P w K mg (rH s₁.heap H) callerA [] s₁ H:=⟨rfl,hM,λb o e=>CZ e,Nat.le_of_eq (xB _ _),trivial,λb hb=>absurd (show b∈([]:List Addr) from hb) (by simp),hok,.of_eq hg⟩
  refine codeAny_mono ((F _ hKb (nsK hns)).run callerA [] s₁ H ⟨[.ref a],[]⟩ [.ref a] [.ref a] _ _ hr e0 (hbind s₁ (.ref a)) (.cons rfl .nil) (hsp H hO hS)) λr s' h=>?_
  cases r with
  | error e=>exact(hCX H e s' h).elim
  | ok fl =>
   cases fl with
   | next=>exact False.elim h
   | brk=>exact False.elim h
   | cont=>exact False.elim h
   | ret u =>
    obtain⟨v,H',os,bare,un,hok',r',q⟩:=h
    have q':v=.bl true:=q
    subst q'
    obtain rfl:u=Value.bool true:=r'
    refine⟨rfl,OldK.of_keep λb o e=>?_,os,bare⟩
    cases q:H b with
    | none=>exact un.keep b o e q (by intro z;exact absurd (show b∈([]:List Addr) from z) (by simp)) (by simp)
    | some u =>
     rcases hO b with z | ⟨ob,xs,z⟩
     ·rw[q] at z;cases z
     ·have z2:=un.frzs b ob _ z
      obtain⟨e1,_⟩:=hok b _ z
      obtain⟨e2,_⟩:=hok' b _ z2
      rw[e] at e1;cases e1
      exact e2
 cases hk:K.lookup a with
 | some o =>
  have e:=KX a o hk
  rw[ha] at e
  cases e
  refine core (λ_=>none) (λ_=>.inl rfl) (.inr ⟨_,vs.toArray,_,hk,rfl,rfl,rfl,by rw[List.size_toArray,lenV];exact hl,by simpa using rv⟩) (λb u z=>by have z':(none:Option HO)=some u:=z;cases z') (λb z=>absurd rfl z) λz=>absurd rfl z
 | none =>
  refine core (λb=>if b=a then some (.frz { cls:=.type "list",data:=.seq vs.toArray } (.lst (ns.map V.int))) else none) (λb=>?_) (.inl (.inr ⟨{ cls:=.type "list",data:=.seq vs.toArray },if_pos rfl⟩)) (λb u z=>?_) (λb z=>?_) λ_=>hk
  ·by_cases hb:b=a
   ·exact .inr ⟨_,_,if_pos hb⟩
   ·exact .inl (if_neg hb)
  ·by_cases hb:b=a
   ·have z':=(if_pos hb).symm.trans z
    cases z'
    subst hb
    exact⟨ha,by rw[ς];exact hl,vs,_,rv,ha⟩
   ·have z':=(if_neg hb).symm.trans z
    cases z'
  ·by_cases hb:b=a
   ·exact hb
   ·exact absurd (if_neg hb) z
end L2
namespace L2
open PyProof.Rows
abbrev KOf{K:ε}{h:Heap}(_:K.In h):ε:=K
theorem Bl{l:PySem.W.OpenLaw}{n k:Nat}{q:Program}{loose:List Str}{XP:(Str->Option Value)->Heap->Prop}{YP:World->Heap->Prop}{d:DefRec}{K:Params->ε}{CX:World->CXT}{sp:World->Sp}{x:Str}
  (hn:l.most=some n) (hn2:n<=sizeLine) (hdf:d.params.defaults=[]) (hr:Room k callerA)
  (hY:∀(w:World) (h:Heap),YP w h->(K w.params).In h)
  (F:∀(w:World) (mg:Str->Option Value) (fa:Addr) (h:Heap),(K w.params).In h->h.Ns mainGlobals mg->mg d.name=some (.ref fa) ->
   ∃fd:FuncData,(∀(s:Shared) (u:Value),BindsTo s fd ⟨[u],[]⟩ [(x,u)]) /\
    ∀base:Heap,(K w.params).In base->base.Ns mainGlobals mg->FnOk l.prog w (K w.params) mg base (CX w) k fa fd [x] (sp w))
  (hsp:∀(w:World) (H:Hp) (a:Addr) (ns:List Int),ns.length<=n->Only H->SqL (K w.params) H a (ns.map V.int)->sp w [.ref a] H (λv _=>v=.bl true) λ_ _ _=>False)
  (hCX:∀(w:World) (H:Hp) (s:Shared) (e:Value) (s':Shared),CX w [] H s (λ_ _ _=>False) e s'->False) :
  PySem.W.WalkO q loose XP YP l.row.toRowW d [] (λf vs=>PySem.call f vs):=by
 refine Att.ub hn hdf λw s₀ s₁ mg mb fa o pm cd doc a vs ns G Y ho hd hcd hmg hobj hints hlen hg=>?_
 have KX:=hY w _ Y
 obtain⟨fd,hb,hF⟩:=F w mg fa _ KX G.T.g hmg
 exact Ad KX G.T.g G.T.b G.T.builtins G.T.nolimit hg hobj hints (X8 hlen hn2) hr hF hb (λH hO hS=>hsp w H a ns hlen hO hS) λH e s'=>hCX w H s₁ e s'
end L2
namespace L2
open PyProof.Rows
noncomputable def dz(s:Stmt):Arguments:=match s with
 | .FunctionDef _ a _ _ _ _ _ _ _ _=>a
 | _=>{ posonlyargs:=[],args:=[],vararg:=none,kwonlyargs:=[],kw_defaults:=[],kwarg:=none,defaults:=[] }
noncomputable def bC(s:Stmt):List Stmt:=match s with
 | .FunctionDef _ _ b _ _ _ _ _ _ _=>b
 | _=>[]
noncomputable def ai(s:Stmt):Scope:=match s with
 | .FunctionDef _ _ _ _ _ _ sc _ _ _=>sc
 | _=>{ kind:=.function,names:=[],isGenerator:=false,isCoroutine:=false }
abbrev CX0:CXT:=λ_ _ _ _ _ _=>False
abbrev E0:XK:=λ_ _ _=>False
theorem kr:k6 CX0 X E0:=λ_ _ _ _ _ _ _ h=>h.elim
structure Fun(K:ε)(x qual:Str)(st:Stmt)(f:Addr)(fd:FuncData):Prop where
 ex:∃(oc:Value) (od:Option Addr) (kV doc pm:Value) (an:Option Addr) (cdv ct:Value) (osl:Array (Option Value)),
  fd=X6 x qual (dz st) (bC st) (ai st) .none kV doc pm an cdv ct/\K.lookup f=some ⟨oc,od,.func fd,osl⟩/\U1 K cdv qual=true
 kp:Y7 K (.ref f)=true
section
variable{P:Program}{w:World}{K:ε}{mg:Str->Option Value}{base:Heap}
theorem Fun.ok{x qual:Str}{st:Stmt}{f:Addr}{fd:FuncData}{N ps:List Str}{k:Nat}{sp:Sp}(F:Fun K x qual st f fd)(S:FnScope N ps (ai st))(len:∀vs H Q E,sp vs H Q E->vs.length=ps.length)
  (hbody:∀(cdv:Value) (A:Around) (outer:List Env) (s:Shared) (H:Hp) (vs:List V) (Q:VK) (E:XK),Room k (A.deeper (envOfC qual (ai st) s.heap.objs.size f cdv))->sp vs H Q E ->
   ∃t,PSs (kX CX0 P w K mg base N qual (ai st) f cdv A outer s H E).nox (bC st) t/\t { nx:=λ_ H'=>Q .non H',rt:=Q } (start N vs) H):FnOk P w K mg base CX0 (k+1) f fd ps sp:=by
 obtain⟨oc,od,kV,doc,pm,an,cdv,ct,osl,rfl,lk,hcd⟩:=F.ex
 refine fn_of lk hcd S len λA outer s H vs Q E hr hsp=>?_
 obtain⟨t,h,q⟩:=hbody cdv A outer s H vs Q E hr hsp
 exact⟨t,h.nox,q⟩
theorem Fun.binds{x qual:Str}{st:Stmt}{f:Addr}{fd:FuncData}{ps:List Str}(F:Fun K x qual st f fd)
  (h:∀(kV doc pm:Value) (an:Option Addr) (cdv ct:Value) (us:List Value),us.length=ps.length->bindArgs (X6 x qual (dz st) (bC st) (ai st) .none kV doc pm an cdv ct) ⟨us,[]⟩=pure (ps.zip us)):cM K fd ps []:=by
 obtain⟨oc,od,kV,doc,pm,an,cdv,ct,osl,rfl,lk,hcd⟩:=F.ex
 exact .all (h kV doc pm an cdv ct)
theorem uT{x qual:Str}{st:Stmt}{f:Addr}{oc:Value}{od an:Option Addr}{osl:Array (Option Value)}{kV doc pm cdv ct:Value}(l:K.lookup f=some ⟨oc,od,.func (X6 x qual (dz st) (bC st) (ai st) .none kV doc pm an cdv ct),osl⟩)
  (c:U1 K cdv qual=true) (k:Y7 K (.ref f)=true):Fun K x qual st f (X6 x qual (dz st) (bC st) (ai st) .none kV doc pm an cdv ct):=⟨⟨oc,od,kV,doc,pm,an,cdv,ct,osl,rfl,l,c⟩,k⟩
end
theorem v5(hr:Room k A):A.units+1<cLine:=Nat.lt_of_le_of_lt (Nat.add_le_add_left (by decide:1<=64) _) hr.units
section
theorem pv(i:Nat)(hN:X.N[i]?=some x:=by rfl)(hv:Vis X.env.scope x:=by first | exact Or.inl rfl | exact Or.inr (Or.inl rfl) | exact Or.inr (Or.inr rfl))(hd:(x==("__debug__" : Str))=false:=by decide)
  (hcd:(x==("__classdict__" : Str))=false:=by decide):PE X (.Name x pos) (ld i):=pe_var hN hv hd hcd
end
def aE(H H':Hp):Prop:=∀b o,H b=some o->H' b=some o
theorem aE.refl(H:Hp):aE H H:=λ_ _ h=>h
theorem aE.trans{H H1 H2:Hp}(a:aE H H1)(b:aE H1 H2):aE H H2:=λc o h=>b c o (a c o h)
end L2
namespace DL
open PyProof.Rows L2
abbrev D:=PyData
abbrev St:=L2.St
structure XD where
 cls:Str
 flds:List (Str×D)
abbrev M(α:Type):=Option (Except XD α)
noncomputable def M.ret{α:Type}(a:α):M α:=some (.ok a)
noncomputable def M.thn(r:M α)(f:α->M β):M β:=match r with
 | none=>none
 | some (.ok a)=>f a
 | some (.error x)=>some (.error x)
noncomputable def M.lift(r:Option α):M α:=match r with
 | none=>none
 | some a=>some (.ok a)
def ok(G:XD->Prop)(r:M α)(k:α->Prop):Prop:=match r with
 | none=>False
 | some (.ok a)=>k a
 | some (.error x)=>G x
def GS(G:XD->Hp->Prop)(Hr:Hp)(x:XD):Prop:=∀H',aE Hr H'->G x H'
theorem ah(h:ok G r k)(f:∀a,k a->k' a):ok G r k':=by
 match r,h with
 | some (.ok a),h=>exact f a h
 | some (.error x),h=>exact h
theorem ao(h:ok G (r.thn f) k):ok G r (λa=>ok G (f a) k):=by
 match r,h with
 | some (.ok a),h=>exact h
 | some (.error x),h=>exact h
theorem zH(h:ok G (M.ret a) k):k a:=h
theorem b5(h:ok G (M.lift r) k):∃a,r=some a/\k a:=by
 match r,h with
 | some a,h=>exact⟨a,rfl,h⟩
theorem ay(a:α)(f:α->M β):(M.ret a).thn f=f a:=rfl
theorem sv(a:α)(f:α->M β):M.thn (some (.ok a)) f=f a:=rfl
theorem mw(a:α):M.lift (some a)=M.ret a:=rfl
def KL(K:ε)(a:Addr)(xs:List V):Prop :=
 ∃(o:Obj) (its:Array Value) (n:Nat),K.lookup a=some o/\o.cls=.type "list" /\ o.dict=none/\o.data=.seq its n/\its.size<=sizeLine/\aM xs its.toList
noncomputable def gw:Key->D
 | .inl i=>.int i
 | .inr x=>.str x
abbrev iY(nm:Str)(es:List (Str×D)):D:=.dict [(.none,.tuple (.str nm::es.map λe=>.tuple [.str e.1,e.2]))]
def Mu(H:Hp)(l:Addr):Prop:=(∃xs,H l=some (.lst xs))\/(∃kvs,H l=some (.dK kvs))\/∃C dx fs,H l=some (.ins C dx fs)
mutual
inductive Rep(K:ε)(O:List Addr)(H:Hp):V->D->Prop
 | non:Rep K O H .non .none
 | bl (b:Bool):Rep K O H (.bl b) (.bool b)
 | int (i:Int):Rep K O H (.int i) (.int i)
 | str (x:Str):Rep K O H (.str x) (.str x)
 | tup {a:Addr} {xs:List V} {ds:List D} (h:SqT K H a xs) (r:Reps K O H xs ds):Rep K O H (.ref a) (.tuple ds)
 | lst {a:Addr} {xs:List V} {ds:List D} (h:Rd H a (.lst xs)) (n:a∉O) (r:Reps K O H xs ds):Rep K O H (.ref a) (.list ds)
 | lstK {a:Addr} {xs:List V} {ds:List D} (h:KL K a xs) (r:Reps K O H xs ds):Rep K O H (.ref a) (.list ds)
 | dct {a:Addr} {kvs:List (Key×V)} {es:List (Key×D)} (h:Rd H a (.dK kvs)) (n:a∉O) (hk:kvs.map (·.1)=es.map (·.1)) (r:Reps K O H (kvs.map (·.2)) (es.map (·.2))):Rep K O H (.ref a) (.dict (es.map λe=>(gw e.1,e.2)))
 | ins {a C dx:Addr} {nm:Str} {fs:List (Str×V)} {es:List (Str×D)} (hN:Ξ K mainGlobals nm=some (some (.ref C))) (h:H a=some (.ins C dx fs)) (n:a∉O) (hk:fs.map (·.1)=es.map (·.1)) (r:Reps K O H (fs.map (·.2)) (es.map (·.2))):Rep K O H (.ref a) (iY nm es)
inductive Reps(K:ε)(O:List Addr)(H:Hp):List V->List D->Prop
 | nil:Reps K O H [] []
 | cons {v:V} {d:D} {vs:List V} {ds:List D} (r:Rep K O H v d) (rs:Reps K O H vs ds):Reps K O H (v::vs) (d::ds)
end
structure To(O O':List Addr)(H H':Hp):Prop where
 t:∀b xs,Rd H b (.tup xs)->Rd H' b (.tup xs)
 l:∀b xs,b∉O->Rd H b (.lst xs)->b∉O'/\Rd H' b (.lst xs)
 d:∀b xs,b∉O->Rd H b (.dK xs)->b∉O'/\Rd H' b (.dK xs)
 i:∀b C dx fs,b∉O->H b=some (.ins C dx fs)->b∉O'/\H' b=some (.ins C dx fs)
section
variable{K:ε}{O O':List Addr}{H H':Hp}
theorem To.sqT(k:To O O' H H'){a:Addr}{xs:List V}(h:SqT K H a xs):SqT K H' a xs:=by
 rcases h with h | h
 ·exact .inl (k.t a xs h)
 ·exact .inr h
mutual
theorem Rep.to(k:To O O' H H'):∀{v:V} {d:D},Rep K O H v d->Rep K O' H' v d
 | _,_,.non=>.non
 | _,_,.bl b=>.bl b
 | _,_,.int i=>.int i
 | _,_,.str x=>.str x
 | _,_,.tup h r=>.tup (k.sqT h) (Reps.to k r)
 | _,_,.lst h n r=>.lst (k.l _ _ n h).2 (k.l _ _ n h).1 (Reps.to k r)
 | _,_,.lstK h r=>.lstK h (Reps.to k r)
 | _,_,.dct h n hk r=>.dct (k.d _ _ n h).2 (k.d _ _ n h).1 hk (Reps.to k r)
 | _,_,.ins hN h n hk r=>.ins hN (k.i _ _ _ _ n h).2 (k.i _ _ _ _ n h).1 hk (Reps.to k r)
theorem Reps.to(k:To O O' H H'):∀{vs:List V} {ds:List D},Reps K O H vs ds->Reps K O' H' vs ds
 | _,_,.nil=>.nil
 | _,_,.cons r rs=>.cons (Rep.to k r) (Reps.to k rs)
end
theorem aE.rd(s:aE H H')(h:Rd H b o):Rd H' b o:=by
 rcases h with h | ⟨u,h⟩
 ·exact .inl (s _ _ h)
 ·exact .inr ⟨u,s _ _ h⟩
theorem To.same(s:aE H H'):To O O H H':=⟨λb xs h=>aE.rd s h,λb xs n h=>⟨n,aE.rd s h⟩,λb xs n h=>⟨n,aE.rd s h⟩,λb C dx fs n h=>⟨n,s _ _ h⟩⟩
theorem To.less(s:∀b,b∈O'->b∈O):To O O' H H:=⟨λb xs h=>h,λb xs n h=>⟨λz=>n (s b z),h⟩,λb xs n h=>⟨λz=>n (s b z),h⟩,λb C dx fs n h=>⟨λz=>n (s b z),h⟩⟩
theorem Rep.same(s:aE H H'){v:V}{d:D}(r:Rep K O H v d):Rep K O H' v d:=r.to (.same s)
theorem Reps.same(s:aE H H'){v:List V}{d:List D}(r:Reps K O H v d):Reps K O H' v d:=r.to (.same s)
theorem Rd.ne_new(h:Rd H b o)(hl:H l=none):b≠l:=by
 rcases h with h | ⟨u,h⟩
 ·exact aC h hl
 ·exact aC h hl
theorem aK(hl:H l=none):aE H (upd H l o):=λb u e=>by
 rw[upd_ne (aC e hl)]
 exact e
theorem To.own{l:Addr}{o:HO}(hl:H l=none):To O (l::O) H (upd H l o) :=
 ⟨λb xs h=>aE.rd (aK hl) h,λb xs n h=>⟨λz=>by
  rcases ψ.mp z with z | z
  ·exact Rd.ne_new h hl z
  simp_all,aE.rd (aK hl) h⟩,λb xs n h=>⟨λz=>by
  rcases ψ.mp z with z | z
  ·exact Rd.ne_new h hl z
  simp_all,aE.rd (aK hl) h⟩,λb C dx fs n h=>⟨λz=>by
  simp_all,aK hl _ _ h⟩⟩
theorem To.set{l:Addr}{xs ys:List V}(hl:H l=some (.lst xs))(ho:l∈O):To O O H (upd H l (.lst ys)):=by
 have keep:∀{b:Addr} {o:HO},b≠l->Rd H b o->Rd (upd H l (.lst ys)) b o:=λ{b o} hb h=>by
  rcases h with h | ⟨u,h⟩
  ·exact .inl (by rw[upd_ne hb];exact h)
  ·exact .inr ⟨u,by rw[upd_ne hb];exact h⟩
 walk_at "e"
theorem To.setD{l:Addr}{xs:List (Key×V)}{o:HO}(hl:H l=some (.dK xs))(ho:l∈O):To O O H (upd H l o):=by
 have keep:∀{b:Addr} {u:HO},b≠l->Rd H b u->Rd (upd H l o) b u:=λ{b u} hb h=>by
  rcases h with h | ⟨u,h⟩
  ·exact .inl (by rw[upd_ne hb];exact h)
  ·exact .inr ⟨u,by rw[upd_ne hb];exact h⟩
 walk_at "e"
theorem Rep.int_inv{v:V}{i:Int}(r:Rep K O H v (.int i)):v=.int i:=by cases r;rfl
theorem Rep.bool_inv{v:V}{i:Bool}(r:Rep K O H v (.bool i)):v=.bl i:=by cases r;rfl
theorem Rep.str_inv{v:V}{i:Str}(r:Rep K O H v (.str i)):v=.str i:=by cases r;rfl
theorem Rep.tup_inv{v:V}{ds:List D}(r:Rep K O H v (.tuple ds)):∃a xs,v=.ref a/\SqT K H a xs/\Reps K O H xs ds:=by
 cases r with
 | tup h r=>exact⟨_,_,rfl,h,r⟩
theorem Rep.lst_inv{v:V}{ds:List D}(r:Rep K O H v (.list ds)):∃a xs,v=.ref a/\SqL K H a xs/\Reps K O H xs ds:=by
 cases r with
 | lst h n r=>exact⟨_,_,rfl,.inl h,r⟩
 | lstK h r=>exact⟨_,_,rfl,.inr h,r⟩
noncomputable def jh:D->Bool
 | .dict [(.none,_)]=>false
 | _=>true
theorem Rep.dct_inv{v:V}{X:List (D×D)}(r:Rep K O H v (.dict X))(hi:jh (.dict X)=true):∃(a:Addr) (kvs:List (Key×V)) (es:List (Key×D)),v=.ref a/\X=es.map (λe=>(gw e.1,e.2))/\Rd H a (.dK kvs)/\a∉O/\kvs.map (·.1)=es.map (·.1)/\Reps K O H (kvs.map (·.2)) (es.map (·.2)):=by
 generalize hd:PyData.dict X=d at r
 cases r with
 | dct h n hk r =>
  cases hd
  exact⟨_,_,_,rfl,rfl,h,n,hk,r⟩
 | ins hN h n hk r =>
  rw[hd] at hi
  cases hi
 | _=>cases hd
theorem Reps.length:∀{vs:List V} {ds:List D},Reps K O H vs ds->vs.length=ds.length
 | _,_,.nil=>rfl
 | _,_,.cons _ rs=>congrArg (· + 1) (Reps.length rs)
theorem Reps.get:∀{vs:List V} {ds:List D} {i:Nat} {d:D},Reps K O H vs ds->ds[i]?=some d->∃v,vs[i]?=some v/\Rep K O H v d
 | _,_,_,_,.nil,e=>by simp at e
 | _,_,0,_,.cons r _,e=>by simp_all
 | _,_,i+1,d,.cons _ rs,e=>by
  obtain⟨u,h1,h2⟩:=Reps.get rs (by assumption)
  simp_all
theorem Reps.append:∀{xs ys:List V} {ds es:List D},Reps K O H xs ds->Reps K O H ys es->Reps K O H (xs++ys) (ds++es)
 | _,_,_,_,.nil,s=>s
 | _,_,_,_,.cons r t,s=>.cons r (Reps.append t s)
theorem Reps.take:∀{xs:List V} {ds:List D} (n:Nat),Reps K O H xs ds->Reps K O H (xs.take n) (ds.take n)
 | _,_,0,_=>.nil
 | _,_,_+1,.nil=>.nil
 | _,_,n+1,.cons r t=>.cons r (Reps.take n t)
theorem Reps.drop:∀{xs:List V} {ds:List D} (n:Nat),Reps K O H xs ds->Reps K O H (xs.drop n) (ds.drop n)
 | _,_,0,r=>r
 | _,_,_+1,.nil=>.nil
 | _,_,n+1,.cons _ t=>Reps.drop n t
theorem Reps.ints(ns:List Int):Reps K O H (ns.map V.int) (ns.map ζ):=by
 induction ns with
 | nil=>exact .nil
 | cons n ns ih=>exact .cons (.int n) ih
theorem Reps.atI{vs:List V}{ds:List D}{i:Int}{d:D}(r:Reps K O H vs ds)(h:L2.atI ds i=some d):∃v,L2.atI vs i=some v/\Rep K O H v d:=by
 unfold L2.atI at h ⊢
 rw[r.length]
 cases e:ixN ds.length i with
 | none=>simp_all
 | some j =>
  rw[e] at h
  exact r.get h
end
inductive Sl where
 | un
 | vl (d:D)
 | ow (ds:List D)
 | od (es:List (Key×D))
 | ex (a:Addr)
abbrev DS:=List Sl
def DU(K:ε)(O:List Addr)(H:Hp)(o:Option (Option V)):Sl->Prop
 | .un=>True
 | .vl d=>∃v,o=some (some v)/\Rep K O H v d
 | .ow ds=>∃l xs,o=some (some (.ref l))/\l∈O/\H l=some (.lst xs)/\Reps K O H xs ds
 | .od es=>∃l kvs,o=some (some (.ref l))/\l∈O/\H l=some (.dK kvs)/\kvs.map (·.1)=es.map (·.1)/\Reps K O H (kvs.map (·.2)) (es.map (·.2))
 | .ex a=>o=some (some (.ref a))
def Sl.own:Sl->Prop
 | .ow _=>True
 | .od _=>True
 | _=>False
theorem Mu.same(s:aE H H')(h:Mu H l):Mu H' l:=by
 rcases h with ⟨xs,h⟩ | ⟨xs,h⟩ | ⟨C,dx,fs,h⟩
 ·exact .inl ⟨xs,s _ _ h⟩
 ·exact .inr (.inl ⟨xs,s _ _ h⟩)
 ·exact .inr (.inr ⟨C,dx,fs,s _ _ h⟩)
theorem Mu.upd_ne(n:a≠l)(h:Mu H a):Mu (upd H l o) a:=by
 rcases h with ⟨xs,h⟩ | ⟨xs,h⟩ | ⟨C,dx,fs,h⟩
 ·exact .inl ⟨xs,by rw[L2.upd_ne n];exact h⟩
 ·exact .inr (.inl ⟨xs,by rw[L2.upd_ne n];exact h⟩)
 ·exact .inr (.inr ⟨C,dx,fs,by rw[L2.upd_ne n];exact h⟩)
theorem Mu.new(hl:H l=none)(h:Mu H a):Mu (upd H l o) a:=h.same (aK hl)
theorem Mu.lst{H:Hp}{l:Addr}{xs:List V}(h:H l=some (.lst xs)):Mu H l:=.inl ⟨xs,h⟩
theorem Mu.some{H:Hp}{l:Addr}(h:Mu H l):∃o,H l=some o:=by
 rcases h with ⟨xs,h⟩ | ⟨xs,h⟩ | ⟨C,dx,fs,h⟩
 all_goals simp_all
structure Ev(K:ε)(Hr:Hp)(O:List Addr)(H:Hp)(σ:St)(δ:DS):Prop where
 root:aE Hr H
 oo:∀l∈O,Mu H l
 len:σ.length=δ.length
 at_:∀(i:Nat) (s:Sl),δ[i]?=some s->DU K O H σ[i]? s
 dis:∀(i j:Nat) (l:Addr) (ds es:List D),i≠j->δ[i]?=some (.ow ds)->δ[j]?=some (.ow es)->σ[i]?=some (some (.ref l))->σ[j]? ≠ some (some (.ref l))
section
variable{K:ε}{Hr:Hp}{O:List Addr}{H H':Hp}{σ:St}{δ:DS}
theorem Ev.same(s:aE H H')(e:Ev K Hr O H σ δ):Ev K Hr O H' σ δ:=by
 refine⟨e.root.trans s,λl hl=>(e.oo l hl).same s,e.len,λi sl h=>?_,e.dis⟩
 have q:=e.at_ i sl h
 cases sl with
 | un=>trivial
 | ex a=>exact q
 | vl d =>
  obtain⟨v,h1,r⟩:=q
  exact⟨v,h1,r.same s⟩
 | ow ds =>
  obtain⟨l,xs,h1,h2,h3,r⟩:=q
  exact⟨l,xs,h1,h2,s _ _ h3,r.same s⟩
 | od es =>
  obtain⟨l,kvs,h1,h2,h3,hk,r⟩:=q
  exact⟨l,kvs,h1,h2,s _ _ h3,hk,r.same s⟩
theorem Ev.val{i:Nat}{d:D}(e:Ev K Hr O H σ δ)(h:δ[i]?=some (.vl d)):∃v,σ[i]?=some (some v)/\Rep K O H v d:=e.at_ i _ h
theorem aW{α:Type}{l:List α}{i j:Nat}{a:α}:(l.set i a)[j]?=if i=j then (if i<l.length then some a else none) else l[j]?:=by
 rw[List.getElem?_set]
theorem Ev.set{i:Nat}{v:V}{d:D}(e:Ev K Hr O H σ δ)(r:Rep K O H v d):Ev K Hr O H (σ.set i (some v)) (δ.set i (.vl d)):=by
 refine⟨e.root,e.oo,by rw[Λ,Λ];exact e.len,λj sl h=>?_,λj k l ds es hjk h1 h2 h3 h4=>?_⟩
 ·rw[aW] at h ⊢
  by_cases hij:i=j
  ·rw[if_pos hij] at h ⊢
   by_cases hl:i<δ.length
   ·rw[if_pos hl] at h
    rw[if_pos (by rw[e.len];exact hl)]
    cases h
    exact⟨v,rfl,r⟩
   simp_all
  ·rw[if_neg hij] at h ⊢
   exact e.at_ j sl h
 ·rw[aW] at h1 h2 h3 h4
  by_cases hij:i=j
  ·simp_all
  ·by_cases hik:i=k
   ·simp_all
   ·rw[if_neg hij] at h1 h3
    rw[if_neg hik] at h2 h4
    exact e.dis j k l ds es hjk h1 h2 h3 h4
end
end DL
namespace DL
open PyProof.Rows L2
def PD(X:Cx)(G:XD->Hp->Prop)(e:Expr)(f:DS->M D):Prop :=
 ∃t,PE X e t/\∀{Hr:Hp} (δ:DS) (O:List Addr) (σ:St) (H:Hp) (Q:VK),Ev X.K Hr O H σ δ->ok (GS G Hr) (f δ) (λd=>∀v H',aE H H'->Rep X.K O H' v d->Q v H')->t σ H Q
def PDT(X:Cx)(G:XD->Hp->Prop)(e:Expr)(f:DS->M Bool):Prop :=
 ∃t,PT X e t/\∀{Hr:Hp} (δ:DS) (O:List Addr) (σ:St) (H:Hp) (Q:Bool->Hp->Prop),Ev X.K Hr O H σ δ->ok (GS G Hr) (f δ) (λb=>∀H',aE H H'->Q b H')->t σ H Q
def PDW(X:Cx)(G:XD->Hp->Prop)(e:Expr)(f:DS->M Bool):Prop :=
 ∃t,PW X e t/\∀{Hr:Hp} (δ:DS) (O:List Addr) (σ:St) (H:Hp) (Q:Bool->Hp->Prop),Ev X.K Hr O H σ δ->ok (GS G Hr) (f δ) (λb=>∀H',aE H H'->Q b H')->t σ H Q
def PDA(X:Cx)(G:XD->Hp->Prop)(es:List Expr)(f:DS->M (List D)):Prop :=
 (∀δ ds,f δ=some (.ok ds)->ds.length=es.length)/\∃t,PA X es t/\∀{Hr:Hp} (δ:DS) (O:List Addr) (σ:St) (H:Hp) (Q:List V->Hp->Prop),Ev X.K Hr O H σ δ->ok (GS G Hr) (f δ) (λds=>∀vs H',aE H H'->Reps X.K O H' vs ds->Q vs H')->t σ H Q
section
variable{X:Cx}{G:XD->Hp->Prop}{a b c e:Expr}{es aB:List Expr}{f g h:DS->M D}{fb gb:DS->M Bool}{fa:DS->M (List D)}{pos:Pos}
noncomputable def ac(i:Nat):DS->M D:=λδ=>match δ[i]? with
 | some (.vl d)=>M.ret d
 | _=>none
theorem jy(h:PE X e (ld i)):PD X G e (ac i):=by
 refine⟨_,h,λδ O σ H Q E k=>?_⟩
 unfold ac at k
 split at k
 ·rename_i d hd
  obtain⟨v,e1,r⟩:=E.val hd
  exact⟨v,e1,k v H (aE.refl H) r⟩
 ·exact k.elim
noncomputable def dC(d:D):DS->M D:=λ_=>M.ret d
theorem eN{i j pos}:PD X G (.Constant (.int i) j pos) (dC (.int i)):=⟨_,pe_int,λ_ _ _ H Q _ k=>k _ H (aE.refl H) (.int i)⟩
theorem pd_bl{i j pos}:PD X G (.Constant (.bool i) j pos) (dC (.bool i)):=⟨_,pe_bl,λ_ _ _ H Q _ k=>k _ H (aE.refl H) (.bl i)⟩
theorem pd_non{j pos}:PD X G (.Constant .none j pos) (dC .none):=⟨_,pe_non,λ_ _ _ H Q _ k=>k _ H (aE.refl H) .non⟩
theorem qY{x j pos}:PD X G (.Constant (.str x) j pos) (dC (.str x)):=⟨_,pe_str,λ_ _ _ H Q _ k=>k _ H (aE.refl H) (.str x)⟩
def DOp(X:Cx)(sem:Value->Value->Sem Value)(h:D->D->Option D):Prop :=
 ∃r:R2,OpR X sem r/\∀(O:List Addr) (H:Hp) (x y d:D) (v u:V) (Q:VK),(∀l∈O,Mu H l)->Rep X.K O H v x->Rep X.K O H u y->h x y=some d->(∀v' H',aE H H'->Rep X.K O H' v' d->Q v' H')->r v u H Q
noncomputable def d2(h:D->D->Option D)(f g:DS->M D):DS->M D:=λδ=>(f δ).thn λx=>(g δ).thn λy=>M.lift (h x y)
theorem qX{r:R2}{h:D->D->Option D}{ta tb:TE}
  (ho:∀(O:List Addr) (H:Hp) (x y d:D) (v u:V) (Q:VK),(∀l∈O,Mu H l)->Rep X.K O H v x->Rep X.K O H u y->h x y=some d->(∀v' H',aE H H'->Rep X.K O H' v' d->Q v' H')->r v u H Q)
  (ha:∀{Hr:Hp} (δ:DS) (O:List Addr) (σ:St) (H:Hp) (Q:VK),Ev X.K Hr O H σ δ->ok (GS G Hr) (f δ) (λd=>∀v H',aE H H'->Rep X.K O H' v d->Q v H')->ta σ H Q)
  (hb:∀{Hr:Hp} (δ:DS) (O:List Addr) (σ:St) (H:Hp) (Q:VK),Ev X.K Hr O H σ δ->ok (GS G Hr) (g δ) (λd=>∀v H',aE H H'->Rep X.K O H' v d->Q v H')->tb σ H Q)
  {Hr:Hp} (δ:DS) (O:List Addr) (σ:St) (H:Hp) (Q:VK) (E:Ev X.K Hr O H σ δ) (k:ok (GS G Hr) (d2 h f g δ) (λd=>∀v H',aE H H'->Rep X.K O H' v d->Q v H')):tOp r ta tb σ H Q:=by
 refine ha δ O σ H _ E (ah (ao k) λx kx v H1 s1 rx=>?_)
 refine hb δ O σ H1 _ (E.same s1) (ah (ao kx) λy ky u H2 s2 ry=>?_)
 obtain⟨d,hd,kd⟩:=b5 ky
 exact ho O H2 x y d v u Q (E.same (s1.trans s2)).oo (rx.same s2) ry hd λv' H3 s3 r3=>kd v' H3 ((s1.trans s2).trans s3) r3
theorem oC{op:Operator}{h:D->D->Option D}(ho:DOp X (binaryOp op) h)(ha:PD X G a f)(hb:PD X G b g):PD X G (.BinOp a op b pos) (d2 h f g):=by
 obtain⟨r,hr,ho⟩:=ho
 obtain⟨ta,pa,ha⟩:=ha
 obtain⟨tb,pb,hb⟩:=hb
 exact⟨_,vM hr pa pb,qX ho ha hb⟩
theorem pd_cmp{op:CmpOp}{h:D->D->Option D}(ho:DOp X (compareOp op) h)(ha:PD X G a f)(hb:PD X G b g)(hm:behindInMarks op b=false):PD X G (.Compare a [op] [b] pos) (d2 h f g):=by
 obtain⟨r,hr,ho⟩:=ho
 obtain⟨ta,pa,ha⟩:=ha
 obtain⟨tb,pb,hb⟩:=hb
 exact⟨_,Cd hr pa pb hm,qX ho ha hb⟩
noncomputable def dB(f:DS->M D):DS->M Bool:=λδ=>(f δ).thn λd=>match d with
 | .bool b=>M.ret b
 | _=>none
theorem sV(q:ok (GS G Hr) (dB f δ) k):ok (GS G Hr) (f δ) (λd=>∃b,d=.bool b/\k b):=by
 refine ah (ao q) λd z=>?_
 cases d with
 | bool b=>exact⟨b,rfl,z⟩
 | _=>exact z.elim
theorem Cn{op:CmpOp}{h:D->D->Option D}(ho:DOp X (compareOp op) h)(ha:PD X G a f)(hb:PD X G b g)(hm:behindInMarks op b=false):PDT X G (.Compare a [op] [b] pos) (dB (d2 h f g)):=by
 obtain⟨r,hr,ho⟩:=ho
 obtain⟨ta,pa,ha⟩:=ha
 obtain⟨tb,pb,hb⟩:=hb
 refine⟨_,B3 hr pa pb hm,λδ O σ H Q E k=>?_⟩
 refine qX ho ha hb δ O σ H _ E (ah (sV k) λd z v H' s r=>?_)
 obtain⟨b,rfl,z⟩:=z
 exact⟨b,r.bool_inv,z H' s⟩
theorem Ci(he:PD X G e f)(h1:∀whole,isTrue e X.env whole=(do let v <- whole;standAt e.pos;holding [v] (truthy v)):=by intro _;rfl):PDT X G e (dB f):=by
 obtain⟨t,p,he⟩:=he
 refine⟨_,pt_val p h1,λδ O σ H Q E k=>?_⟩
 refine he δ O σ H _ E (ah (sV k) λd z v H' s r=>?_)
 obtain⟨b,rfl,z⟩:=z
 exact⟨b,r.bool_inv,z H' s⟩
noncomputable def jT(fb gb:DS->M Bool):DS->M Bool:=λδ=>(fb δ).thn λc=>if c=true then gb δ else M.ret false
noncomputable def dOr(fb gb:DS->M Bool):DS->M Bool:=λδ=>(fb δ).thn λc=>if c=true then M.ret true else gb δ
noncomputable def nj(fb:DS->M Bool):DS->M Bool:=λδ=>(fb δ).thn λc=>M.ret (!c)
theorem zf(ha:PDT X G a fb):PDW X G (.BoolOp .And [a] pos) fb:=by
 obtain⟨t,p,ha⟩:=ha
 exact⟨_,BW p,ha⟩
theorem Cf(ha:PDT X G a fb):PDW X G (.BoolOp .Or [a] pos) fb:=by
 obtain⟨t,p,ha⟩:=ha
 exact⟨_,pw_or1 p,ha⟩
theorem Cg(ha:PDT X G a fb)(hb:PDW X G (.BoolOp .And (b::aB) pos) gb):PDW X G (.BoolOp .And (a::b::aB) pos) (jT fb gb):=by
 obtain⟨t,p,ha⟩:=ha
 obtain⟨u,q,hb⟩:=hb
 refine⟨_,pw_and p q,λδ O σ H Q E k=>?_⟩
 refine ha δ O σ H _ E (ah (ao k) λc z H1 s1=>?_)
 cases c with
 | true =>
  exact hb δ O σ H1 Q (E.same s1) (ah z λb y H2 s2=>y H2 (s1.trans s2))
 | false =>
  exact z H1 s1
theorem pdw_or(ha:PDT X G a fb)(hb:PDW X G (.BoolOp .Or (b::aB) pos) gb):PDW X G (.BoolOp .Or (a::b::aB) pos) (dOr fb gb):=by
 obtain⟨t,p,ha⟩:=ha
 obtain⟨u,q,hb⟩:=hb
 refine⟨_,pw_or p q,λδ O σ H Q E k=>?_⟩
 refine ha δ O σ H _ E (ah (ao k) λc z H1 s1=>?_)
 cases c with
 | true =>
  exact z H1 s1
 | false =>
  exact hb δ O σ H1 Q (E.same s1) (ah z λb y H2 s2=>y H2 (s1.trans s2))
theorem PDW.t(h:PDW X G e fb):PDT X G e fb:=by
 obtain⟨t,p,h⟩:=h
 exact⟨_,p.pt,h⟩
theorem Cl(ha:PDT X G a fb):PDT X G (.UnaryOp .Not a pos) (nj fb):=by
 obtain⟨t,p,ha⟩:=ha
 refine⟨_,pt_not p,λδ O σ H Q E k=>?_⟩
 exact ha δ O σ H _ E (ah (ao k) λc z H1 s1=>z H1 s1)
noncomputable def Bb(f g:DS->M D):DS->M D:=λδ=>(dB f δ).thn λc=>if c=true then g δ else M.ret (.bool false)
noncomputable def Ba(f:DS->M D):DS->M D:=λδ=>(dB f δ).thn λc=>M.ret (.bool (!c))
theorem pd_one{op}(ha:PD X G a f):PD X G (.BoolOp op [a] pos) f:=by
 assumption
theorem pd_and(ha:PD X G a f)(hb:PD X G (.BoolOp .And (b::aB) pos) g):PD X G (.BoolOp .And (a::b::aB) pos) (Bb f g):=by
 obtain⟨t,p,ha⟩:=ha
 obtain⟨u,q,hb⟩:=hb
 refine⟨_,pe_and p q,λδ O σ H Q E k=>?_⟩
 refine ha δ O σ H _ E (ah (sV (ao k)) λd z v H1 s1 r=>?_)
 obtain⟨c,rfl,z⟩:=z
 refine⟨c,r.bool_inv,?_⟩
 cases c with
 | true =>
  exact hb δ O σ H1 Q (E.same s1) (ah z λb y v H2 s2=>y v H2 (s1.trans s2))
 | false =>
  exact z _ H1 s1 (.bl false)
theorem pd_not(ha:PD X G a f):PD X G (.UnaryOp .Not a pos) (Ba f):=by
 obtain⟨t,p,ha⟩:=ha
 refine⟨_,pe_not p,λδ O σ H Q E k=>?_⟩
 refine ha δ O σ H _ E (ah (sV (ao k)) λd z v H1 s1 r=>?_)
 obtain⟨c,rfl,z⟩:=z
 exact⟨c,r.bool_inv,z _ H1 s1 (.bl _)⟩
noncomputable def dIf(c:DS->M Bool)(f g:DS->M D):DS->M D:=λδ=>(c δ).thn λb=>if b=true then f δ else g δ
theorem pd_if(hc:PDT X G c fb)(ha:PD X G a f)(hb:PD X G b g):PD X G (.IfExp c a b pos) (dIf fb f g):=by
 obtain⟨t,p,hc⟩:=hc
 obtain⟨ta,pa,ha⟩:=ha
 obtain⟨tb,pb,hb⟩:=hb
 refine⟨_,za p pa pb,λδ O σ H Q E k=>?_⟩
 refine hc δ O σ H _ E (ah (ao k) λd z H1 s1=>?_)
 cases d with
 | true =>
  exact ha δ O σ H1 Q (E.same s1) (ah z λb y v H2 s2=>y v H2 (s1.trans s2))
 | false =>
  exact hb δ O σ H1 Q (E.same s1) (ah z λb y v H2 s2=>y v H2 (s1.trans s2))
noncomputable def ak:DS->M (List D):=λ_=>M.ret []
noncomputable def ae(f:DS->M D)(g:DS->M (List D)):DS->M (List D):=λδ=>(f δ).thn λx=>(g δ).thn λxs=>M.ret (x::xs)
theorem jZ:PDA X G [] ak:=⟨λδ ds h=>by cases h;rfl,_,iS,λ_ _ _ H Q _ k=>k [] H (aE.refl H) .nil⟩
theorem fG(ha:PD X G e f)(hr:PDA X G es fa)(hs:`we:=by rfl):PDA X G (e::es) (ae f fa):=by
 obtain⟨t,p,ha⟩:=ha
 obtain⟨hl,u,q,hr⟩:=hr
 refine⟨λδ ds h=>?_,_,e8 p q hs,λδ O σ H Q E k=>?_⟩
 ·unfold ae at h
  cases e1:f δ with
  | none=>rw[e1] at h;cases h
  | some r =>
   rw[e1] at h
   cases r with
   | error x=>cases h
   | ok x =>
    cases e2:fa δ with
    | none=>rw[sv,e2] at h;cases h
    | some r2 =>
     rw[sv,e2] at h
     cases r2 with
     | error x=>cases h
     | ok xs =>
      cases h
      grind
 ·refine ha δ O σ H _ E (ah (ao k) λd z v H1 s1 r=>?_)
  refine hr δ O σ H1 _ (E.same s1) (ah (ao z) λds y vs H2 s2 rs=>?_)
  exact y (v::vs) H2 (s1.trans s2) (.cons (r.same s2) rs)
noncomputable def aJ(n:Nat):Bool:=decide (n<=16000000)
theorem bt(h:aJ n=true):n<=sizeLine:=by
 have:=of_decide_eq_true h
 rw[sizeLine_eq]
 omega
noncomputable def bM(fa:DS->M (List D)):DS->M D:=λδ=>(fa δ).thn λds=>if aJ ds.length then M.ret (.tuple ds) else none
noncomputable def kW(fa:DS->M (List D)):DS->M D:=λδ=>(fa δ).thn λds=>if aJ ds.length then M.ret (.list ds) else none
theorem im{K:ε}{O:List Addr}{H:Hp}{p:Addr}{vs:List V}{ds:List D}(hp:H p=none)(r:Reps K O H vs ds):Rep K O (upd H p (.tup vs)) (.ref p) (.tuple ds) :=
 .tup (SqT.of aA) (r.same (aK hp))
theorem zx{x1}(h:PDA X G es fa):PD X G (.Tuple es x1 pos) (bM fa):=by
 obtain⟨_,t,p,h⟩:=h
 refine⟨_,pe_tup p,λδ O σ H Q E k=>?_⟩
 refine h δ O σ H _ E (ah (ao k) λds z vs H1 s1 rs=>?_)
 by_cases hz:aJ ds.length=true
 ·rw[if_pos hz] at z
  exact⟨by rw[rs.length];exact bt hz,λp hp=>z _ _ (s1.trans (aK hp)) (im hp rs)⟩
 ·rw[if_neg hz] at z
  exact z.elim
end
end DL
namespace DL
open PyProof.Rows L2
section
variable{X:Cx}{G:XD->Hp->Prop}{a b c e:Expr}{es aB:List Expr}{f g h:DS->M D}{fb gb:DS->M Bool}{fa:DS->M (List D)}{pos:Pos}
noncomputable def ii(h:Int->Int->Option D):D->D->Option D
 | .int i,.int j=>h i j
 | _,_=>none
theorem v4{h:Int->Int->Option D}{x y d:D}(e:ii h x y=some d):∃i j,x=.int i/\y=.int j/\h i j=some d:=by
 unfold ii at e
 grind
theorem rV{sem:Value->Value->Sem Value}{g:Int->Int->V}{gd:Int->Int->D}(h:OpR X sem (rI0 g))(hg:∀O H i j,Rep X.K O H (g i j) (gd i j)):DOp X sem (ii λi j=>some (gd i j)):=by
 refine⟨_,h,λO H x y d v u Q oo rx ry e k=>?_⟩
 obtain⟨i,j,rfl,rfl,e⟩:=v4 e
 cases e
 exact⟨i,j,rx.int_inv,ry.int_inv,k _ H (aE.refl H) (hg O H i j)⟩
theorem rT{sem:Value->Value->Sem Value}{C:Int->Int->Prop}{B:Int->Int->Bool}{g:Int->Int->V}{gd:Int->Int->D}(h:OpR X sem (rI C g))(hC:∀i j,B i j=true->C i j)(hg:∀O H i j,Rep X.K O H (g i j) (gd i j)) :
  DOp X sem (ii λi j=>if B i j=true then some (gd i j) else none):=by
 refine⟨_,h,λO H x y d v u Q oo rx ry e k=>?_⟩
 obtain⟨i,j,rfl,rfl,e1⟩:=v4 e
 by_cases hb:B i j=true
 ·rw[if_pos hb] at e1
  cases e1
  exact⟨i,j,rx.int_inv,ry.int_inv,hC i j hb,k _ H (aE.refl H) (hg O H i j)⟩
 simp_all
abbrev gY:D->D->Option D:=ii λi j=>some (.int (i-j))
noncomputable def DO(i j:Int):Bool:=decide ((-18446744073709551616<i/\i<18446744073709551616)\/(-18446744073709551616<j/\j<18446744073709551616))
abbrev gH:D->D->Option D:=ii λi j=>if DO i j=true then some (.int (i*j)) else none
noncomputable def bDiv(j:Int):Bool:=decide (0<j/\j<1267650600228229401496703205376)
abbrev oI:D->D->Option D:=ii λi j=>if bDiv j=true then some (.int (i / j)) else none
abbrev eP:D->D->Option D:=ii λi j=>if decide (0<j)=true then some (.int (i % j)) else none
noncomputable def bPow(i j:Int):Bool:=decide (0<=j/\j<=1000000/\i.natAbs<18446744073709551616)
abbrev xn:D->D->Option D:=ii λi j=>if bPow i j=true then some (.int (i ^ j.toNat)) else none
theorem DB:DOp X (binaryOp .Sub) gY:=rV op_sub λ_ _ _ _=>.int _
theorem DD:DOp X (binaryOp .Mult) gH:=rT op_mul (λi j h=>by
 have h:=of_decide_eq_true h
 assumption) λ_ _ _ _=>.int _
theorem tw{j:Int}(h:0<j/\j<1267650600228229401496703205376):j.natAbs.log2<9000:=by
 have h2:j.natAbs<2 ^ 100:=by
  omega
 exact Nat.lt_trans ((Nat.log2_lt `am).mpr h2) (by decide)
theorem zG:OpR X (binaryOp .FloorDiv) (rI (λ_ j=>0<j/\j<1267650600228229401496703205376) λi j=>.int (i / j)):=opI λi j _ _ _ _ _ hc q=>by
 rw[<-Int.fdiv_eq_ediv_of_nonneg _ (Int.le_of_lt hc.1)] at q
 exact floordiv_int `am q (.inl (PyProof.noPylong_of_log2 (tw hc)))
theorem wB:DOp X (binaryOp .FloorDiv) oI:=rT zG (λi j h=>of_decide_eq_true h) λ_ _ _ _=>.int _
theorem lQ:DOp X (binaryOp .Mod) eP:=rT op_mod (λi j h=>of_decide_eq_true h) λ_ _ _ _=>.int _
theorem DC:DOp X (binaryOp .Pow) xn:=rT op_pow (λi j h=>by
 have h:=of_decide_eq_true h
 assumption) λ_ _ _ _=>.int _
abbrev oLt:D->D->Option D:=ii λi j=>some (.bool (decide (i<j)))
abbrev oGt:D->D->Option D:=ii λi j=>some (.bool (decide (j<i)))
abbrev oGe:D->D->Option D:=ii λi j=>some (.bool (decide (j<=i)))
theorem dop_lt:DOp X (compareOp .Lt) oLt:=rV op_lt λ_ _ _ _=>.bl _
theorem dop_gt:DOp X (compareOp .Gt) oGt:=rV op_gt λ_ _ _ _=>.bl _
theorem dop_ge:DOp X (compareOp .GtE) oGe:=rV op_ge λ_ _ _ _=>.bl _
theorem nin{O:List Addr}{H:Hp}(oo:∀l∈O,Mu H l){p:Addr}(hp:H p=none):p∉O:=λz=>by
 obtain⟨o,ho⟩:=(oo p z).some
 simp_all
theorem gm{K:ε}{O:List Addr}{H:Hp}{p:Addr}{vs:List V}{ds:List D}(oo:∀l∈O,Mu H l)(hp:H p=none)(r:Reps K O H vs ds):Rep K O (upd H p (.lst vs)) (.ref p) (.list ds) :=
 .lst (.inl aA) (nin oo hp) (r.same (aK hp))
theorem CQ:OpR X (binaryOp .Add) (λx y H Q=>∃a b ys,x=.ref a/\y=.ref b/\SqT X.K H a []/\SqT X.K H b ys/\Q (.ref b) H):=by
 intro pins s σ H x y v u Q I rx ry h
 obtain⟨a,b,ys,rfl,rfl,ha,hb,q⟩:=h
 cases rx
 cases ry
 obtain⟨its,r1,p1,_⟩:=I.tuple ha
 obtain⟨its2,r2,p2,_⟩:=I.tuple hb
 cases r1
 obtain⟨⟨cls,dd,data,sl⟩,ho,hc,n,hd⟩:=id p1
 obtain⟨⟨cls2,dd2,data2,sl2⟩,ho2,hc2,n2,hd2⟩:=id p2
 subst hc hd hc2 hd2
 exact concat_meets ⟨_,ho,rfl⟩ ⟨_,ho2,rfl⟩ noFill_tuple_add seq_tuple_add PySem.F.slot_tuple_add PySem.F.entry_tuple_add (PySem.F.args_tuple_add_2 _ _)
  (tuple_addW0 a b _ its2.toArray n n2 dd dd2 sl sl2 rfl) ⟨ho,ho2,⟨.ref b,H,I,rfl,q⟩⟩
theorem qZ:OpR X (binaryOp .Add) (λx y H Q=>∃l b xs zs,x=.ref l/\y=.ref b/\SqL X.K H l xs/\SqL X.K H b zs/\xs.length+zs.length<=sizeLine/\∀p,H p=none->Q (.ref p) (upd H p (.lst (xs++zs)))):=by
 intro pins s σ H x y v u Q I rx ry h
 obtain⟨l,b,xs,zs,rfl,rfl,hH,hB,hz,q⟩:=h
 cases rx
 cases ry
 obtain⟨its,r,⟨⟨cls,dd,data,sl⟩,n,e,hc,hdd,hd⟩,z⟩:=I.list hH
 obtain⟨its2,r2,⟨⟨cls2,dd2,data2,sl2⟩,n2,e2,hc2,hdd2,hd2⟩,z2⟩:=I.list hB
 have hl:=r.length
 have hl2:=r2.length
 subst hc hd hc2 hd2 hdd hdd2
 have ea:its.toArray++its2.toArray=(its++its2).toArray:=by simp
 refine concat_meets ⟨_,e,rfl⟩ ⟨_,e2,rfl⟩ noFill_list_add seq_list_add PySem.F.slot_list_add PySem.F.entry_list_add (PySem.F.args_list_add_2 _ _) (list_addW l b its.toArray its2.toArray n n2 none none sl sl2 (by simp_all)) ⟨e,e2,?_⟩
 rw[ea]
 exact⟨.ref _,_,I.lnew (r.append r2) (by simp_all),rfl,q _ I.fresh⟩
noncomputable def bf:D->D->Option D
 | .int i,.int j=>some (.int (i+j))
 | .str i,.str j=>if aJ (i.length+j.length) then some (.str (i++j)) else none
 | .tuple xs,.tuple ys=>if aJ (xs.length+ys.length) then some (.tuple (xs++ys)) else none
 | .list xs,.list ys=>if aJ (xs.length+ys.length) then some (.list (xs++ys)) else none
 | _,_=>none
theorem wC:DOp X (binaryOp .Add) bf:=by
 refine⟨_,op_add.or (uC.or (CP.or (CQ.or qZ))),λO H x y d v u Q oo rx ry e k=>?_⟩
 unfold bf at e
 split at e
 ·rename_i i j
  cases e
  exact .inl ⟨i,j,rx.int_inv,ry.int_inv,k _ H (aE.refl H) (.int _)⟩
 ·rename_i i j
  by_cases hz:aJ (i.length+j.length)=true
  ·rw[if_pos hz] at e
   cases e
   exact .inr (.inl ⟨i,j,rx.str_inv,ry.str_inv,bt hz,k _ H (aE.refl H) (.str _)⟩)
  simp_all
 ·rename_i xs ys
  by_cases hz:aJ (xs.length+ys.length)=true
  ·rw[if_pos hz] at e
   cases e
   obtain⟨p,vs,rfl,h1,r1⟩:=rx.tup_inv
   obtain⟨q,ws,rfl,h2,r2⟩:=ry.tup_inv
   by_cases hx:xs=[]
   ·subst hx
    cases r1
    exact .inr (.inr (.inr (.inl ⟨p,q,ws,rfl,rfl,h1,h2,k _ H (aE.refl H) (.tup h2 r2)⟩)))
   ·refine .inr (.inr (.inl ⟨p,q,vs,ws,rfl,rfl,h1,h2,λz=>?_,by rw[r1.length,r2.length];exact bt hz,λz=>?_,λz l hl=>?_⟩))
    ·subst z
     cases r1
     simp_all
    ·subst z
     have z2:=r2
     cases z2
     refine k _ H (aE.refl H) ?_
     simp_all
    ·exact k _ _ (aK hl) (im hl (r1.append r2))
  simp_all
 ·rename_i xs ys
  by_cases hz:aJ (xs.length+ys.length)=true
  ·rw[if_pos hz] at e
   cases e
   obtain⟨p,vs,rfl,h1,r1⟩:=rx.lst_inv
   obtain⟨q,ws,rfl,h2,r2⟩:=ry.lst_inv
   exact .inr (.inr (.inr (.inr ⟨p,q,vs,ws,rfl,rfl,h1,h2,by rw[r1.length,r2.length];exact bt hz,λl hl=>k _ _ (aK hl) (gm oo hl (r1.append r2))⟩)))
  simp_all
 simp_all
mutual
theorem Rep.reads(I:`DX):∀{v:V} {d:D} {u:Value},d.canLay0=true->Rep X.K O H v d->bm v u->∃as,Reads s.heap u d as
 | _,_,u,_,.non,q=>by cases (show u=Value.none from q);exact⟨_,.none⟩
 | _,_,u,_,.bl b,q=>by cases (show u=Value.bool b from q);exact⟨_,.bool b⟩
 | _,_,u,_,.int i,q=>by obtain⟨t,rfl⟩:=(show ∃t,u=Value.int i t from q);exact⟨_,.int i t⟩
 | _,_,u,_,.str x,q=>by obtain⟨t,rfl⟩:=(show ∃t,u=Value.str x t from q);exact⟨_,.str x t⟩
 | .ref a,_,u,hc,.tup h r,q=>by
  cases (show u=Value.ref a from q)
  obtain⟨its,rv,⟨o,h1,h2,n,h3⟩,_⟩:=I.tuple h
  obtain⟨as,ra⟩:=Reps.reads I (by simpa [V1] using hc) r rv
  exact⟨_,.tuple h1 h2 h3 ra⟩
 | .ref a,_,u,hc,.lst h n r,q=>by
  cases (show u=Value.ref a from q)
  obtain⟨its,rv,⟨o,n,h1,h2,_,h3⟩,_⟩:=I.list (.inl h)
  obtain⟨as,ra⟩:=Reps.reads I (by simpa [V1] using hc) r rv
  exact⟨_,.list h1 h2 h3 ra⟩
 | .ref a,_,u,hc,.lstK h r,q=>by
  cases (show u=Value.ref a from q)
  obtain⟨its,rv,⟨o,n,h1,h2,_,h3⟩,_⟩:=I.list (.inr h)
  obtain⟨as,ra⟩:=Reps.reads I (by simpa [V1] using hc) r rv
  exact⟨_,.list h1 h2 h3 ra⟩
 | .ref a,_,u,hc,.dct _ _ _ _,q=>by simp [V1] at hc
 | .ref a,_,u,hc,.ins _ _ _ _ _,q=>by simp [V1,iY] at hc
theorem Reps.reads(I:`DX):∀{vs:List V} {ds:List D} {us:List Value},V8 ds=true->Reps X.K O H vs ds->aM vs us->∃as,ReadsAll s.heap us ds as
 | _,_,_,_,.nil,q=>by cases q;exact⟨_,.nil⟩
 | _,_,_,hc,.cons r rs,q=>by
  rw[V8,Z2] at hc
  cases q with
  | cons p ps =>
   obtain⟨as,h1⟩:=Rep.reads I hc.1 r p
   obtain⟨bs,h2⟩:=Reps.reads I hc.2 rs ps
   exact⟨_,.cons h1 h2⟩
end
noncomputable def flat(x y:D):Bool:=x.canLay0&&y.canLay0&&decide (min x.depth y.depth<=60)
noncomputable def oEq(x y:D):Option D:=if flat x y=true then some (.bool (V4 x y)) else none
noncomputable def oNe(x y:D):Option D:=if flat x y=true then some (.bool (!PyData.eqv x y)) else none
noncomputable def rDat(X:Cx)(p:D->D->Bool):R2:=λv u H Q=>∃O x y,Rep X.K O H v x/\Rep X.K O H u y/\flat x y=true/\Q (.bl (p x y)) H
theorem j5(h:flat x y=true):x.canLay0=true/\y.canLay0=true/\min x.depth y.depth<=60:=by
 unfold flat at h
 simp_all
theorem op_eqD(hu:X.A.units+64<cLine):OpR X (compareOp .Eq) (rDat X V4):=by
 intro pins s σ H v u v' u' Q I rv ru h
 obtain⟨O,x,y,rx,ry,hf,q⟩:=h
 obtain⟨h1,h2,h3⟩:=j5 hf
 obtain⟨as,r1⟩:=rx.reads I h1 rv
 obtain⟨bs,r2⟩:=ry.reads I h2 ru
 exact SeqAt.compareEq_reads r1 r2 h1 h2 `am ⟨.bl _,H,I,rfl,q⟩
theorem op_neD(hu:X.A.units+64<cLine):OpR X (compareOp .NotEq) (rDat X λx y=>!PyData.eqv x y):=by
 intro pins s σ H v u v' u' Q I rv ru h
 obtain⟨O,x,y,rx,ry,hf,q⟩:=h
 obtain⟨h1,h2,h3⟩:=j5 hf
 obtain⟨as,r1⟩:=rx.reads I h1 rv
 obtain⟨bs,r2⟩:=ry.reads I h2 ru
 exact SeqAt.compareNe_reads r1 r2 h1 h2 `am ⟨.bl _,H,I,rfl,q⟩
theorem dop_eq(hu:X.A.units+64<cLine):DOp X (compareOp .Eq) oEq:=by
 refine⟨_,op_eqD hu,λO H x y d v u Q oo rx ry e k=>?_⟩
 unfold oEq at e
 by_cases hf:flat x y=true
 ·rw[if_pos hf] at e
  cases e
  exact⟨O,x,y,rx,ry,hf,k _ H (aE.refl H) (.bl _)⟩
 simp_all
theorem dop_ne(hu:X.A.units+64<cLine):DOp X (compareOp .NotEq) oNe:=by
 refine⟨_,op_neD hu,λO H x y d v u Q oo rx ry e k=>?_⟩
 unfold oNe at e
 by_cases hf:flat x y=true
 ·rw[if_pos hf] at e
  cases e
  exact⟨O,x,y,rx,ry,hf,k _ H (aE.refl H) (.bl _)⟩
 simp_all
noncomputable def oIx:D->D->Option D
 | .tuple ds,.int i=>L2.atI ds i
 | .list ds,.int i=>L2.atI ds i
 | .str z,.int i=>if aJ z.length then (L2.atI z.cps.toList i).map (λc=>.str ⟨#[c]⟩) else none
 | _,_=>none
theorem oE(ha:PD X G a f)(hb:PD X G b g)(hs:se b):PD X G (.Subscript a b pos) (d2 oIx f g):=by
 obtain⟨ta,pa,ha⟩:=ha
 obtain⟨tb,pb,hb⟩:=hb
 refine⟨_,pe_ix Ak pa pb hs,qX (λO H x y d v u Q oo rx ry e k=>?_) ha hb⟩
 unfold oIx at e
 split at e
 ·rename_i ds i
  obtain⟨p,vs,rfl,h1,r1⟩:=rx.tup_inv
  obtain⟨w,hw,rw'⟩:=r1.atI e
  exact .inr (.inl ⟨p,vs,i,w,rfl,ry.int_inv,h1,hw,k w H (aE.refl H) rw'⟩)
 ·rename_i ds i
  obtain⟨p,vs,rfl,h1,r1⟩:=rx.lst_inv
  obtain⟨w,hw,rw'⟩:=r1.atI e
  exact .inl ⟨p,vs,i,w,rfl,ry.int_inv,h1,hw,k w H (aE.refl H) rw'⟩
 ·rename_i z i
  by_cases hz:aJ z.length=true
  ·rw[if_pos hz] at e
   cases e2:L2.atI z.cps.toList i with
   | none=>simp_all
   | some c =>
    rw[e2] at e
    cases e
    exact .inr (.inr ⟨z,i,c,rx.str_inv,ry.int_inv,bt hz,e2,k _ H (aE.refl H) (.str _)⟩)
  simp_all
 simp_all
end
end DL
namespace DL
open PyProof.Rows L2
section
variable{X:Cx}{G:XD->Hp->Prop}{a b c e:Expr}{es aB:List Expr}{f g h:DS->M D}{fb gb:DS->M Bool}{fa:DS->M (List D)}{pos:Pos}
def PDO(X:Cx)(G:XD->Hp->Prop)(e:Option Expr)(f:DS->M (Option Int)):Prop :=
 ∃t,PO X e t/\∀{Hr:Hp} (δ:DS) (O:List Addr) (σ:St) (H:Hp) (Q:Option Int->Hp->Prop),Ev X.K Hr O H σ δ->ok (GS G Hr) (f δ) (λd=>∀H',aE H H'->Q d H')->t σ H Q
noncomputable def jc:DS->M (Option Int):=λ_=>M.ret none
noncomputable def kG(f:DS->M D):DS->M (Option Int):=λδ=>(f δ).thn λd=>match d with
 | .int i=>M.ret (some i)
 | _=>none
theorem zl:PDO X G none jc:=⟨_,B8,λ_ _ _ H Q _ k=>k H (aE.refl H)⟩
theorem zk(he:PD X G e f):PDO X G (some e) (kG f):=by
 obtain⟨t,p,he⟩:=he
 refine⟨_,B7 p,λδ O σ H Q E k=>?_⟩
 refine he δ O σ H _ E (ah (ao k) λd z v H1 s1 r=>?_)
 cases d with
 | int i=>exact⟨i,r.int_inv,z H1 s1⟩
 | _=>exact z.elim
noncomputable def nk(xs:List α)(lo hi:Option Int):List α:=(xs.drop (HT.sIx xs.length 0 lo)).take (HT.sIx xs.length xs.length hi-HT.sIx xs.length 0 lo)
theorem Reps.cut{K:ε}{O:List Addr}{H:Hp}{xs:List V}{ds:List D}(r:Reps K O H xs ds)(lo hi:Option Int):Reps K O H (xP xs lo hi) (nk ds lo hi):=by
 unfold xP nk
 rw[r.length]
 exact(r.drop _).take _
noncomputable def oCut(lo hi:Option Int):D->Option D
 | .list ds=>some (.list (nk ds lo hi))
 | .tuple ds=>if HT.sIx ds.length 0 lo=0/\HT.sIx ds.length ds.length hi=ds.length then none else some (.tuple (nk ds lo hi))
 | _=>none
theorem uB(h:PDA X G es fa):PD X G (.List es pos) (kW fa):=by
 obtain⟨_,t,p,h⟩:=h
 refine⟨_,uz p,λδ O σ H Q E k=>?_⟩
 refine h δ O σ H _ E (ah (ao k) λds z vs H1 s1 rs=>?_)
 by_cases hz:aJ ds.length=true
 ·rw[if_pos hz] at z
  exact⟨by rw[rs.length];exact bt hz,λp hp=>z _ _ (s1.trans (aK hp)) (gm (E.same s1).oo hp rs)⟩
 ·rw[if_neg hz] at z
  exact z.elim
def fP(X:Cx)(fn:Value)(h:List D->Option D):Prop :=
 ∃r,fQ X fn r/\∀(O:List Addr) (H:Hp) (ds:List D) (d:D) (vs:List V) (Q:VK),(∀l∈O,Mu H l)->Reps X.K O H vs ds->h ds=some d->(∀v' H',aE H H'->Rep X.K O H' v' d->Q v' H')->r vs H Q
noncomputable def dCB(h:List D->Option D)(fa:DS->M (List D)):DS->M D:=λδ=>(fa δ).thn λds=>M.lift (h ds)
theorem sR{x:Str}{p:Pos}{id:String}{h:List D->Option D}(hc:fP X (.builtin id) h)(hg:Gl X x)(hm:X.mg x=none)(hv:bootBuiltins x=some (.builtin id))(ha:PDA X G (e::es) fa)(hn:x ≠ "__name__" := by decide)(hdb:(x==("__debug__" : Str))=false:=by decide)
  (he:`we:=by rfl) (hpl:(backTo pos (starEach es X.env)).any (·.1)=false:=by rfl):PD X G (.Call (.Name x p) (e::es) [] pos) (dCB h fa):=by
 obtain⟨r,hr,hc⟩:=hc
 obtain⟨_,t,pa,ha⟩:=ha
 refine⟨_,sO hr hg hm hv pa hn hdb he hpl,λδ O σ H Q E k=>?_⟩
 refine ha δ O σ H _ E (ah (ao k) λds z vs H1 s1 rs=>?_)
 obtain⟨d,hd,z⟩:=b5 z
 exact hc O H1 ds d vs Q (E.same s1).oo rs hd λv' H2 s2 r2=>z v' H2 (s1.trans s2) r2
theorem xk{x:Str}{p:Pos}{id:String}{h:List D->Option D}(hc:fP X (.type id) h)(hg:Gl X x)(hm:X.mg x=none)(hv:bootBuiltins x=some (.type id))(ha:PDA X G (e::es) fa)(hn:x ≠ "__name__" := by decide)(hdb:(x==("__debug__" : Str))=false:=by decide)
  (he:`we:=by rfl) (hpl:(backTo pos (starEach es X.env)).any (·.1)=false:=by rfl):PD X G (.Call (.Name x p) (e::es) [] pos) (dCB h fa):=by
 obtain⟨r,hr,hc⟩:=hc
 obtain⟨_,t,pa,ha⟩:=ha
 refine⟨_,p6 hr hg hm hv pa hn hdb he hpl,λδ O σ H Q E k=>?_⟩
 refine ha δ O σ H _ E (ah (ao k) λds z vs H1 s1 rs=>?_)
 obtain⟨d,hd,z⟩:=b5 z
 exact hc O H1 ds d vs Q (E.same s1).oo rs hd λv' H2 s2 r2=>z v' H2 (s1.trans s2) r2
theorem fE{K:ε}{O:List Addr}{H:Hp}{vs:List V}{d:D}(r:Reps K O H vs [d]):∃v,vs=[v]/\Rep K O H v d:=by
 cases r with
 | cons r rs=>cases rs;simp_all
theorem yM{K:ε}{O:List Addr}{H:Hp}{vs:List V}{d d':D}(r:Reps K O H vs [d,d']):∃v v',vs=[v,v']/\Rep K O H v d/\Rep K O H v' d':=by
 cases r with
 | cons r rs =>
  obtain⟨v',rfl,r'⟩:=fE rs
  exact⟨_,_,rfl,r,r'⟩
noncomputable def dM:List D->Option D
 | [.list ds]=>some (.int ds.length)
 | [.tuple ds]=>some (.int ds.length)
 | [.str z]=>if aJ z.length then some (.int z.length) else none
 | _=>none
theorem xL:fP X (.builtin "len") dM:=by
 refine⟨_,r6.or rZ,λO H ds d vs Q oo rs e k=>?_⟩
 unfold dM at e
 split at e
 ·cases e
  obtain⟨v,rfl,r⟩:=fE rs
  obtain⟨p,xs,rfl,h1,rx⟩:=r.lst_inv
  refine .inl ⟨p,xs,rfl,.inl h1,k _ H (aE.refl H) ?_⟩
  rw[rx.length]
  exact .int _
 ·cases e
  obtain⟨v,rfl,r⟩:=fE rs
  obtain⟨p,xs,rfl,h1,rx⟩:=r.tup_inv
  refine .inl ⟨p,xs,rfl,.inr h1,k _ H (aE.refl H) ?_⟩
  rw[rx.length]
  exact .int _
 ·rename_i z
  by_cases hz:aJ z.length=true
  ·rw[if_pos hz] at e
   cases e
   obtain⟨v,rfl,r⟩:=fE rs
   refine .inr ⟨z,by rw[r.str_inv],bt hz,k _ H (aE.refl H) (.int _)⟩
  simp_all
 simp_all
noncomputable def xo:List D->Option D
 | [.int i,.int j]=>some (.int (min i j))
 | _=>none
noncomputable def m8:List D->Option D
 | [.int i,.int j]=>some (.int (max i j))
 | _=>none
theorem xJ(hc:X.calm=true):fP X (.builtin "min") xo:=by
 refine⟨_,xW hc,λO H ds d vs Q oo rs e k=>?_⟩
 unfold xo at e
 split at e
 ·rename_i i j
  cases e
  obtain⟨v,v',rfl,r,r'⟩:=yM rs
  refine⟨i,j,by rw[r.int_inv,r'.int_inv],k _ H (aE.refl H) ?_⟩
  have:(if j<i then j else i)=min i j:=by
   omega
  rw[this]
  exact .int _
 simp_all
theorem xK(hc:X.calm=true):fP X (.builtin "max") m8:=by
 refine⟨_,xX hc,λO H ds d vs Q oo rs e k=>?_⟩
 unfold m8 at e
 split at e
 ·rename_i i j
  cases e
  obtain⟨v,v',rfl,r,r'⟩:=yM rs
  refine⟨i,j,by rw[r.int_inv,r'.int_inv],k _ H (aE.refl H) ?_⟩
  have:(if j > i then j else i)=max i j:=by
   omega
  rw[this]
  exact .int _
 simp_all
noncomputable def lr:List D->Option D
 | [.list ds]=>some (.list ds)
 | [.tuple ds]=>some (.list ds)
 | _=>none
theorem uZ:fP X (.type "list") lr:=by
 refine⟨_,l3,λO H ds d vs Q oo rs e k=>?_⟩
 unfold lr at e
 split at e
 ·cases e
  obtain⟨v,rfl,r⟩:=fE rs
  obtain⟨p,xs,rfl,h1,rx⟩:=r.lst_inv
  exact⟨p,xs,rfl,.inl h1,λl hl=>k _ _ (aK hl) (gm oo hl rx)⟩
 ·cases e
  obtain⟨v,rfl,r⟩:=fE rs
  obtain⟨p,xs,rfl,h1,rx⟩:=r.tup_inv
  exact⟨p,xs,rfl,.inr h1,λl hl=>k _ _ (aK hl) (gm oo hl rx)⟩
 simp_all
noncomputable def tyD:D->String
 | .none => "NoneType"
 | .bool _ => "bool"
 | .int _ => "int"
 | .str _ => "str"
 | .list _ => "list"
 | .tuple _ => "tuple"
 | .dict _ => "dict"
noncomputable def isD(T:String)(d:D):Bool:=tyD d==T||(T == "int" && tyD d == "bool")
def ie(K:ε)(T:String):Prop:=∀d:D,PySem.W.kitOne K (.type (tyD d)) (.type T)=some (isD T d)
theorem C9(K:ε):ie K "int" := λd=>by cases d<;>kernel_rfl
theorem Ai(K:ε):ie K "bool" := λd=>by cases d<;>kernel_rfl
theorem Ah(K:ε):ie K "list" := λd=>by cases d<;>kernel_rfl
theorem xx(K:ε):ie K "tuple" := λd=>by cases d<;>kernel_rfl
theorem ua(hk:ie X.K T):fQ X (.builtin "isinstance") (λxs H Q=>∃v O d,xs=[v,.ty T]/\Rep X.K O H v d/\jh d=true/\Q (.bl (isD T d)) H):=by
 intro pins s σ H xs us Q I r h
 obtain⟨v,O,d,rfl,rd,hi,q⟩:=h
 obtain⟨u,w',rfl,r1,r2⟩:=yh r
 cases (show w'=Value.type T from r2)
 have fin:∀tk,EP X pins σ Q (.bool (isD T d)) { s with toks:=tk }:=λtk=>⟨.bl _,H,I.tok _,rfl,q⟩
 have e:=hk d
 cases rd with
 | non=>cases (show u=Value.none from r1);exact W7 PySem.W.kitx_none I.kIn True.intro e (λz=>nomatch z) fin
 | bl y=>cases (show u=Value.bool y from r1);exact W7 PySem.W.kitx_bool I.kIn True.intro e (λz=>nomatch z) fin
 | int i=>obtain⟨t,q⟩:=(show ∃t,u=Value.int i t from r1);cases q;exact W7 PySem.W.kitx_int I.kIn True.intro e (λz=>nomatch z) fin
 | str y=>obtain⟨t,q⟩:=(show ∃t,u=Value.str y t from r1);cases q;exact W7 PySem.W.kitx_str I.kIn True.intro e (λz=>nomatch z) fin
 | @tup a ys ds h rr =>
  cases (show u=Value.ref a from r1)
  obtain⟨its,rv,⟨o,h1,h2,_⟩,_⟩:=I.tuple h
  exact W7 PySem.W.kitx_tuple I.kIn ⟨o,h1,h2⟩ e (λz=>nomatch z) fin
 | @lst a ys ds h n rr =>
  cases (show u=Value.ref a from r1)
  obtain⟨its,rv,⟨o,n,h1,h2,_⟩,_⟩:=I.list (.inl h)
  exact W7 PySem.W.kitx_list I.kIn ⟨o,h1,h2⟩ e (λz=>nomatch z) fin
 | @lstK a ys ds h rr =>
  cases (show u=Value.ref a from r1)
  obtain⟨its,rv,⟨o,n,h1,h2,_⟩,_⟩:=I.list (.inr h)
  exact W7 PySem.W.kitx_list I.kIn ⟨o,h1,h2⟩ e (λz=>nomatch z) fin
 | @dct a kvs es h n hk rr =>
  cases (show u=Value.ref a from r1)
  obtain⟨_,_,_,_,o,_,_,h1,h2,_⟩:=h.ok I.hok
  exact W7 PySem.W.kitx_dict I.kIn ⟨o,h1,h2.1⟩ e (λz=>nomatch z) fin
 | ins hN h n hk rr=>cases hi
noncomputable def dIs(T:String)(f:DS->M D):DS->M D:=λδ=>(f δ).thn λd=>if jh d=true then M.ret (.bool (isD T d)) else none
theorem xj(hx:x = "isinstance")(hk:ie X.K T)(hg:Gl X x)(hm:X.mg x=none)(hg2:Gl X y)(hm2:X.mg y=none)(hb2:bootBuiltins y=some (.type T))(he:PD X G e f)
  (hn2:y ≠ "__name__" := by decide) (hd2:(y==("__debug__" : Str))=false:=by decide)
  (hs1:starEach [e,.Name y p2] X.env=(false,eval e X.env)::starEach [.Name y p2] X.env:=by rfl) (hs2:starEach [.Name y p2] X.env=(false,eval (.Name y p2) X.env)::starEach [] X.env:=by rfl)
  (hpl:(backTo pos (starEach [.Name y p2] X.env)).any (·.1)=false:=by rfl):PD X G (.Call (.Name x p) [e,.Name y p2] [] pos) (dIs T f):=by
 subst hx
 obtain⟨t,pe,he⟩:=he
 refine⟨_,sO (ua hk) hg hm boot_isinstance (e8 pe (e8 (Ce (v:=.ty T) hg2 hm2 hb2 rfl hn2 hd2) iS hs2) hs1) (by decide) (by decide) hs1 hpl,λδ O σ H Q E k=>?_⟩
 refine he δ O σ H _ E (ah (ao k) λd z v H1 s1 r=>?_)
 by_cases hi:jh d=true
 ·rw[if_pos hi] at z
  exact⟨v,O,d,rfl,r,hi,z _ H1 s1 (.bl _)⟩
 ·rw[if_neg hi] at z
  exact z.elim
end
end DL
namespace DL
open PyProof.Rows L2
noncomputable def d1(h:D->Option D)(f:DS->M D):DS->M D:=λδ=>(f δ).thn λx=>M.lift (h x)
noncomputable def m6:D->Option D
 | .int i=>some (.int (-i))
 | _=>none
theorem pd_neg(ha:PD X G a f):PD X G (.UnaryOp .USub a pos) (d1 m6 f):=by
 obtain⟨t,p,ha⟩:=ha
 refine⟨_,pe_un un_neg p,λδ O σ H Q E k=>?_⟩
 refine ha δ O σ H _ E (ah (ao k) λd z v H1 s1 r=>?_)
 obtain⟨y,hy,z⟩:=b5 z
 cases d with
 | int i=>exact⟨i,r.int_inv,z _ H1 s1 (.int _)⟩
 | _=>cases hy
inductive Out where
 | nx (δ:DS)
 | rt (d:D)
 | bk (δ:DS)
 | ct (δ:DS)
structure EI(K:ε)(Hr:Hp)(R0:List Addr)(P0:Addr->Prop)(H0:Hp)(O:List Addr)(H:Hp)(σ:St)(δ:DS):Prop where
 ev:Ev K Hr O H σ δ
 omr:∀l∈O,l∈R0\/Hr l=none
 keep:∀b o,¬P0 b->H0 b=some o->H b=some o
 om:∀l∈O,l∈R0\/P0 l\/H0 l=none
 nr1:∀(i:Nat) (s:Sl) (l:Addr),δ[i]?=some s->s.own->σ[i]?=some (some (.ref l))->l∉R0
 sub:∀l∈R0,l∈O
theorem EI.nr{K:ε}{Hr:Hp}{R0:List Addr}{P0:Addr->Prop}{H0:Hp}{O:List Addr}{H:Hp}{σ:St}{δ:DS}(E:EI K Hr R0 P0 H0 O H σ δ):∀(i:Nat) (ds:List D) (l:Addr),δ[i]?=some (.ow ds)->σ[i]?=some (some (.ref l))->l∉R0:=λi ds l h1 h2=>E.nr1 i _ l h1 trivial h2
def Fin(K:ε)(Hr:Hp)(R0:List Addr)(P0:Addr->Prop)(H0:Hp)(Dn:Ends):Out->Prop
 | .nx δ=>∀O σ H,EI K Hr R0 P0 H0 O H σ δ->Dn.nx σ H
 | .rt d=>∀v H,(∀b o,¬P0 b->H0 b=some o->H b=some o)->Rep K R0 H v d->Dn.rt v H
 | .bk δ=>∀O σ H,EI K Hr R0 P0 H0 O H σ δ->Dn.bk σ H
 | .ct δ=>∀O σ H,EI K Hr R0 P0 H0 O H σ δ->Dn.ct σ H
def PDS(X:Cx)(G:XD->Hp->Prop)(st:Stmt)(g:DS->M Out):Prop :=
 ∃t,PS X st t/\∀{Hr:Hp} (R0:List Addr) (P0:Addr->Prop) (H0:Hp) (δ:DS) (O:List Addr) (σ:St) (H:Hp) (Dn:Ends),EI X.K Hr R0 P0 H0 O H σ δ->ok (GS G Hr) (g δ) (Fin X.K Hr R0 P0 H0 Dn)->t Dn σ H
def jf(X:Cx)(G:XD->Hp->Prop)(st:List Stmt)(g:DS->M Out):Prop :=
 ∃t,PSs X st t/\∀{Hr:Hp} (R0:List Addr) (P0:Addr->Prop) (H0:Hp) (δ:DS) (O:List Addr) (σ:St) (H:Hp) (Dn:Ends),EI X.K Hr R0 P0 H0 O H σ δ->ok (GS G Hr) (g δ) (Fin X.K Hr R0 P0 H0 Dn)->t Dn σ H
section
variable{X:Cx}{G:XD->Hp->Prop}{a b c e:Expr}{es aB:List Expr}{f g h:DS->M D}{fb gb:DS->M Bool}{fa:DS->M (List D)}{pos:Pos}{st:Stmt}{sts st1 st2:List Stmt}{gs gt gu:DS->M Out}
variable{K:ε}{Hr:Hp}{R0:List Addr}{P0:Addr->Prop}{H0 H H':Hp}{O:List Addr}{σ:St}{δ:DS}
theorem EI.same(E:EI K Hr R0 P0 H0 O H σ δ)(s:aE H H'):EI K Hr R0 P0 H0 O H' σ δ:=⟨E.ev.same s,E.omr,λb o n h=>s _ _ (E.keep b o n h),E.om,E.nr1,E.sub⟩
theorem EI.set{i:Nat}{v:V}{d:D}(E:EI K Hr R0 P0 H0 O H σ δ)(r:Rep K O H v d):EI K Hr R0 P0 H0 O H (σ.set i (some v)) (δ.set i (.vl d)):=by
 refine⟨E.ev.set r,E.omr,E.keep,E.om,λj ds l h1 ho h2=>?_,E.sub⟩
 rw[aW] at h1 h2
 by_cases hij:i=j
 ·rw[if_pos hij] at h1
  split at h1
  ·cases h1;exact ho.elim
  simp_all
 ·rw[if_neg hij] at h1 h2
  exact E.nr1 j ds l h1 ho h2
theorem EI.less(E:EI K Hr R0 P0 H0 O H σ δ){v:V}{d:D}(r:Rep K O H v d):Rep K R0 H v d:=r.to (.less E.sub)
noncomputable def cP:DS->M Out:=λδ=>M.ret (.nx δ)
noncomputable def aH(g h:DS->M Out):DS->M Out:=λδ=>(g δ).thn λo=>match o with
 | .nx δ'=>h δ'
 | o=>M.ret o
theorem Cp:jf X G [] cP:=⟨_,qS,λR0 P0 H0 δ O σ H Dn E k=>k O σ H E⟩
theorem qV(h1:PDS X G st gs):jf X G [st] gs:=by
 obtain⟨t,p,h1⟩:=h1
 exact⟨_,ny p,h1⟩
theorem zi(h1:PDS X G st gs)(h2:jf X G sts gt):jf X G (st::sts) (aH gs gt):=by
 obtain⟨t,p,h1⟩:=h1
 obtain⟨u,q,h2⟩:=h2
 refine⟨_,lj p q,λR0 P0 H0 δ O σ H Dn E k=>?_⟩
 refine h1 R0 P0 H0 δ O σ H _ E (ah (ao k) λo z=>?_)
 cases o with
 | nx δ'=>exact λO' σ' H' E'=>h2 R0 P0 H0 δ' O' σ' H' Dn E' z
 | rt d=>exact z
 | bk δ'=>exact z
 | ct δ'=>exact z
noncomputable def o3:DS->M Out:=λδ=>M.ret (.bk δ)
theorem zF:PDS X G (.Break pos) o3:=⟨_,yT,λR0 P0 H0 δ O σ H Dn E k=>k O σ H E⟩
noncomputable def ck(f:DS->M D):DS->M Out:=λδ=>(f δ).thn λd=>M.ret (.rt d)
theorem uA(he:PD X G e f):PDS X G (.Return (some e) pos) (ck f):=by
 obtain⟨t,p,he⟩:=he
 refine⟨_,jx p,λR0 P0 H0 δ O σ H Dn E k=>?_⟩
 exact he δ O σ H _ E.ev (ah (ao k) λd z v H1 s1 r=>z v H1 (λb o n q=>s1 _ _ (E.keep b o n q)) ((E.same s1).less r))
noncomputable def gIf(c:DS->M Bool)(g h:DS->M Out):DS->M Out:=λδ=>(c δ).thn λb=>if b=true then g δ else h δ
theorem pd_ifS(hc:PDT X G c fb)(h1:jf X G st1 gs)(h2:jf X G st2 gt):PDS X G (.If c st1 st2 pos) (gIf fb gs gt):=by
 obtain⟨t,p,hc⟩:=hc
 obtain⟨u,q,h1⟩:=h1
 obtain⟨w,r,h2⟩:=h2
 refine⟨_,yR p q r,λR0 P0 H0 δ O σ H Dn E k=>?_⟩
 refine hc δ O σ H _ E.ev (ah (ao k) λd z H1 s1=>?_)
 cases d with
 | true =>
  exact h1 R0 P0 H0 δ O σ H1 Dn (E.same s1) z
 | false =>
  exact h2 R0 P0 H0 δ O σ H1 Dn (E.same s1) z
noncomputable def uS:DS->M Out:=λ_=>none
theorem zA:PDS X G st uS:=⟨_,yQ,λR0 P0 H0 δ O σ H Dn E k=>k.elim⟩
def PDG(X:Cx)(target:Expr)(g:D->DS->Option DS):Prop :=
 ∃t,PG X target t/\∀{Hr:Hp} (R0:List Addr) (P0:Addr->Prop) (H0:Hp) (δ δ':DS) (d:D) (v:V) (O:List Addr) (σ:St) (H:Hp) (Q:St->Hp->Prop),EI X.K Hr R0 P0 H0 O H σ δ->Rep X.K O H v d->g d δ=some δ' ->
  (∀σ' H',EI X.K Hr R0 P0 H0 O H' σ' δ'->aE H H'->Q σ' H')->t v σ H Q
def vk(X:Cx)(ts:List Expr)(g:List D->DS->Option DS):Prop :=
 ∃t,PGs X ts t/\∀{Hr:Hp} (R0:List Addr) (P0:Addr->Prop) (H0:Hp) (δ δ':DS) (ds:List D) (vs:List V) (O:List Addr) (σ:St) (H:Hp) (Q:St->Hp->Prop),EI X.K Hr R0 P0 H0 O H σ δ->Reps X.K O H vs ds->g ds δ=some δ' ->
  (∀σ' H',EI X.K Hr R0 P0 H0 O H' σ' δ'->aE H H'->Q σ' H')->t vs σ H Q
noncomputable def tgN(i:Nat):D->DS->Option DS:=λd δ=>some (δ.set i (.vl d))
theorem bQ(h:PG X e (wa i)):PDG X e (tgN i):=by
 refine⟨_,h,λR0 P0 H0 δ δ' d v O σ H Q E r e k=>?_⟩
 cases e
 exact k _ H (E.set r) (aE.refl H)
noncomputable def dm:List D->DS->Option DS:=λds δ=>match ds with
 | []=>some δ
 | _=>none
noncomputable def aR(t:D->DS->Option DS)(u:List D->DS->Option DS):List D->DS->Option DS:=λds δ=>match ds with
 | d::r=>(t d δ).bind (u r)
 | []=>none
theorem oB:vk X [] dm:=by
 refine⟨_,vL,λR0 P0 H0 δ δ' ds vs O σ H Q E r e k=>?_⟩
 cases ds with
 | nil=>cases r;cases e;exact⟨rfl,k σ H E (aE.refl H)⟩
 | cons d ds=>cases e
theorem ip(h1:PDG X e t)(h2:vk X es u)
  (hs:(assignEach (e::es) X.env).map (·.2)=assign e X.env::(assignEach es X.env).map (·.2):=by rfl):vk X (e::es) (aR t u):=by
 obtain⟨t1,p1,h1⟩:=h1
 obtain⟨t2,p2,h2⟩:=h2
 refine⟨_,sL p1 p2 hs,λR0 P0 H0 δ δ' ds vs O σ H Q E r e k=>?_⟩
 cases ds with
 | nil=>cases e
 | cons d ds =>
  cases r with
  | @cons v _ vs _ r rs =>
   have e:(t d δ).bind (u ds)=some δ':=e
   cases e1:t d δ with
   | none=>simp_all
   | some δ1 =>
    rw[e1] at e
    refine⟨v,vs,rfl,h1 R0 P0 H0 δ δ1 d v O σ H _ E r e1 λσ1 H1 E1 s1=>?_⟩
    exact h2 R0 P0 H0 δ1 δ' ds vs O σ1 H1 Q E1 (rs.same s1) e λσ2 H2 E2 s2=>k σ2 H2 E2 (s1.trans s2)
noncomputable def dk(n:Nat)(u:List D->DS->Option DS):D->DS->Option DS:=λd δ=>match d with
 | .tuple ds=>if ds.length=n then u ds δ else none
 | _=>none
theorem qW(hc:X.calm=true)(h:vk X es u)
  (hn:(assignEach es X.env).length=n:=by rfl) (hst:(assignEach es X.env).findIdx? (·.1)=none:=by rfl):PDG X (.Tuple es k pos) (dk n u):=by
 obtain⟨t,p,h⟩:=h
 refine⟨_,yY hc p hn hst,λR0 P0 H0 δ δ' d v O σ H Q E r e k=>?_⟩
 cases d with
 | tuple ds =>
  have e:(if ds.length=n then u ds δ else none)=some δ':=e
  by_cases hl:ds.length=n
  ·rw[if_pos hl] at e
   obtain⟨a,xs,rfl,h1,rs⟩:=r.tup_inv
   exact⟨a,xs,rfl,h1,by rw[rs.length];exact hl,h R0 P0 H0 δ δ' ds xs O σ H Q E rs e k⟩
  simp_all
 | _=>cases e
noncomputable def bq(f:DS->M D)(g:D->DS->Option DS):DS->M Out:=λδ=>(f δ).thn λd=>(M.lift (g d δ)).thn λδ'=>M.ret (.nx δ')
theorem pd_asg{tg:Expr}{g:D->DS->Option DS}(he:PD X G e f)(hg:PDG X tg g)(hs:swapsWithSole [tg] e pos.line X.env=pure false:=by rfl)(hw:swappedStores [tg] e X.env=pure none:=by rfl)
  (h1:(assignEach [tg] X.env).map (·.2)=[assign tg X.env]:=by rfl):PDS X G (.Assign [tg] e pos) (bq f g):=by
 obtain⟨t,p,he⟩:=he
 obtain⟨u,q,hg⟩:=hg
 refine⟨_,uw p q hs hw h1,λR0 P0 H0 δ O σ H Dn E k=>?_⟩
 refine he δ O σ H _ E.ev (ah (ao k) λd z v H1 s1 r=>?_)
 obtain⟨δ',hd,z⟩:=b5 (ao z)
 exact hg R0 P0 H0 δ δ' d v O σ H1 _ (E.same s1) r hd λσ' H' E' _=>z O σ' H' E'
theorem pd_set(hN:X.N.Nodup)(hi:X.N[i]?=some x)(hx:Loc X.env.scope x)(he:PD X G e f)(hs:swapsWith e (some (.Name x pos')) pos.line X.env=pure false:=by rfl)(hf:X.fn x=true\/X.env.scope.names.lookup x=some .local:=by first | exact .inl rfl | exact .inr rfl | assumption) :
  PDS X G (.Assign [.Name x pos'] e pos) (bq f (tgN i)):=by
 obtain⟨t,p,he⟩:=he
 refine⟨_,mq hN hi hx p hs hf,λR0 P0 H0 δ O σ H Dn E k=>?_⟩
 refine he δ O σ H _ E.ev (ah (ao k) λd z v H1 s1 r=>?_)
 obtain⟨δ',hd,z⟩:=b5 (ao z)
 cases hd
 exact z O _ H1 ((E.same s1).set r)
noncomputable def iB(body:D->DS->M Out):List D->DS->M Out
 | [],δ=>M.ret (.nx δ)
 | x::xs,δ=>(body x δ).thn λo=>match o with
  | .nx δ'=>iB body xs δ'
  | .ct δ'=>iB body xs δ'
  | .bk δ'=>M.ret (.nx δ')
  | .rt d=>M.ret (.rt d)
noncomputable def cr(t:D->DS->Option DS)(g:DS->M Out):D->DS->M Out:=λd δ=>(M.lift (t d δ)).thn g
noncomputable def seqD:D->Option (List D)
 | .list ds=>some ds
 | .tuple ds=>some ds
 | _=>none
noncomputable def iSeq(K:ε)(tl:TE):TI:=λσ H R=>tl σ H λx H1=>∃a,x=.ref a/\(((∃xs,SqL K H1 a xs)/\R (Itl K a) H1)\/((∃xs,SqT K H1 a xs)/\R (Itt K a) H1))
theorem pi_seq(hl:PE X l tl):PI X tg l (iSeq X.K tl):=by
 intro pins s σ H R I h
 refine thn (hl pins s σ H _ I h) λv s1 z0=>?_
 obtain⟨x,H1,I1,r1,q1⟩:=z0
 obtain⟨a,e,q⟩:=q1
 subst e
 cases r1
 rcases q with ⟨⟨xs,hq⟩,q⟩ | ⟨⟨xs,hq⟩,q⟩
 ·obtain⟨its,rv,p,hz⟩:=I1.list hq
  refine wpAny_pyIter_list p.isList ?_
  refine⟨s1.heap.objs.size,[s1.heap.objs.size],_,_,H1,rfl,I1.kept λb o e=>Heap.get?_push_of_some _ e,pO a _,⟨_,Heap.get?_push_size _ rfl,rfl,rfl⟩,λb hb=>?_,q⟩
  have e:b=s1.heap.objs.size:=by simp_all
  subst e
  exact I1.fpOk (ξ _) (I1.hok.fresh (ξ _))
 ·obtain⟨its,rv,p,hz⟩:=I1.tuple hq
  refine wpAny_pyIter_tuple (show s1.heap.IsTuple a its.toArray from p) ?_
  refine⟨s1.heap.objs.size,[s1.heap.objs.size],_,_,H1,rfl,I1.kept λb o e=>Heap.get?_push_of_some _ e,ug a _,⟨_,Heap.get?_push_size _ rfl,rfl,rfl⟩,λb hb=>?_,q⟩
  have e:b=s1.heap.objs.size:=by simp_all
  subst e
  exact I1.fpOk (ξ _) (I1.hok.fresh (ξ _))
def Ch(O R0:List Addr)(l:Addr):Prop:=l∈O/\l∉R0
theorem EI.noCh(E:EI K Hr R0 P0 H0 O H σ δ){b:Addr}{o:HO}(n:¬P0 b)(h:H0 b=some o):¬Ch O R0 b:=λ⟨z1,z2⟩=>by
 rcases E.om b z1 with q | q | q
 all_goals simp_all
theorem EI.inner(E:EI K Hr R0 P0 H0 O H σ δ):EI K Hr R0 (Ch O R0) H O H σ δ :=
 ⟨E.ev,E.omr,λb o _ h=>h,λl hl=>(Classical.em (l∈R0)).elim .inl λn=>.inr (.inl ⟨hl,n⟩),E.nr1,E.sub⟩
theorem EI.outer{O1:List Addr}{H1:Hp}{σ1:St}{δ1:DS}(E:EI K Hr R0 P0 H0 O H σ δ)(E1:EI K Hr R0 (Ch O R0) H O1 H1 σ1 δ1):EI K Hr R0 P0 H0 O1 H1 σ1 δ1:=by
 refine⟨E1.ev,E1.omr,λb o n h=>E1.keep b o (E.noCh n h) (E.keep b o n h),λl hl=>?_,E1.nr1,E1.sub⟩
 rcases E1.om l hl with q | q | q
 ·simp_all
 ·exact E.om l q.1
 ·refine .inr ?_
  by_cases hp:P0 l
  ·simp_all
  ·cases e:H0 l with
   | none=>simp
   | some o =>
    rw[E.keep l o hp e] at q
    cases q
theorem Fin.outer{Dn:Ends}(E:EI K Hr R0 P0 H0 O H σ δ){o:Out}(h:Fin K Hr R0 P0 H0 Dn o):Fin K Hr R0 (Ch O R0) H Dn o:=by
 cases o with
 | nx δ1=>exact λO1 σ1 H1 E1=>h O1 σ1 H1 (E.outer E1)
 | bk δ1=>exact λO1 σ1 H1 E1=>h O1 σ1 H1 (E.outer E1)
 | ct δ1=>exact λO1 σ1 H1 E1=>h O1 σ1 H1 (E.outer E1)
 | rt d=>exact λv H1 kp r=>h v H1 (λb o n q=>kp b o (E.noCh n q) (E.keep b o n q)) r
theorem EI.to{O1:List Addr}{H1:Hp}{σ1:St}{δ1:DS}(E:EI K Hr R0 P0 H0 O H σ δ)(E1:EI K Hr R0 (Ch O R0) H O1 H1 σ1 δ1):To O O1 H H1:=by
 have nt:∀{b:Addr} {o:HO},(∀xs,o≠.lst xs)->(∀xs,o≠.dK xs)->(∀C dx fs,o≠.ins C dx fs)->H b=some o->¬Ch O R0 b:=λ{b o} ho ho2 ho3 h z=>by
  rcases E.ev.oo b z.1 with ⟨ys,hl⟩ | ⟨ys,hl⟩ | ⟨C,dx,fs,hl⟩
  all_goals grind
 have kp:∀{b:Addr} {o:HO},b∉O->Rd H b o->b∉O1/\Rd H1 b o:=λ{b o} n h=>by
  refine⟨λz=>?_,?_⟩
  ·rcases E1.om b z with q | q | q
   ·exact n (E.sub b q)
   ·exact n q.1
   ·rcases h with h | ⟨u,h⟩
    all_goals simp_all
  ·rcases h with h | ⟨u,h⟩
   ·exact .inl (E1.keep _ _ (λz=>n z.1) h)
   ·exact .inr ⟨u,E1.keep _ _ (λz=>n z.1) h⟩
 refine⟨λb xs h=>?_,λb xs n h=>kp n h,λb xs n h=>kp n h,λb C dx fs n h=>⟨(kp n (.inl h)).1,E1.keep _ _ (λz=>n z.1) h⟩⟩
 ·rcases h with h | ⟨u,h⟩
  ·exact .inl (E1.keep _ _ (nt (λ_ z=>by cases z) (λ_ z=>by cases z) (λ_ _ _ z=>by cases z) h) h)
  ·exact .inr ⟨u,E1.keep _ _ (nt (λ_ z=>by cases z) (λ_ z=>by cases z) (λ_ _ _ z=>by cases z) h) h⟩
theorem jS{ds:List D}{i:Nat}{d:D}(h:ds[i]?=some d):ds.drop i=d::ds.drop (i+1):=by
 obtain⟨hl,e⟩:=ρ.mp h
 rw[U9 hl,e]
noncomputable def bF(lo:Int)(n:Nat):List D:=(Ψ n).map λ(i:Nat)=>ζ (lo+(i:Int))
noncomputable def b62(j:Int):Bool:=decide (-4611686018427387904<=j/\j<4611686018427387904)
noncomputable def fJ:List D->Option (List D)
 | [.int j]=>if b62 j=true then some (bF 0 j.toNat) else none
 | _=>none
noncomputable def w6:List D->Option (List D)
 | [.int i,.int j]=>if (b62 i&&b62 j)=true then some (bF i (j-i).toNat) else none
 | _=>none
theorem r9(h:b62 j=true) : -(2 ^ 62)<=j/\j<2 ^ 62:=by
 have e62:(2:Int) ^ 62=4611686018427387904:=by decide
 exact of_decide_eq_true h
end
noncomputable def spD(K:ε)(n:Nat)(F:List D->M D):Sp:=λvs H Q _=>∃O ds,vs.length=n/\(∀l∈O,Mu H l)/\Reps K O H vs ds/\ok (λ_=>False) (F ds) (λd=>∀v H',aE H H'->Rep K O H' v d->Q v H')
structure Def(P:Program)(w:World)(K:ε)(mg:Str->Option Value)(base:Heap)(k:Nat)(x:Str)(n:Nat)(F:List D->M D):Prop where
 ex:∃(f:Addr) (fd:FuncData) (ps:List Str),FnOk P w K mg base CX0 k f fd ps (spD K n F)/\mg x=some (.ref f)/\Y7 K (.ref f)=true/\cM K fd ps []
noncomputable def aG(F:List D->M D)(fa:DS->M (List D)):DS->M D:=λδ=>(fa δ).thn F
section
theorem ll(h:ok (λ_=>False) r k):ok G r k:=by
 match r,h with
 | some (.ok a),h=>exact h
noncomputable def noX{α:Type}(r:M α):M α:=match r with
 | some (.error _)=>none
 | r=>r
theorem kM(h:ok G (noX r) k):ok (λ_=>False) r k:=by
 match r,h with
 | some (.ok a),h=>exact h
theorem CL(h:Def X.prog X.w X.K X.mg X.base k x n F)(hr:Room k X.A)(hg:Gl X x)(hn:(e::es).length=n)(ha:PDA X G (e::es) fa)
  (hdb:(x==("__debug__" : Str))=false:=by decide) (he:`we:=by rfl) (hpl:(backTo pos (starEach es X.env)).any (·.1)=false:=by rfl) :
  PD X G (.Call (.Name x p) (e::es) [] pos) (aG (λds=>noX (F ds)) fa):=by
 obtain⟨f,fd,ps,F1,hm,hk,hb⟩:=h.ex
 obtain⟨hl,t,pa,ha⟩:=ha
 refine⟨_,nz F1 hr hg hm hk hb .nil kr pa hdb he hpl,λδ O σ H Q E k=>?_⟩
 have k1:=ao k
 refine ha δ O σ H _ E ?_
 cases e1:fa δ with
 | none=>rw[e1] at k1;assumption
 | some r =>
  rw[e1] at k1
  cases r with
  | error x=>exact k1
  | ok ds =>
   refine λvs H1 s1 rs=>?_
   refine⟨O,ds,?_,(E.same s1).oo,?_,ah (kM k1) λd z v H2 s2 r=>z v H2 (s1.trans s2) r⟩
   ·rw[Z3,rs.length,hl δ ds e1]
    exact hn
   simp_all
end
noncomputable def gj(n:Nat)(ds:List D):DS:=ds.map Sl.vl++χ (n-ds.length) Sl.un
noncomputable def endD(o:Out):M D:=match o with
 | .rt d=>M.ret d
 | .nx _=>M.ret .none
 | _=>none
noncomputable def run(n:Nat)(g:DS->M Out)(ds:List D):M D:=(g (gj n ds)).thn endD
section
variable{P:Program}{w:World}{K:ε}{mg:Str->Option Value}{base:Heap}
theorem nW{n i:Nat}{ds:List D}{s:Sl}(h1:(gj n ds)[i]?=some s)(ho:s.own):False:=by
 unfold gj at h1
 by_cases hi:i<ds.length
 ·rw[ι (by simp_all),Γ] at h1
  cases e:ds[i]? with
  | none=>simp_all
  | some d=>rw[e] at h1;cases h1;exact ho
 ·rw[ο (by simp_all),V3] at h1
  split at h1
  ·cases h1;exact ho
  simp_all
theorem o5{O:List Addr}{H:Hp}{vs:List V}{ds:List D}(N:List Str)(oo:∀l∈O,Mu H l)(r:Reps K O H vs ds):Ev K H O H (L2.start N vs) (gj N.length ds):=by
 have get:∀(i:Nat) (s:Sl),(gj N.length ds)[i]?=some s->(∃d,ds[i]?=some d/\s=.vl d)\/s=.un:=λi s h=>by
  unfold gj at h
  by_cases hi:i<ds.length
  ·rw[ι (by simpa using hi),Γ] at h
   cases e:ds[i]? with
   | none=>rw[e] at h;cases h
   | some d=>rw[e] at h;cases h;exact .inl ⟨d,rfl,rfl⟩
  ·rw[ο (by simpa using hi),V3] at h
   split at h
   ·cases h;exact .inr rfl
   ·cases h
 refine⟨aE.refl H,oo,?_,λi s h=>?_,λi j l es fs hij h1 h2 h3=>?_⟩
 ·unfold L2.start gj
  simp [r.length]
 ·rcases get i s h with ⟨d,hd,rfl⟩ | rfl
  ·obtain⟨v,hv,rd⟩:=r.get hd
   refine⟨v,?_,rd⟩
   unfold L2.start
   have hi:i<vs.length:=(ρ.mp hv).1
   rw[ι (by simpa using hi),Γ,hv]
   rfl
  ·trivial
 ·rcases get i _ h1 with ⟨d,_,z⟩ | z<;>cases z
theorem uV{x qual:Str}{st:Stmt}{f:Addr}{fd:FuncData}{N ps:List Str}{k:Nat}{g:DS->M Out}(F0:Fun K x qual st f fd)(S:FnScope N ps (ai st))
  (hbody:∀(cdv:Value) (A:Around) (outer:List Env) (s:Shared) (H:Hp) (E:XK),Room k (A.deeper (envOfC qual (ai st) s.heap.objs.size f cdv)) ->
   jf (kX CX0 P w K mg base N qual (ai st) f cdv A outer s H E).nox (λ_ _=>False) (bC st) g):FnOk P w K mg base CX0 (k+1) f fd ps (spD K ps.length (run N.length g)):=by
 refine F0.ok S (λvs H Q E h=>?_) (λcdv A outer s H vs Q E hr h=>?_)
 ·obtain⟨O,ds,hl,_⟩:=h
  exact hl
 ·obtain⟨O,ds,hl,oo,r,q⟩:=h
  obtain⟨t,p,hB⟩:=hbody cdv A outer s H E hr
  refine⟨t,p,hB O (λ_=>False) H (gj N.length ds) O (L2.start N vs) H _ ⟨o5 N oo r,λl hl=>.inl hl,λb o _ h=>h,λl hl=>.inl hl,λi es l h1 ho h2=>?_,λl hl=>hl⟩ (ah (ll (ao q)) λo z=>?_)⟩
  ·exact(nW h1 ho).elim
  ·cases o with
   | rt d=>exact λv H' kp r=>z v H' (λb o h=>kp b o (λw=>w) h) r
   | nx δ=>exact λO' σ' H' E'=>z .non H' (λb o h=>E'.keep b o (λw=>w) h) .non
   | bk δ=>exact z.elim
   | ct δ=>exact z.elim
theorem def_of{x qual:Str}{st:Stmt}{f:Addr}{fd:FuncData}{N ps:List Str}{k:Nat}{g:DS->M Out}(F0:Fun K x qual st f fd)(S:FnScope N ps (ai st))(hm:mg x=some (.ref f))(hb:cM K fd ps [])
  (hbody:∀(cdv:Value) (A:Around) (outer:List Env) (s:Shared) (H:Hp) (E:XK),Room k (A.deeper (envOfC qual (ai st) s.heap.objs.size f cdv)) ->
   jf (kX CX0 P w K mg base N qual (ai st) f cdv A outer s H E).nox (λ_ _=>False) (bC st) g):Def P w K mg base (k+1) x ps.length (run N.length g) :=
 ⟨f,fd,ps,uV F0 S hbody,hm,F0.kp,hb⟩
noncomputable def spLaw(K:ε):Sp:=λvs H Q _=>∃(a:Addr) (ns:List Int),vs=[.ref a]/\SqL K H a (ns.map V.int)/\ns.length<=63/\∀H',Q (.bl true) H'
theorem law_sp{F:List D->M D}(hF:∀ns:List Int,ns.length<=63->F [.list (ns.map ζ)]=M.ret (.bool true))(vs:List V)(H:Hp)(Q:VK)(E:XK)(h:spLaw K vs H Q E):spD K 1 F vs H Q E:=by
 obtain⟨a,ns,rfl,hS,hl,k⟩:=h
 refine⟨[],[.list (ns.map ζ)],rfl,(λl z=>nomatch z),.cons ?_ .nil,?_⟩
 ·rcases hS with hS | hS
  ·exact .lst hS (λz=>nomatch z) (Reps.ints ns)
  ·exact .lstK hS (Reps.ints ns)
 ·rw[hF ns hl]
  intro v H' s r
  rw[r.bool_inv]
  simp_all
theorem walk{l:PySem.W.OpenLaw}{q:Program}{loose:List Str}{XP:(Str->Option Value)->Heap->Prop}{YP:World->Heap->Prop}{d:DefRec}{K:Params->ε}{k:Nat}{F:List D->M D}{x:Str}(hn:l.most=some 63)(hdf:d.params.defaults=[])
  (hF:∀ns:List Int,ns.length<=63->F [.list (ns.map ζ)]=M.ret (.bool true)) (hr:Room k callerA)
  (hY:∀(w:World) (h:Heap),YP w h->(K w.params).In h)
  (T:∀(w:World) (mg:Str->Option Value) (fa:Addr) (h:Heap),(K w.params).In h->h.Ns mainGlobals mg->mg d.name=some (.ref fa) ->
   ∃fd:FuncData,(∀(s:Shared) (u:Value),BindsTo s fd ⟨[u],[]⟩ [(x,u)])/\∀base:Heap,(K w.params).In base->base.Ns mainGlobals mg->FnOk l.prog w (K w.params) mg base CX0 k fa fd [x] (spD (K w.params) 1 F)) :
  PySem.W.WalkO q loose XP YP l.row.toRowW d [] (λf vs=>PySem.call f vs) :=
 L2.Bl (n:=63) (k:=k) (x:=x) (CX:=λ_=>CX0) (sp:=λw=>spD (K w.params) 1 F) hn (by decide) hdf hr hY T (λw H a ns hl _ hS=>law_sp hF _ _ _ _ ⟨a,ns,rfl,hS,hl,λ_=>rfl⟩) λ_ _ _ _ _ z=>z
end
end DL
namespace DL
open L2
section
variable{δ δ':DS}{f g:DS->M D}{fb gb:DS->M Bool}{fa:DS->M (List D)}{gs gt g1 g2:DS->M Out}{d x y:D}{b b1 b2:Bool}{ds xs:List D}{i j:Int}{r:M Out}{o:Out}
theorem aa{n:Nat}(h:δ[n]?=some (.vl d)):ac n δ=M.ret d:=by unfold ac;rw[h]
theorem aj:dC d δ=M.ret d:=rfl
theorem ag{h:D->D->Option D}(h1:f δ=M.ret x)(h2:g δ=M.ret y)(h3:h x y=some d):d2 h f g δ=M.ret d:=by
 unfold d2;rw[h1,ay,h2,ay,h3];rfl
theorem bW{h:D->Option D}(h1:f δ=M.ret x)(h3:h x=some d):d1 h f δ=M.ret d:=by
 unfold d1;rw[h1,ay,h3];rfl
theorem bD:bf (.int i) (.int j)=some (.int (i+j)):=rfl
theorem iw:gY (.int i) (.int j)=some (.int (i-j)):=rfl
theorem lm(h:DO i j=true):gH (.int i) (.int j)=some (.int (i*j)):=if_pos h
theorem oG(h:bDiv j=true):oI (.int i) (.int j)=some (.int (i / j)):=if_pos h
theorem cI(h:0<j):eP (.int i) (.int j)=some (.int (i % j)):=if_pos (decide_eq_true h)
theorem oF:oLt (.int i) (.int j)=some (.bool (decide (i<j))):=rfl
theorem rb:oGt (.int i) (.int j)=some (.bool (decide (j<i))):=rfl
theorem o_ge:oGe (.int i) (.int j)=some (.bool (decide (j<=i))):=rfl
theorem o_pow6:xn (.int 10) (.int 6)=some (.int 1000000):=rfl
theorem p8:m8 [.int i,.int j]=some (.int (max i j)):=rfl
theorem o_min:xo [.int i,.int j]=some (.int (min i j)):=rfl
theorem kN:dM [.list ds]=some (.int ds.length):=rfl
theorem o_lenT:dM [.tuple ds]=some (.int ds.length):=rfl
theorem zK:oEq (.int i) (.int j)=some (.bool (decide (i=j))):=by
 rfl
theorem uD:oNe (.int i) (.int j)=some (.bool (!decide (i=j))):=by
 rfl
theorem kZ(h1 : -18446744073709551616<i)(h2:i<18446744073709551616):DO i j=true:=decide_eq_true (.inl ⟨h1,h2⟩)
theorem vg(h1 : -18446744073709551616<j)(h2:j<18446744073709551616):DO i j=true:=decide_eq_true (.inr ⟨h1,h2⟩)
theorem je(h1:0<j)(h2:j<1267650600228229401496703205376):bDiv j=true:=decide_eq_true ⟨h1,h2⟩
theorem bi(h:f δ=M.ret (.bool b)):dB f δ=M.ret b:=by unfold dB;rw[h];rfl
theorem mE(h:fb δ=M.ret b):nj fb δ=M.ret (!b):=by unfold nj;rw[h];rfl
theorem rN(h1:fb δ=M.ret b1)(h2:gb δ=M.ret b2):jT fb gb δ=M.ret (b1&&b2):=by
 unfold jT;rw[h1,ay,h2];cases b1<;>rfl
theorem gO(h1:fb δ=M.ret false)(h2:gb δ=M.ret b):dOr fb gb δ=M.ret b:=by unfold dOr;rw[h1,ay,if_neg Z8];exact h2
theorem AN(h1:fb δ=M.ret false):jT fb gb δ=M.ret false:=by unfold jT;rw[h1];rfl
theorem AM(h1:fb δ=M.ret true)(h2:gb δ=M.ret b):jT fb gb δ=M.ret b:=by unfold jT;rw[h1,ay,if_pos rfl];exact h2
theorem ev_is(h:f δ=M.ret d)(hi:jh d=true:=by rfl):dIs T f δ=M.ret (.bool (isD T d)):=by unfold dIs;rw[h,ay,if_pos hi]
theorem af:ak δ=M.ret []:=rfl
theorem ad(h1:f δ=M.ret x)(h2:fa δ=M.ret xs):ae f fa δ=M.ret (x::xs):=by unfold ae;rw[h1,ay,h2];rfl
theorem bR(h:fa δ=M.ret ds)(hz:aJ ds.length=true):bM fa δ=M.ret (.tuple ds):=by unfold bM;rw[h,ay,if_pos hz]
theorem gC(h:fa δ=M.ret ds)(hz:aJ ds.length=true):kW fa δ=M.ret (.list ds):=by unfold kW;rw[h,ay,if_pos hz]
theorem bS(h1:fa δ=M.ret ds)(h2:h ds=some d):dCB h fa δ=M.ret d:=by unfold dCB;rw[h1,ay,h2];rfl
theorem aO{F:List D->M D}(h1:fa δ=M.ret ds)(h2:F ds=M.ret d):aG (λds=>noX (F ds)) fa δ=M.ret d:=by
 unfold aG;rw[h1,ay,h2];rfl
theorem j7(h:f δ=M.ret (.int i)):kG f δ=M.ret (some i):=by unfold kG;rw[h];rfl
theorem j8:jc δ=M.ret none:=rfl
theorem kF(h1:fb δ=M.ret b){r:M D}(h2:(if b=true then f δ else g δ)=r):dIf fb f g δ=r:=by unfold dIf;rw[h1];exact h2
theorem ax(h1:gs δ=M.ret (.nx δ'))(h2:gt δ'=r):aH gs gt δ=r:=by unfold aH;rw[h1];exact h2
theorem Dt(h1:gs δ=M.ret (.rt d)):aH gs gt δ=M.ret (.rt d):=by unfold aH;rw[h1];rfl
theorem tX(h1:fb δ=M.ret b)(h2:(if b=true then aH g1 gt δ else aH g2 gt δ)=r):aH (gIf fb g1 g2) gt δ=r:=by
 unfold aH gIf;rw[h1,ay];unfold aH at h2;cases b<;>exact h2
theorem hV(h1:fb δ=M.ret b)(h2:(if b=true then g1 δ else g2 δ)=r):gIf fb g1 g2 δ=r:=by unfold gIf;rw[h1];exact h2
theorem wn:cP δ=M.ret (.nx δ):=rfl
theorem Du(h:gt δ=r):aH cP gt δ=r:=h
theorem aN(h:f δ=M.ret d):bq f (tgN n) δ=M.ret (.nx (δ.set n (.vl d))):=by unfold bq;rw[h];rfl
theorem ev_asgT(h:f δ=M.ret d)(h2:t d δ=some δ'):bq f t δ=M.ret (.nx δ'):=by unfold bq;rw[h,ay,h2];rfl
theorem bX(h:f δ=M.ret d):ck f δ=M.ret (.rt d):=by unfold ck;rw[h];rfl
theorem bh{n:Nat}(h:gs (gj n ds)=M.ret (.rt d)):run n gs ds=M.ret d:=by unfold run;rw[h];rfl
theorem qj{α:Type}{p:Prop}[Decidable p]{A B r:α}(h:p)(k:A=r):(if decide p=true then A else B)=r:=by simp_all
theorem qk{α:Type}{p:Prop}[Decidable p]{A B r:α}(h:¬p)(k:B=r):(if decide p=true then A else B)=r:=by simp_all
theorem fM{α:Type}{A B r:α}{b:Bool}(h:b=true)(k:A=r):(if b=true then A else B)=r:=by simp_all
theorem gy{α:Type}{A B r:α}{b:Bool}(h:b=false)(k:B=r):(if b=true then A else B)=r:=by simp_all
theorem i7(h1:t d δ=some δ')(h2:gs δ'=r):cr t gs d δ=r:=by unfold cr;rw[h1];exact h2
end
end DL
namespace L2
open PyProof.Rows
section
end
end L2
namespace DL
open PyProof.Rows L2
def tD(K:ε)(G:XD->Hp->Prop)(f:DS->M D):TE:=λσ H Q=>∃Hr δ O,Ev K Hr O H σ δ/\ok (GS G Hr) (f δ) (λd=>∀v H',aE H H'->Rep K O H' v d->Q v H')
theorem PD.can(h:PD X G e f):PE X e (tD X.K G f):=by
 obtain⟨t,p,h⟩:=h
 intro pins s σ H Q I hw
 obtain⟨Hr,δ,O,E,k⟩:=hw
 exact p pins s σ H Q I (h δ O σ H Q E k)
section
def Kp(l:Addr)(H H':Hp):Prop:=∀b o,b≠l->H b=some o->H' b=some o
theorem Kp.to(k:Kp l H H')(hl:H l=none):To O (l::O) H H':=by
 have rd:∀{b:Addr} {o:HO},Rd H b o->Rd H' b o:=λ{b o} h=>by
  have hb:=Rd.ne_new h hl
  rcases h with h | ⟨u,h⟩
  ·exact .inl (k _ _ hb h)
  ·exact .inr ⟨u,k _ _ hb h⟩
 have no:∀{b:Addr} {o:HO},b∉O->Rd H b o->b∉l::O:=λ{b o} n h z=>by
  rcases ψ.mp z with z | z
  ·exact Rd.ne_new h hl z
  simp_all
 exact⟨λb xs h=>rd h,λb xs n h=>⟨no n h,rd h⟩,λb xs n h=>⟨no n h,rd h⟩,λb C dx fs n h=>⟨no n (.inl h),k _ _ (aC h hl) h⟩⟩
theorem Kp.same(k:Kp l H H')(hl:H l=none):aE H H':=λb o e=>k b o (aC e hl) e
end
section
end
section
end
end DL
namespace L2
open PyProof.Rows
section
end
end L2
namespace DL
open PyProof.Rows L2
noncomputable def jt(δ:DS)(j:Nat):Sl:=match δ[j]? with
 | some (.vl d)=>.vl d
 | _=>.un
section
end
section
end
section
end
end DL
namespace DL
open PyProof.Rows L2
section
variable{X:Cx}{G:XD->Hp->Prop}{a b c e:Expr}{f:DS->M D}{pos pos':Pos}{sts:List Stmt}{gs:DS->M Out}
variable{K:ε}{Hr:Hp}{R0:List Addr}{P0:Addr->Prop}{H0 H H':Hp}{O:List Addr}{σ:St}{δ:DS}
theorem DU.to{O':List Addr}{o:Option (Option V)}{s:Sl}(t:To O O' H H')(hd:∀l kvs,l∈O->H l=some (.dK kvs)->l∈O'/\H' l=some (.dK kvs))(hs:∀l xs,l∈O->H l=some (.lst xs)->o=some (some (.ref l))->(∃ds,s=.ow ds)->l∈O'/\H' l=some (.lst xs))(h:DU K O H o s):DU K O' H' o s:=by
 cases s with
 | un=>trivial
 | ex a=>exact h
 | vl d =>
  obtain⟨v,h1,r⟩:=h
  exact⟨v,h1,r.to t⟩
 | ow ds =>
  obtain⟨l,xs,h1,h2,h3,r⟩:=h
  obtain⟨q1,q2⟩:=hs l xs h2 h3 h1 ⟨ds,rfl⟩
  exact⟨l,xs,h1,q1,q2,r.to t⟩
 | od es =>
  obtain⟨l,kvs,h1,h2,h3,hk,r⟩:=h
  obtain⟨q1,q2⟩:=hd l kvs h2 h3
  exact⟨l,kvs,h1,q1,q2,hk,r.to t⟩
theorem As(hl:H l=none):∀a kvs,a∈O->H a=some (.dK kvs)->a∈l::O/\upd H l o a=some (.dK kvs):=λa kvs h1 h2=>⟨θ _ h1,by rw[upd_ne (aC h2 hl)];exact h2⟩
theorem Aq{l:Addr}{xs:List V}{o:HO}(hl:H l=some (.lst xs)):∀a kvs,a∈O->H a=some (.dK kvs)->a∈O/\upd H l o a=some (.dK kvs):=λa kvs h1 h2=>⟨h1,by rw[upd_ne (vS h2 hl (by simp))];exact h2⟩
theorem EI.app{i:Nat}{l:Addr}{xs:List V}{ds:List D}{v:V}{d:D}(E:EI K Hr R0 P0 H0 O H σ δ)(hd:δ[i]?=some (.ow ds))(hσ:σ[i]?=some (some (.ref l)))(hl:H l=some (.lst xs))(rx:Reps K O H xs ds)(r:Rep K O H v d) :
  EI K Hr R0 P0 H0 O (upd H l (.lst (xs++[v]))) σ (δ.set i (.ow (ds++[d]))):=by
 obtain⟨l',xs',q1,lO,q3,_⟩:=E.ev.at_ i _ hd
 rw[hσ] at q1
 cases q1
 have tO:To O O H (upd H l (.lst (xs++[v]))):=To.set hl lO
 refine⟨⟨λb o h=>?_,λa ha=>?_,by rw[Λ];exact E.ev.len,λj s h=>?_,λj k a es es' hjk h1 h2 h3=>?_⟩,E.omr,λb o n h=>?_,E.om,λj es a h1 ho h2=>?_,E.sub⟩
 ·have q:=E.ev.root b o h
  have hne:b≠l:=λz=>by
   subst z
   rcases E.omr b lO with w | w
   ·exact E.nr i ds b hd hσ w
   ·rw[h] at w;cases w
  rw[upd_ne hne]
  exact q
 ·by_cases hb:a=l
  ·rw[hb];exact .lst aA
  ·exact(E.ev.oo a ha).upd_ne hb
 ·rw[aW] at h
  by_cases hij:i=j
  ·rw[if_pos hij] at h
   split at h
   ·cases h
    rw[<-hij,hσ]
    exact⟨l,_,rfl,lO,aA,(rx.to tO).append (.cons (r.to tO) .nil)⟩
   ·cases h
  ·rw[if_neg hij] at h
   refine(E.ev.at_ j s h).to tO (Aq hl) λa ys h1 h2 h3 h4=>⟨h1,?_⟩
   obtain⟨es,rfl⟩:=h4
   have hne:a≠l:=λz=>by
    subst z
    exact E.ev.dis i j a ds es hij hd h hσ h3
   rw[upd_ne hne]
   exact h2
 ·have old:∀(j:Nat) (es:List D),(δ.set i (.ow (ds++[d])))[j]?=some (.ow es)->∃es',δ[j]?=some (.ow es'):=λj es h=>by
   rw[aW] at h
   by_cases hij:i=j
   ·rw[<-hij];exact⟨ds,hd⟩
   ·rw[if_neg hij] at h;exact⟨es,h⟩
  obtain⟨e1,h1⟩:=old j es h1
  obtain⟨e2,h2⟩:=old k es' h2
  exact E.ev.dis j k a e1 e2 hjk h1 h2 h3
 ·have q:=E.keep b o n h
  have hne:b≠l:=λz=>by
   subst z
   rcases E.om b lO with w | w | w
   ·exact E.nr i ds b hd hσ w
   ·exact n w
   ·rw[h] at w;cases w
  rw[upd_ne hne]
  exact q
 ·rw[aW] at h1
  by_cases hij:i=j
  ·exact E.nr i ds a hd (by rw[hij];exact h2)
  ·rw[if_neg hij] at h1
   exact E.nr1 j es a h1 ho h2
noncomputable def ki(i:Nat)(f:DS->M D):DS->M Out:=λδ=>match δ[i]? with
 | some (.ow ds)=>(f δ).thn λd=>if aJ (ds.length+1) then M.ret (.nx (δ.set i (.ow (ds++[d])))) else none
 | _=>none
theorem sA(h:aJ (n+1)=true):n<sizeLine:=by
 have:=bt h
 omega
theorem pd_app(hv:PE X (.Name x xp) (ld i))(he:PD X G e f)
  (hst:starEach [e] X.env=(false,eval e X.env)::starEach [] X.env:=by rfl)
  (hbase:attributeBase (.Name x xp) "append" X.env (eval (.Name x xp) X.env)=eval (.Name x xp) X.env:=by rfl)
  (hfew:((backTo cpos (starEach [e] X.env)).all (λx=>!x.1)&&(backToKw cpos (keywordEach [] X.env)).all (λx=>x.1.isSome)
   && decide ([e].length+([]:List Keyword).length+(if ([]:List Keyword).isEmpty then 0 else 1)<30))=true:=by rfl)
  (hline:(apos.endLine==cpos.line)=true:=by rfl) (hplain:(backTo cpos (starEach [] X.env)).any (·.1)=false:=by rfl)
  (hs:swapsWith (.Call (.Attribute (.Name x xp) "append" apos) [e] [] cpos) none pos.line X.env=pure false:=by rfl) :
  PDS X G (.Expr (.Call (.Attribute (.Name x xp) "append" apos) [e] [] cpos) pos) (ki i f):=by
 obtain⟨t,p,he⟩:=he
 refine⟨_,qT (sP PySem.F.plainAttrs_list PySem.F.slot_list_append PySem.F.type_list_append ms hv (e8 p iS hst) hbase hfew hline hst hplain) hs,λR0 P0 H0 δ O σ H Dn E k=>?_⟩
 unfold ki at k
 split at k
 ·rename_i ds hd
  obtain⟨l,xs,q1,q2,q3,q4⟩:=E.ev.at_ i _ hd
  refine⟨.ref l,q1,.inl ⟨rfl,xs,.inl (.inl q3)⟩,?_⟩
  refine he δ O σ H _ E.ev (ah (ao k) λd z v H1 s1 r=>?_)
  by_cases hz:aJ (ds.length+1)=true
  ·rw[if_pos hz] at z
   refine⟨l,xs,v,rfl,rfl,s1 _ _ q3,by rw[q4.length];exact sA hz,?_⟩
   exact z O σ _ ((E.same s1).app hd q1 (s1 _ _ q3) (q4.same s1) r)
  ·rw[if_neg hz] at z
   exact z.elim
 ·exact k.elim
noncomputable def mS(i:Nat):DS->M Out:=λδ=>match δ[i]? with
 | some (.ow ds)=>M.ret (.rt (.list ds))
 | _=>none
theorem Cz(he:PE X e (ld i)):PDS X G (.Return (some e) pos) (mS i):=by
 refine⟨_,jx he,λR0 P0 H0 δ O σ H Dn E k=>?_⟩
 unfold mS at k
 split at k
 ·rename_i ds hd
  obtain⟨l,xs,q1,q2,q3,q4⟩:=E.ev.at_ i _ hd
  exact⟨.ref l,q1,k _ H E.keep (.lst (.inl q3) (E.nr i ds l hd q1) (q4.to (.less E.sub)))⟩
 ·exact k.elim
noncomputable def frz(i:Nat)(δ:DS):DS:=match δ[i]? with
 | some (.ow ds)=>δ.set i (.vl (.list ds))
 | _=>δ
theorem EI.frz{i:Nat}(E:EI K Hr R0 P0 H0 O H σ δ):∃O',EI K Hr R0 P0 H0 O' H σ (DL.frz i δ):=by
 unfold DL.frz
 split
 ·rename_i ds hd
  obtain⟨l,xs,q1,q2,q3,q4⟩:=E.ev.at_ i _ hd
  have nr:=E.nr i ds l hd q1
  refine⟨O.filter (λa=>decide (a≠l)),⟨E.ev.root,λa ha=>E.ev.oo a (Y6.mp ha).1,by rw[Λ];exact E.ev.len,λj s h=>?_,λj k a es es' hjk h1 h2 h3=>?_⟩,λa ha=>E.omr a (Y6.mp ha).1,E.keep,λa ha=>E.om a (Y6.mp ha).1,λj es a h1 ho h2=>?_,λa ha=>?_⟩
  ·have tl:To O (O.filter (λa=>decide (a≠l))) H H:=To.less λb hb=>(Y6.mp hb).1
   rw[aW] at h
   by_cases hij:i=j
   ·rw[if_pos hij] at h
    split at h
    ·cases h
     rw[<-hij,q1]
     exact⟨.ref l,rfl,.lst (.inl q3) (λz=>absurd rfl (of_decide_eq_true (Y6.mp z).2)) (q4.to tl)⟩
    ·cases h
   ·rw[if_neg hij] at h
    refine(E.ev.at_ j s h).to tl (λa kvs h1 h2=>⟨Y6.mpr ⟨h1,decide_eq_true (vS h2 q3 (by intro z;cases z))⟩,h2⟩) λa ys h1 h2 h3 h4=>⟨Y6.mpr ⟨h1,decide_eq_true λz=>?_⟩,h2⟩
    obtain⟨es,rfl⟩:=h4
    subst z
    exact E.ev.dis i j a ds es hij hd h q1 h3
  ·have old:∀(j:Nat) (es:List D),(δ.set i (.vl (.list ds)))[j]?=some (.ow es)->δ[j]?=some (.ow es):=λj es h=>by
    rw[aW] at h
    by_cases hij:i=j
    ·rw[if_pos hij] at h
     split at h<;>cases h
    ·rw[if_neg hij] at h;exact h
   exact E.ev.dis j k a es es' hjk (old j es h1) (old k es' h2) h3
  ·rw[aW] at h1
   by_cases hij:i=j
   ·rw[if_pos hij] at h1
    split at h1
    ·cases h1;exact ho.elim
    ·cases h1
   ·rw[if_neg hij] at h1
    exact E.nr1 j es a h1 ho h2
  ·exact Y6.mpr ⟨E.sub a ha,decide_eq_true λz=>nr (z▸ha)⟩
 ·exact⟨O,E⟩
noncomputable def Dj(i:Nat)(g:DS->M Out):DS->M Out:=λδ=>g (frz i δ)
theorem Cq(i:Nat)(h:jf X G sts gs):jf X G sts (Dj i gs):=by
 obtain⟨t,p,h⟩:=h
 refine⟨t,p,λR0 P0 H0 δ O σ H Dn E k=>?_⟩
 obtain⟨O',E'⟩:=E.frz
 exact h R0 P0 H0 (frz i δ) O' σ H Dn E' k
end
noncomputable def iX:List D->Option (List Int)
 | []=>some []
 | .int i::r=>(iX r).map (i :: ·)
 | _=>none
theorem oT:∀{ds:List D} {ns:List Int},iX ds=some ns->ds=ns.map ζ
 | [],ns,h=>by cases h;rfl
 | .int i::r,ns,h=>by
  have h:(iX r).map (i :: ·)=some ns:=h
  cases e:iX r with
  | none=>simp_all
  | some cs=>rw[e] at h;cases h;rw[oT e];rfl
theorem pY{K:ε}{O:List Addr}{H:Hp}:∀{ns:List Int} {vs:List V},Reps K O H vs (ns.map ζ)->vs=ns.map V.int
 | [],_,.nil=>rfl
 | b::bs,_,.cons r rs=>by rw[r.int_inv,pY rs];rfl
theorem dv{names:List (Str×NameKind)}{cl:List (Str×Addr)}(h:names.all (λy=>!(y.2==.cell||y.2==.free)||(cl.lookup y.1).isSome)=true):∀y∈names,(y.2=.cell\/y.2=.free)->∃c,cl.lookup y.1=some c:=λy hy hk=>by
 have q:=U6.mp h y hy
 have k:(y.2==NameKind.cell||y.2==NameKind.free)=true:=by
  simp_all
 rw[k] at q
 exact Option.isSome_iff_exists.mp (by assumption)
section
variable{X:Cx}{scope:Scope}{cl:List (Str×Addr)}
theorem gA:∀p∈([]:List (Nat×Str)),X.N[p.1]?=some p.2/\X.env.kindOf p.2=some .cell/\(compEnvC scope cl 0 X.env).kindOf p.2=some .cell/\∃c,cl.lookup p.2=some c:=λp hp=>nomatch hp
theorem fS{j:Nat}{y:Str}{fr:List (Nat×Str)}(h1:X.N[j]?=some y)(h2:X.env.kindOf y=some .cell)(h3:(compEnvC scope cl 0 X.env).kindOf y=some .cell)(h4:∃c,cl.lookup y=some c)
  (hr:∀p∈fr,X.N[p.1]?=some p.2/\X.env.kindOf p.2=some .cell/\(compEnvC scope cl 0 X.env).kindOf p.2=some .cell/\∃c,cl.lookup p.2=some c) :
  ∀p∈(j,y)::fr,X.N[p.1]?=some p.2/\X.env.kindOf p.2=some .cell/\(compEnvC scope cl 0 X.env).kindOf p.2=some .cell/\∃c,cl.lookup p.2=some c:=λp hp=>by
 rcases ψ.mp hp with rfl | hp
 ·exact⟨h1,h2,h3,h4⟩
 ·exact hr p hp
end
section
theorem kT(h:δ[i]?=some (.ow ds))(h1:f δ=M.ret d)(hz:aJ (ds.length+1)=true):ki i f δ=M.ret (.nx (δ.set i (.ow (ds++[d])))):=by
 unfold ki;rw[h,h1];show(if aJ (ds.length+1)=true then _ else _)=_;simp_all
theorem ev_frz(h:g (frz i δ)=r):Dj i g δ=r:=h
theorem oQ(h0:0<=i)(h:ds[i.toNat]?=some d):oIx (.list ds) (.int i)=some d:=by
 have e:=L2.kg h
 rw[Int.toNat_of_nonneg h0] at e
 exact e
theorem aF{n:Nat}(h:n<=16000000):aJ n=true:=decide_eq_true h
theorem tW:∀{ds:List D},(∀d∈ds,d.canLay0=true/\d.depth<=5)->V8 ds=true/\PyData.depthAll ds<=5
 | [],_=>⟨rfl,Y5 _⟩
 | d::ds,h=>by
  obtain⟨h1,h2⟩:=h d υ
  obtain⟨h3,h4⟩:=tW λe he=>h e (θ _ he)
  refine⟨?_,?_⟩
  ·show(d.canLay0&&V8 ds)=true
   simp_all
  ·show max d.depth (PyData.depthAll ds)<=5
   omega
end
end DL
namespace XF
open PyProof.Rows
section
end
end XF
namespace L2
open PyProof.Rows
section
end
section
end
end L2
namespace DL
open PyProof.Rows L2
section
end
section
end
end DL
namespace L2
open PyProof.Rows
section
abbrev Cx.held(X:Cx)(pn:List (Addr×Obj))(e:Addr):Cx:={ X with A:=X.A.mark (some (.ref e)),calm:=false,pn:=pn,xe:=λ_ _=>False }
end
end L2
namespace L2
open PyProof.Rows
section
noncomputable def Ends.gone(D:Ends)(i:Nat):Ends:=⟨λσ H=>D.nx (σ.set i none) H,D.rt,λσ H=>D.bk (σ.set i none) H,λσ H=>D.ct (σ.set i none) H⟩
end
end L2
namespace DL
open PyProof.Rows L2
section
noncomputable def Sl.noOw:Sl->Sl
 | .ow _=>.un
 | .od _=>.un
 | s=>s
noncomputable def noOw(δ:DS):DS:=δ.map Sl.noOw
noncomputable def Out.gone(i:Nat):Out->Out
 | .nx δ=>.nx (δ.set i .un)
 | .rt d=>.rt d
 | .bk δ=>.bk (δ.set i .un)
 | .ct δ=>.ct (δ.set i .un)
noncomputable def exS(N i:Nat)(a:Addr):DS:=(χ N Sl.un).set i (.ex a)
open Classical in
noncomputable def yj(N i:Nat)(gs:Addr->DS->M Out):M Out :=
 if h:∃r,∀a,(noX (gs a (exS N i a))).thn (λo=>M.ret (o.gone i))=r then choose h else none
open Classical in
noncomputable def gTry(x:Str)(N i:Nat)(gb:DS->M Out)(gs:Addr->DS->M Out):DS->M Out:=λδ=>match gb (noOw δ) with
 | none=>none
 | some (.ok o)=>some (.ok o)
 | some (.error y)=>if y.cls=x then yj N i gs else none
end
section
end
end DL
namespace L2
open PySem.W PySem.Calls PyProof.Rows
open PySem.Builtin.ObjectAttr PySem.Builtin PySem.Builtin.Getset_descriptor
section
end
end L2
namespace DL
open PyProof.Rows L2
section
end
end DL
namespace DL
open PyProof.Rows L2
section
variable{X:Cx}
noncomputable def one? : D->Bool
 | .bool _=>true
 | .none=>true
 | _=>false
noncomputable def jW:D->D->Bool
 | .bool a,.bool b=>a==b
 | .none,.none=>true
 | _,_=>false
noncomputable def oIs(x y:D):Option D:=if one? y then some (.bool (jW x y)) else none
noncomputable def gZ(x y:D):Option D:=if one? y then some (.bool (!jW x y)) else none
theorem op_isB:OpR X (compareOp .Is) (λx y H Q=>∃b,y=.bl b/\Q (.bl (decide (x=.bl b))) H):=by
 intro pins s σ H x y v u Q I rx ry h
 obtain⟨b,rfl,q⟩:=h
 cases (show u=Value.bool b from ry)
 have fin:∀c:Bool,decide (x=V.bl b)=c->EP X pins σ Q (.bool c) s:=λc e=>⟨.bl _,H,I,rfl,e▸q⟩
 cases x with
 | non=>cases (show v=Value.none from rx);exact wpAny_pure (fin _ (by simp))
 | bl c=>cases (show v=Value.bool c from rx);exact wpAny_pure (fin _ (by grind))
 | int i=>obtain⟨t,z⟩:=(show ∃t,v=Value.int i t from rx);cases z;exact wpAny_pure (fin _ (by simp))
 | str i=>obtain⟨t,z⟩:=(show ∃t,v=Value.str i t from rx);cases z;exact wpAny_pure (fin _ (by simp))
 | byt i=>obtain⟨t,z⟩:=(show ∃t,v=Value.bytes i t from rx);cases z;exact wpAny_pure (fin _ (by simp))
 | flt i=>obtain⟨t,z⟩:=(show ∃t,v=Value.float i t from rx);cases z;exact wpAny_pure (fin _ (by simp))
 | ref p=>cases (show v=Value.ref p from rx);exact wpAny_pure (fin _ (by simp))
 | ty p=>cases (show v=Value.type p from rx);exact wpAny_pure (fin _ (by simp))
theorem CN:OpR X (compareOp .IsNot) (λx y H Q=>∃b,y=.bl b/\Q (.bl (!decide (x=.bl b))) H):=by
 intro pins s σ H x y v u Q I rx ry h
 obtain⟨b,rfl,q⟩:=h
 cases (show u=Value.bool b from ry)
 have fin:∀c:Bool,decide (x=V.bl b)=c->EP X pins σ Q (.bool (!c)) s:=λc e=>⟨.bl _,H,I,rfl,e▸q⟩
 cases x with
 | non=>cases (show v=Value.none from rx);exact wpAny_pure (fin false (by simp))
 | bl c=>cases (show v=Value.bool c from rx);exact wpAny_pure (fin (Value.bool c==Value.bool b) (by grind))
 | int i=>obtain⟨t,z⟩:=(show ∃t,v=Value.int i t from rx);cases z;exact wpAny_pure (fin false (by simp))
 | str i=>obtain⟨t,z⟩:=(show ∃t,v=Value.str i t from rx);cases z;exact wpAny_pure (fin false (by simp))
 | byt i=>obtain⟨t,z⟩:=(show ∃t,v=Value.bytes i t from rx);cases z;exact wpAny_pure (fin false (by simp))
 | flt i=>obtain⟨t,z⟩:=(show ∃t,v=Value.float i t from rx);cases z;exact wpAny_pure (fin false (by simp))
 | ref p=>cases (show v=Value.ref p from rx);exact wpAny_pure (fin false (by simp))
 | ty p=>cases (show v=Value.type p from rx);exact wpAny_pure (fin false (by simp))
theorem n8{K:ε}{O:List Addr}{H:Hp}{v u:V}{x y:D}(rv:Rep K O H v x)(ru:Rep K O H u y)(h1:one? y=true):(∃b,u=.bl b/\decide (v=.bl b)=jW x y)\/(u=.non/\decide (v=.non)=jW x y):=by
 cases ru with
 | non=>refine .inr ⟨rfl,?_⟩;cases rv<;>simp [jW]
 | bl d=>refine .inl ⟨d,rfl,?_⟩;cases rv<;>simp [jW]<;>exact decide_eq_decide.mpr Iff.rfl
 | _=>cases h1
theorem dop_is:DOp X (compareOp .Is) oIs:=by
 refine⟨_,op_isB.or op_isN,λO H x y d v u Q oo rx ry e k=>?_⟩
 unfold oIs at e
 by_cases h1:one? y=true
 ·rw[if_pos h1] at e
  cases e
  rcases n8 rx ry h1 with ⟨b,h2,h3⟩ | ⟨h2,h3⟩
  ·exact .inl ⟨b,h2,h3▸k _ _ (λ_ _ h=>h) (h3▸.bl _)⟩
  ·exact .inr ⟨h2,h3▸k _ _ (λ_ _ h=>h) (h3▸.bl _)⟩
 simp_all
theorem xI:DOp X (compareOp .IsNot) gZ:=by
 refine⟨_,CN.or CM,λO H x y d v u Q oo rx ry e k=>?_⟩
 unfold gZ at e
 by_cases h1:one? y=true
 ·rw[if_pos h1] at e
  cases e
  rcases n8 rx ry h1 with ⟨b,h2,h3⟩ | ⟨h2,h3⟩
  ·exact .inl ⟨b,h2,h3▸k _ _ (λ_ _ h=>h) (h3▸.bl _)⟩
  ·exact .inr ⟨h2,h3▸k _ _ (λ_ _ h=>h) (h3▸.bl _)⟩
 simp_all
end
end DL
namespace DL
open PyProof.Rows L2
section
end
end DL
namespace DL
open PyProof.Rows L2
section
end
end DL
namespace DL
open PyProof.Rows L2
section
noncomputable def dJ(c:DS->M Bool)(g:DS->M Out):Nat->DS->M Out
 | 0,_=>none
 | n+1,δ=>(c δ).thn λb=>if b=true then (g δ).thn λo=>match o with
   | .nx δ'=>dJ c g n δ'
   | .ct δ'=>dJ c g n δ'
   | .bk δ'=>M.ret (.nx δ')
   | .rt d=>M.ret (.rt d)
  else M.ret (.nx δ)
theorem iK:∀{n:Nat} {δ:DS} {r:Except XD Out} (k:Nat),dJ c g n δ=some r->dJ c g (n+k) δ=some r
 | 0,_,_,_,h=>by cases h
 | n+1,δ,r,k,h=>by
  have e:n+1+k=(n+k)+1:=by omega
  rw[e]
  unfold dJ at h ⊢
  match hc:c δ,h with
  | some (.ok true),h =>
   match hg:g δ,h with
   | some (.ok (.nx δ')),h=>exact iK k h
   | some (.ok (.ct δ')),h=>exact iK k h
   | some (.ok (.bk δ')),h=>exact h
   | some (.ok (.rt d)),h=>exact h
   | some (.error x),h=>exact h
  | some (.ok false),h=>exact h
  | some (.error x),h=>exact h
noncomputable def cO(c:DS->M Bool)(g:DS->M Out):DS->M Out:=λδ =>
 open Classical in if h:∃n r,dJ c g n δ=some r then dJ c g (Classical.choose h) δ else none
theorem mR(h:dJ c g n δ=some r):cO c g δ=some r:=by
 have hx:∃n r,dJ c g n δ=some r:=⟨n,r,h⟩
 unfold cO
 rw[dif_pos hx]
 obtain⟨r',hr⟩:=Classical.choose_spec hx
 have h1:=iK (Classical.choose hx) h
 have h2:=iK n hr
 grind
theorem oY(h:cO c g δ=some r):∃n,dJ c g n δ=some r:=by
 unfold cO at h
 split at h
 ·exact⟨_,h⟩
 ·cases h
theorem zv(hp:PassesOwn `DW X.A X.env X.xe)(hc:PDT X G c fb)(hb:jf X G body gs):PDS X G (.While c body [] pos) (cO fb gs):=by
 obtain⟨tc,pc,hc⟩:=hc
 obtain⟨tb,pb,hb⟩:=hb
 refine⟨_,sI hp pc pb,λ{Hr} R0 P0 H0 δ O σ H Dn E k=>?_⟩
 obtain⟨n,hn⟩:∃n,ok (GS G Hr) (dJ fb gs n δ) (Fin X.K Hr R0 P0 H0 Dn):=by
  cases e:cO fb gs δ with
  | none=>rw[e] at k;exact k.elim
  | some r =>
   obtain⟨n,hn⟩:=oY e
   grind
 refine⟨λm σ H=>∃δ O,EI X.K Hr R0 P0 H0 O H σ δ/\ok (GS G Hr) (dJ fb gs m δ) (Fin X.K Hr R0 P0 H0 Dn),⟨n,δ,O,E,hn⟩,λm σ H hw=>?_⟩
 obtain⟨δ,O,E,k⟩:=hw
 cases m with
 | zero=>exact k.elim
 | succ m =>
  refine hc δ O σ H _ E.ev (ah (ao k) λb z H1 s1=>?_)
  cases b with
  | false=>exact z O σ H1 (E.same s1)
  | true =>
   refine⟨λσ' H'=>∃δ O,EI X.K Hr R0 P0 H0 O H' σ' δ/\ok (GS G Hr) (dJ fb gs m δ) (Fin X.K Hr R0 P0 H0 Dn),λσ' H' hN=>⟨m,Nat.lt_succ_self m,hN⟩,?_⟩
   refine hb R0 P0 H0 δ O σ H1 _ (E.same s1) (ah (ao z) λo q=>?_)
   cases o with
   | nx δ'=>exact λO' σ' H' E'=>⟨δ',O',E',q⟩
   | ct δ'=>exact λO' σ' H' E'=>⟨δ',O',E',q⟩
   | bk δ'=>exact q
   | rt d=>exact q
end
section
end
section
theorem i0(h1:fb δ=M.ret true)(h2:gs δ=M.ret (.nx δ'))(h3:cO fb gs δ'=some r):cO fb gs δ=some r:=by
 obtain⟨n,hn⟩:=oY h3
 refine mR (n:=n+1) ?_
 unfold dJ
 rw[h1,ay,if_pos rfl,h2,ay]
 exact hn
theorem kS(h1:fb δ=M.ret false):cO fb gs δ=M.ret (.nx δ):=by
 refine mR (n:=1) ?_
 unfold dJ
 rw[h1,ay,if_neg Z8]
 rfl
theorem i6(h1:fb δ=M.ret b)(hb:b=false)(h2:gt δ=r):aH (gIf fb g1 cP) gt δ=r:=by
 subst hb
 unfold aH gIf;rw[h1,ay,if_neg Z8];exact h2
theorem tY(h1:fb δ=M.ret b)(hb:b=false):gIf fb g1 cP δ=M.ret (.nx δ):=by
 subst hb
 unfold gIf;rw[h1,ay,if_neg Z8];rfl
theorem o_pow8:xn (.int 10) (.int 8)=some (.int 100000000):=rfl
end
end DL
namespace L2
open PyProof.Rows
section
variable{X:Cx}
theorem Inv.turnNew{pins:List (Addr×Obj)}{σ:St}{H:Hp}{s:Shared}{h':Heap}{t':Nat}{ch:List Addr}{a:Addr}{o:HO}(I:`DX)(hf:∀b∈ch,md X pins H b)
  (k:∀b u,b∉ch->s.heap.get? b=some u->h'.get? b=some u) (hp:s.heap.objs.size<=a) (new:cK X.prog X.w (upd H a o) h' a o):Inv X pins σ (upd H a o) { s with heap:=h',toks:=t' }:=by
 have hn:=I.hok.fresh hp
 have nc:∀{b:Addr} {u:HO},H b=some u->b∉ch:=λe z=>by rw[(hf _ z).1] at e;cases e
 refine I.call ⟨λb u q _ _ hc=>k b u hc q,λb u q _ _ hc=>⟨u.slots,k b u hc q⟩,λb u q n _=>?_,λb u q hc=>⟨u,k b u hc q⟩,λb xs q=>?_,λb u xs q=>?_,λb ps q=>⟨#[],?_⟩⟩ (λb u e=>?_) I.bare λb hb=>?_
 ·rw[upd_ne (Z4 (Ω (Heap.lt_size q) hp))];exact n
 ·rw[upd_ne (aC q hn)];exact q
 ·rw[upd_ne (aC q hn)];exact q
 ·rw[upd_ne (aC q hn),q];simp
 ·by_cases hb:b=a
  ·subst hb;rw[aA] at e;simp_all
  ·rw[upd_ne hb] at e
   refine(I.hok b u e).stay (λc v hc q=>k c v ?_ q) (λc q=>by rw[upd_ne (aC q hn)];exact q) λc xs q=>by rw[upd_ne (aC q hn)];exact q
   grind
 ·obtain⟨_,f1,_,f3,f4,f5⟩:=hf b hb
  grind
theorem Inv.turnAll{pins:List (Addr×Obj)}{σ:St}{H:Hp}{s:Shared}{h':Heap}{t':Nat}{ch:List Addr}(I:`DX)(hf:∀b∈ch,md X pins H b)
  (k:∀b u,b∉ch->s.heap.get? b=some u->h'.get? b=some u):Inv X pins σ H { s with heap:=h',toks:=t' }:=by
 have nc:∀{b:Addr} {u:HO},H b=some u->b∉ch:=λe z=>by rw[(hf _ z).1] at e;cases e
 refine I.call ⟨λb u q _ _ hc=>k b u hc q,λb u q _ _ hc=>⟨u.slots,k b u hc q⟩,λb u q n _=>n,λb u q hc=>⟨u,k b u hc q⟩,λb xs q=>q,λb u xs q=>q,λb ps q=>⟨#[],by assumption⟩⟩ (λb u e=>?_) I.bare λb hb=>?_
 ·refine(I.hok b u e).stay (λc v hc q=>k c v ?_ q) (λc q=>q) λc xs q=>q
  grind
 ·obtain⟨_,f1,_,f3,f4,f5⟩:=hf b hb
  grind
end
noncomputable def Ite(K:ε)(a:Addr):It :=
  ⟨λi H=>∃xs x,SqL K H a xs/\xs[i]?=some x,
   λi H v H'=>∃T,v=.ref T/\H T=none/\∀xs x,SqL K H a xs->xs[i]?=some x->H'=upd H T (.tup [.int i,x]),
   λi H=>∃xs,SqL K H a xs/\xs.length<=i⟩
noncomputable def Its(x:Str):It:=⟨λi _=>i<x.length,λi H v H'=>H'=H/\∃c,x.cps[i]?=some c/\v=.str ⟨#[c]⟩,λi _=>x.length<=i⟩
theorem px{h:Heap}{a b:Addr}{o u:Obj}(e:h.get? a=some o)(e':h.get? b=some u)(d:o.cls≠u.cls):a≠b:=λz=>by
 simp_all
theorem ty_ne(h:a≠b):Value.type a≠Value.type b:=λz=>h (Value.type.inj z)
theorem wP{P:Program}{w:World}{K:ε}{elts:List Expr}{x1:Nat}{tpos:Pos}(a e it:Addr)(n1:e≠it) :
  Turn P w K (.Tuple elts x1 tpos) (Ite K a) [e,it] e (λi h=>(∃old,IsEnum h e it ((i:Nat):Int) old)/\h.IsListIter it a i) where
 mem:=by simp
 obj:=λi h st c hc=>by
  obtain⟨⟨old,he⟩,⟨o1,e1,c1,d1⟩⟩:=st
  grind
 keep:=λi h h' st k=>by
  obtain⟨⟨old,he⟩,h1⟩:=st
  exact⟨⟨old,k e (by simp) _ he⟩,h1.at λo e=>k it (by simp) o e⟩
 item:=by
  intro X hP hw hK hc i pins s σ H E I hf st hg
  subst hP hw hK
  obtain⟨⟨old,he⟩,h1⟩:=st
  obtain⟨xs,x,hq,hx⟩:=hg
  obtain⟨its,rv,p,_⟩:=I.list hq
  obtain⟨ux,hux,rx⟩:=rv.get hx
  obtain⟨o1,e1,c1,d1⟩:=id h1
  have fr:H s.heap.objs.size=none:=I.hok.fresh (ξ _)
  have ne:∀{c:Addr} {o:Obj},s.heap.get? c=some o->s.heap.objs.size≠c:=λe=>Nat.ne_of_gt (Heap.lt_size e)
  obtain⟨oa,ea,ca,da⟩:=id p.isList
  have ne1:a≠e:=px ea he (by simp_all)
  have ne2:a≠it:=px ea e1 (by simp_all)
  refine wpAny_pyNext_enum_item he h1 p.isList (x:=ux) (by simp_all) n1 λh' e' h1' T' sz k=>?_
  refine⟨_,rfl,wpAny_letOwnedTupleGo_enum e' λh2 he2 sb=>?_⟩
  have k2:∀c o,c∉[e,it]->s.heap.get? c=some o->h2.get? c=some o:=λc o hc q=>by
   simp only[ψ,X9,or_false,not_or] at hc
   exact sb.extBut _ _ hc.1 (k c o hc.1 hc.2 q)
  have T2:h2.get? s.heap.objs.size=some { cls:=.type "tuple",data:=.seq #[.int i s.toks,ux] }:=sb.extBut _ _ (ne he) T'
  have I1:Inv X pins σ (upd H s.heap.objs.size (.tup [.int i,x])) { s with heap:=h2,toks:=s.toks+1 }:=by
   refine I.turnNew hf k2 (ξ _) ⟨by show 2<=_;rw[sizeLine_eq];omega,[.int i s.toks,ux],.cons ⟨_,rfl⟩ (.cons rx .nil),?_⟩
   exact⟨_,T2,rfl,0,rfl⟩
  refine⟨.ref s.heap.objs.size,_,I1,rfl,⟨_,rfl,fr,λxs' x' q1 q3=>?_⟩,⟨⟨ux,he2⟩,h1'.extBut sb.extBut n1.symm⟩,λc hc=>?_⟩
  ·rw[I.list_inj q1 hq] at q3
   simp_all
  ·have hn:c≠s.heap.objs.size:=by
    grind
   rw[upd_ne hn]
   exact(hf c hc).1
 done:=by
  intro X hP hw hK hc i pins s σ H E I hf st hg
  subst hP hw hK
  obtain⟨⟨old,he⟩,h1⟩:=st
  obtain⟨xs,hq,hx⟩:=hg
  obtain⟨its,rv,p,_⟩:=I.list hq
  have hl:=rv.length
  refine wpAny_pyNext_enum_end (I.ok.hd hc) he h1 p.isList (by simp_all) λh' k=>⟨rfl,?_⟩
  refine I.turnAll (t':=s.toks) hf λc o hc e=>?_
  simp only[ψ,X9,or_false,not_or] at hc
  exact k c o hc.2 e
 self:=λ_ _ _ _ _ st h=>by
  obtain⟨⟨old,he⟩,_⟩:=st
  exact wpAny_pyIter_enum he h
section
variable{X:Cx}{elts:List Expr}{x1:Nat}{tpos:Pos}
noncomputable def iEnum(K:ε)(ta:TA):TI:=λσ H R=>ta σ H λvs H1=>∃a,vs=[.ref a]/\(∃xs,SqL K H1 a xs)/\R (Ite K a) H1
noncomputable def iStr(tl:TE):TI:=λσ H R=>tl σ H λx H1=>∃z,x=.str z/\R (Its z) H1
theorem vK{a:Expr}{ta:TA}{p pos:Pos}(hg:Gl X "enumerate")(hm:X.mg "enumerate" = none)(ha:PA X [a] ta)(hs:starEach [a] X.env=[(false,eval a X.env)]:=by rfl) :
  PI X (.Tuple elts x1 tpos) (.Call (.Name "enumerate" p) [a] [] pos) (iEnum X.K ta):=by
 intro pins s σ H R I h
 refine Call_ (iW I hg hm boot_enumerate (PyProof.Rows.callWith_type1 (thn (ha pos pins s σ H _ I h) λus s1 z0=>?_) hs rfl))
 obtain⟨vs,H1,I1,r1,q1⟩:=z0
 obtain⟨l1,e,⟨xs,hx⟩,q⟩:=q1
 subst e
 cases r1 with
 | cons r rr =>
  cases rr
  cases r
  obtain⟨its,rv,pl,_⟩:=I1.list hx
  refine call_enumerate_list pl.isList λh' he h1 sz k=>wpAny_pyIter_enum he ?_
  refine⟨s1.heap.objs.size+1,[s1.heap.objs.size+1,s1.heap.objs.size],_,_,H1,rfl,I1.kept (t':=s1.toks) k,
   wP l1 (s1.heap.objs.size+1) s1.heap.objs.size (by simp),⟨⟨_,he⟩,h1⟩,λc hc=>?_,q⟩
  have hc':s1.heap.objs.size<=c:=by
   grind
  exact I1.fpOk hc' (I1.hok.fresh hc')
theorem nR{P:Program}{w:World}{K:ε}{tg:Expr}(it:Addr)(x:Str)(t:Tok):Turn P w K tg (Its x) [it] it (λi h=>h.IsStrIter it "str_ascii_iterator" x t i) where
 mem:=by simp
 obj:=λi h st b hb=>by
  have e:b=it:=by simp_all
  subst e
  obtain⟨o,e,c,d⟩:=st
  simp_all
 keep:=λi h h' st k=>let ⟨o,ho,r⟩:=st;⟨o,k it (by simp) o ho,r⟩
 item:=by
  intro X hP hw hK hc i pins s σ H E I hf st hg
  obtain⟨f0,f1,f2,f3,f4,f5⟩:=hf it (by simp)
  have hg:i<x.cps.size:=hg
  refine wpAny_pyNext_ascii_item st (c:=x.cps[i]) (by simp [hg]) λh' st' sb=>?_
  have I1:Inv X pins σ H { s with heap:=h',toks:=s.toks+1 }:=I.turned (λb o hb e=>(sb.2 b hb).trans e) f0 f1 f3 f4 f5
  obtain⟨o,e,c1,d1⟩:=id st'
  exact⟨_,rfl,tR e c1 d1 (by decide) ⟨.str ⟨#[x.cps[i]]⟩,H,I1,⟨_,rfl⟩,⟨rfl,x.cps[i],by simp [hg],rfl⟩,st',λb hb=>(hf b hb).1⟩⟩
 done:=by
  intro X hP hw hK hc i pins s σ H E I hf st hg
  obtain⟨f0,f1,f2,f3,f4,f5⟩:=hf it (by simp)
  have hg:x.cps.size<=i:=hg
  exact wpAny_pyNext_ascii_end (I.ok.hd hc) st (by simp_all) λh' eb=>⟨rfl,I.turned (λb o hb e=>eb b o hb e) f0 f1 f3 f4 f5⟩
 self:=λ_ _ _ _ _ st h=>wpAny_pyIter_striter_ascii st h
theorem pC{P:Program}{w:World}{K:ε}{tg:Expr}(it:Addr)(x:Str)(t:Tok):Turn P w K tg (Its x) [it] it (λi h=>h.IsStrIter it "str_iterator" x t i) where
 mem:=by simp
 obj:=λi h st b hb=>by
  have e:b=it:=by simp_all
  subst e
  obtain⟨o,e,c,d⟩:=st
  simp_all
 keep:=λi h h' st k=>let ⟨o,ho,r⟩:=st;⟨o,k it (by simp) o ho,r⟩
 item:=by
  intro X hP hw hK hc i pins s σ H E I hf st hg
  obtain⟨f0,f1,f2,f3,f4,f5⟩:=hf it (by simp)
  have hg:i<x.cps.size:=hg
  refine wpAny_pyNext_wide_item st (c:=x.cps[i]) (by simp [hg]) λh' st' sb=>?_
  have I1:Inv X pins σ H { s with heap:=h',toks:=s.toks+1 }:=I.turned (λb o hb e=>(sb.2 b hb).trans e) f0 f1 f3 f4 f5
  obtain⟨o,e,c1,d1⟩:=id st'
  exact⟨_,rfl,tR e c1 d1 (by decide) ⟨.str ⟨#[x.cps[i]]⟩,H,I1,⟨_,rfl⟩,⟨rfl,x.cps[i],by simp [hg],rfl⟩,st',λb hb=>(hf b hb).1⟩⟩
 done:=by
  intro X hP hw hK hc i pins s σ H E I hf st hg
  obtain⟨f0,f1,f2,f3,f4,f5⟩:=hf it (by simp)
  have hg:x.cps.size<=i:=hg
  exact wpAny_pyNext_wide_end (I.ok.hd hc) st (by simp_all) λh' eb=>⟨rfl,I.turned (λb o hb e=>eb b o hb e) f0 f1 f3 f4 f5⟩
 self:=λ_ _ _ _ _ st h=>wpAny_pyIter_striter_wide st h
theorem pi_str{l:Expr}{tl:TE}{tg:Expr}(hl:PE X l tl):PI X tg l (iStr tl):=by
 intro pins s σ H R I h
 refine thn (hl pins s σ H _ I h) λv s1 z0=>?_
 obtain⟨x,H1,I1,r1,q1⟩:=z0
 obtain⟨z,e,q⟩:=q1
 subst e
 obtain⟨t,rfl⟩:=r1
 have fp:∀b∈[s1.heap.objs.size],md X pins H1 b:=λb hb=>by
  have e:b=s1.heap.objs.size:=by simp_all
  subst e
  exact I1.fpOk (ξ _) (I1.hok.fresh (ξ _))
 cases ha:z.cps.all (· < 128)
 ·exact wpAny_pyIter_wide ha ⟨s1.heap.objs.size,[s1.heap.objs.size],_,_,H1,rfl,I1.kept λb o e=>Heap.get?_push_of_some _ e,pC _ z t,⟨_,Heap.get?_push_size _ rfl,rfl,rfl⟩,fp,q⟩
 ·exact wpAny_pyIter_ascii ha ⟨s1.heap.objs.size,[s1.heap.objs.size],_,_,H1,rfl,I1.kept λb o e=>Heap.get?_push_of_some _ e,nR _ z t,⟨_,Heap.get?_push_size _ rfl,rfl,rfl⟩,fp,q⟩
end
end L2
namespace L2
open PyProof.Rows
noncomputable def aP(X:Cx)(scope:Scope)(cl:List (Str×Addr))(fr:List (Nat×Str))(tn:List Str)(C:Addr)(s3:Shared)(H3:Hp)(fp:List Addr):Cx where
 prog:=X.prog
 w:=X.w
 K:=X.K
 mg:=X.mg
 base:=X.base
 A:=X.A
 N:=tn++fr.map (·.2)
 s₀:=s3
 H₀:=H3
 env:=compEnvC scope cl C X.env
 outer:=X.stack
 stack:=X.stack
 ex:=fp
 fn:=λ_=>false
 calm:=X.calm
 pn:=[]
 xe:=λ_ _=>False
noncomputable def kY(n:Nat)(fr:List (Nat×Str))(σ:St):St:=χ n none++fr.map λp=>(σ[p.1]?).join
def kJ(n:Nat)(fr:List (Nat×Str))(wi:TI)(g:TG)(tc:TT)(te:TE):TE:=λσ H Q=>wi σ H λJ H1=>∀l,H1 l=none->∃W:Nat->Nat->St->List V->Hp->Prop,(∃m,W 0 m (kY n fr σ) [] (upd H1 l (.lst []))) /\
 ∀i m τ xs H2,W i m τ xs H2->H2 l=some (.lst xs)/\((J.stop i H2/\Q (.ref l) H2)\/(J.go i H2/\xs.length<sizeLine/\∀x H3,J.yld i H2 x H3->g x τ H3 λτ' H4=>tc τ' H4 λb H5=>if b=true then te τ' H5 λv H6=>H6 l=some (.lst xs)/\∃m',m'<m/\W (i+1) m' τ' (xs++[v]) (upd H6 l (.lst (xs++[v]))) else ∃m',m'<m/\W (i+1) m' τ' xs H5))
section
theorem Bc(I:Inv X pins σ H3 s3)(hkind:scope.kind=.function)(hsub:∀y c,cl.lookup y=some c->X.env.cells.lookup y=some c)(hhas:∀y∈(relabel scope X.env).names,(y.2=.cell\/y.2=.free)->∃c,cl.lookup y.1=some c)
  (hC:s3.heap.objs.size<=C) (hf:∀b∈fp,md X pins H3 b/\∃o,s3.heap.get? b=some o) (hfs:∀b∈fp,b∉frs X.stack) (hbase:∀b∈fp,X.base.get? b=none):(aP X scope cl fr tn C s3 H3 fp).Ok where
 mod:=I.ok.mod
 kind:=hkind
 glob:=I.ok.glob
 blt:=I.ok.blt
 above:=hC
 inj:=λy z c h1 h2=>I.ok.inj y z c (hsub y c h1) (hsub z c h2)
 has:=λy h=>by
  rcases h with h | h
  ·exact hhas _ (PySem.mem_of_lookup h) (.inl rfl)
  ·exact hhas _ (PySem.mem_of_lookup h) (.inr rfl)
 cab:=λy c h=>by cases h
 hd:=I.ok.hd
 frames:=I.ok.frames
 stk:=.inl rfl
 exf:=λb hb=>⟨by
  obtain⟨o,ho⟩:=(hf b hb).2
  exact Z4 (Ω (Heap.lt_size ho) hC),λy c h=>(hf b hb).1.2.2.2.2.1 y c (hsub y c h)⟩
 bs:=I.bs
 bsz:=X8 I.ok.bsz I.sz
 noex:=λb o e hb=>by
  have e1:X.base.get? b=some o:=e
  rw[hbase b hb] at e1;cases e1
 exfs:=hfs
 funs:=I.stack
 frf:=I.stkFree
theorem qz(I:Inv X pins σ H3 s3)(hf:∀b∈fp,md X pins H3 b)(hC:s3.heap.objs.size<=C)
  (I5:Inv (aP X scope cl fr tn C s3 H3 fp) pins5 σ5 H5 s5) (hs:Heap.SameBut C s5.heap h'):Inv X pins σ H5 { s5 with heap:=h' }:=by
 have nC:∀{b:Addr} {o:Obj},s3.heap.get? b=some o->b≠C:=λe=>Z4 (Ω (Heap.lt_size e) hC)
 have u:Un (frs X.stack) fp H3 H5 s3.heap s5.heap:=I5.base
 refine I.call' (ch:=fp) I5.os ⟨λb o e n h1 h2=>?_,λb o e n h1 h2=>?_,u.free,λb o e h2=>?_,u.tups,u.frzs,u.tbls⟩ ?_ I5.bare λb hb=>?_
 ·exact(hs.2 b (nC e)).trans (u.keep b o e n h1 h2)
 ·obtain⟨sl,e1⟩:=u.slot b o e n h1 h2
  exact⟨sl,(hs.2 b (nC e)).trans e1⟩
 ·obtain⟨o',e1⟩:=u.there b o e h2
  exact⟨o',(hs.2 b (nC e)).trans e1⟩
 ·intro a o e
  have hn:H5 C=none:=I5.free
  refine(I5.hok a o e).stay (λb u hb q=>(hs.2 b ?_).trans q) (λ_ q=>q) λ_ _ q=>q
  rcases hb with rfl | hb
  ·exact aC e hn
  ·exact aC hb hn
 ·obtain⟨_,f1,_,f3,f4,f5⟩:=hf b hb
  exact⟨f3,f1,f4,f5⟩
def PTs(X:Cx)(ifs:List Expr)(t:TT):Prop :=
 ∀(pins:List (Addr×Obj)) (s:Shared) (σ:St) (H:Hp) (Q:Bool->Hp->Prop),Inv X pins σ H s->t σ H Q ->
  wpAny `DW X.A (forIn ifs true λc r=>if r=true then do let ok <- isTrue c X.env (eval c X.env);pure (ForInStep.yield ok) else pure (ForInStep.yield r)) (TP X pins σ Q) X.xe s
noncomputable def tYes:TT:=λ_ H Q=>Q true H
theorem B0:PTs X [] tYes:=λpins s σ H Q I h=>wpAny_tests_nil ⟨H,I,h⟩
theorem BZ(h:PT X c t):PTs X [c] t:=λpins s σ H Q I hq=>wpAny_tests_one (h pins s σ H Q I hq)
theorem qy(hc:X.calm=true)
  (hkind:scope.kind=.function) (hcell:∀y∈scope.names,y.2≠.cell) (hclos:closureFor scope X.env=pure cl) (hsub:∀y c,cl.lookup y=some c->X.env.cells.lookup y=some c)
  (hhas:∀y∈(relabel scope X.env).names,(y.2=.cell\/y.2=.free)->∃c,cl.lookup y.1=some c) (hfr:∀p∈fr,X.N[p.1]?=some p.2/\X.env.kindOf p.2=some .cell/\(compEnvC scope cl 0 X.env).kindOf p.2=some .cell/\∃c,cl.lookup p.2=some c) (hnames:∀y∈scope.names,y.2=.local->scope.names.lookup y.1=some .local)
  (hi:PI X tg iter wi) (hg:∀C s3 H3 fp,PG (aP X scope cl fr tn C s3 H3 fp) tg g) (hcs:∀C s3 H3 fp,PTs (aP X scope cl fr tn C s3 H3 fp) ifs tc) (he:∀C s3 H3 fp,PE (aP X scope cl fr tn C s3 H3 fp) elt te) (hs:∀x,foldedSetIterable iter X.env x=pure x)
  (I:`DX) (h:kJ tn.length fr wi g tc te σ H Q)
  (fin:∀{D:Addr} {s3 s6:Shared} {H3 H5:Hp} {fp:List Addr} {pins5:List (Addr×Obj)} {σ5:St} {r:Flow},Inv X pins σ H3 s3->(∀b∈fp,md X pins H3 b)->Inv (aP X scope cl fr tn s3.heap.objs.size s3 H3 fp) pins5 σ5 H5 s6->Q (.ref D) H5 ->
   compPost `DW X.A X.xe use P (.ref D) s3.heap.objs.size (.ok r) s6) :
  wpAny `DW X.A (comprehension (.ListComp elt [⟨tg,iter,ifs,0⟩] scope pos) scope X.env qp (newList []) false (eval iter X.env) use) P X.xe s:=by
 refine wpAny_comprehension_free rfl hs hclos hkind hnames (thn (hi pins s σ H _ I h) λv s1 h1=>thn h1 λitv s2 h2=>?_)
 obtain⟨it,fp,tk,J,H2,e,I2,T,st2,f2,R⟩:=h2
 subst e
 have fl:H2 s2.heap.objs.size=none:=I2.hok.fresh (ξ _)
 obtain⟨W,⟨m0,w0⟩,turn⟩:=R s2.heap.objs.size fl
 refine wpAny_newObj_type (wpAny_newFunctionEnv hcell (by intro y hy;simp at hy) (λh4 hns hsb=>?_) hkind)
 have I3:Inv X pins σ (upd H2 s2.heap.objs.size (.lst [])) { s2 with heap:=s2.heap.push { cls:=.type "list",data:=.seq ([]:List Value).toArray } } :=
  I2.laid (t':=s2.toks) (λb o e=>Heap.get?_push_of_some _ e) (ξ _) ⟨Y5 _,[],0,.nil,Heap.get?_push_size _ rfl⟩
 have ob:∀b∈fp,∃o,s2.heap.get? b=some o:=λb hb=>let ⟨o,ho,_⟩:=T.obj 0 _ st2 b hb;⟨o,ho⟩
 have f3:∀b∈fp,md X pins (upd H2 s2.heap.objs.size (.lst [])) b:=λb hb=>by
  obtain⟨g0,g1,g2,g3,g4,g5⟩:=f2 b hb
  obtain⟨o,ho⟩:=ob b hb
  exact⟨by rw[upd_ne (Z4 (Heap.lt_size ho))];exact g0,g1,g2,g3,g4,g5⟩
 generalize hs3:({ s2 with heap:=s2.heap.push { cls:=.type "list",data:=.seq ([]:List Value).toArray } }:Shared)=s3 at I3
 have heap3:s2.heap.push { cls:=.type "list",data:=.seq ([]:List Value).toArray }=s3.heap:=by rw[<-hs3]
 have old3:∀b o,s2.heap.get? b=some o->s3.heap.get? b=some o:=λb o e=>by rw[<-heap3];exact Heap.get?_push_of_some _ e
 have ok3:(aP X scope cl fr tn s3.heap.objs.size s3 (upd H2 s2.heap.objs.size (.lst [])) fp).Ok:=by
  refine Bc I3 hkind hsub hhas (ξ _) (λb hb=>⟨f3 b hb,let ⟨o,ho⟩:=ob b hb;⟨o,old3 b o ho⟩⟩) (λb hb z=>?_) λb hb=>?_
  ·obtain⟨_,g1,g2,_⟩:=f2 b hb
   rcases ψ.mp (I2.stkSub b z) with q | q
   ·exact g1 q
   ·exact g2 q
  ·obtain⟨_,_,_,g3,_⟩:=f2 b hb
   rcases g3 with q | q
   ·cases e:X.base.get? b with
    | none=>rfl
    | some o=>exact absurd q (I.ok.noex b o e)
   ·exact Heap.get?_none_of_le (X8 I.ok.bsz q)
 have hns3:h4.Ns s3.heap.objs.size (λy=>([]:List (Str×Value)).reverse.lookup y):=by rw[<-heap3];exact hns
 have keep4:∀b o,s3.heap.get? b=some o->h4.get? b=some o:=λb o e=>by
  have e1:(s2.heap.push { cls:=.type "list",data:=.seq ([]:List Value).toArray }).get? b=some o:=by rw[heap3];exact e
  exact(hsb.2 b (Z4 (Heap.lt_size e1))).trans (Heap.get?_push_of_some _ e1)
 have I4:Inv (aP X scope cl fr tn s3.heap.objs.size s3 (upd H2 s2.heap.objs.size (.lst [])) fp) [] (kY tn.length fr σ) (upd H2 s2.heap.objs.size (.lst [])) { s3 with heap:=h4 }:=by
  refine⟨ok3,rfl,I3.bare,Un.kept keep4,⟨_,hns3,λi y v e1 e2 e3=>?_⟩,(λy c h=>let ⟨v,oc,ho,hd⟩:=I3.cell y c (hsub y c h);⟨v,oc,keep4 _ _ ho,hd⟩),I3.hok.fresh (ξ _),(λy c h=>I3.freeC y c (hsub y c h)),(λp hp=>nomatch hp),I3.hok.kept keep4,by simp [aP,kY]⟩
  have e1:(tn++fr.map (·.2))[i]?=some y:=e1
  have e2:(χ tn.length none++fr.map λp=>(σ[p.1]?).join)[i]?=some (some v):=e2
  by_cases hlt:i<tn.length
  ·rw[ι (by simpa using hlt),V3] at e2
   split at e2<;>cases e2
  ·rw[ο `am] at e1
   rw[ο (by simpa using hlt),U0] at e2
   rw[Γ] at e1 e2
   cases q:fr[i-tn.length]? with
   | none=>rw[q] at e1;cases e1
   | some p =>
    rw[q] at e1 e2
    have e1:p.2=y:=Option.some.inj e1
    have e2:(σ[p.1]?).join=some v:=Option.some.inj e2
    subst e1
    obtain⟨g1,g2,g3,c,g4⟩:=hfr p (Z9 q)
    have e4:σ[p.1]?=some (some v):=by
     cases z:σ[p.1]? with
     | none=>rw[z] at e2;cases e2
     | some w'=>rw[z] at e2;exact congrArg some e2
    obtain⟨m,hn,hl⟩:=I3.loc
    obtain⟨u,ru,lk⟩:=hl p.1 p.2 v g1 e4 (.inr (.inl g2))
    refine⟨u,ru,.inr ⟨.inl g3,c,g4,?_⟩⟩
    rcases lk with ⟨k1,_⟩ | ⟨_,c',k2,k3⟩
    ·rw[g2] at k1;cases k1
    ·rw[hsub _ _ g4] at k2
     cases k2
     obtain⟨oc,ho,hd⟩:=k3
     exact⟨oc,keep4 _ _ ho,hd⟩
 have st4:tk 0 h4:=T.keep 0 _ _ st2 λb hb o e=>keep4 b o (old3 b o e)
 have loop:codeAny `DW X.A (.compLoop (.ListComp elt [⟨tg,iter,ifs,0⟩] scope pos) 0 (.ref it) (.ref s2.heap.objs.size) (compEnvC scope cl s3.heap.objs.size X.env))
   (compPost `DW X.A X.xe use P (.ref s2.heap.objs.size) s3.heap.objs.size) { s3 with heap:=h4 }:=by
  refine codeAny_loop rfl (λn s'=>∃i σ' xs H',Inv (aP X scope cl fr tn s3.heap.objs.size s3 (upd H2 s2.heap.objs.size (.lst [])) fp) [] σ' H' s'/\tk i s'.heap/\(∀b∈fp,H' b=none)/\W i n σ' xs H') (λn s' hI=>?_) m0
   ⟨0,_,[],_,I4,st4,λb hb=>(f3 b hb).1,w0⟩
  show wpAny _ _ ((compTurn (.ListComp elt [⟨tg,iter,ifs,0⟩] scope pos) 0 (.ref it) (.ref s2.heap.objs.size) (compEnvC scope cl s3.heap.objs.size X.env)).onRaise (λx=>do noteFrame x _;theTreesLotGoes x)) _ _ s'
  refine wpAny_noted ?_
  rw[compTurn_list]
  obtain⟨i,σ5,xs,H5,I5,st5,fr5,w5⟩:=hI
  have stat:∀{H':Hp},(∀b∈fp,H' b=none)->∀b∈fp,md (aP X scope cl fr tn s3.heap.objs.size s3 (upd H2 s2.heap.objs.size (.lst [])) fp) [] H' b:=λhn b hb =>
   ⟨hn b hb,(ok3.exf b hb).1,ok3.exfs b hb,.inl hb,(ok3.exf b hb).2,λp hp=>nomatch hp⟩
  obtain⟨hl,alt⟩:=turn i n σ5 xs H5 w5
  rcases alt with ⟨stop,qn⟩ | ⟨go,hz,step⟩
  ·refine wpAny_bind (wpAny_standAt (wpAny_bind (thn (T.done (aP X scope cl fr tn s3.heap.objs.size s3 (upd H2 s2.heap.objs.size (.lst [])) fp) rfl rfl rfl hc i [] s' σ5 H5 _ I5 (stat fr5) st5 stop) λr s6 ⟨hr,I6⟩=>?_)))
   subst hr
   refine wpAny_pure ?_
   exact fin I3 f3 I6 qn
  ·refine wpAny_bind (wpAny_standAt (wpAny_bind (thn (T.item (aP X scope cl fr tn s3.heap.objs.size s3 (upd H2 s2.heap.objs.size (.lst [])) fp) rfl rfl rfl hc i [] s' σ5 H5 _ I5 (stat fr5) st5 go) λr s6 ⟨u,hr,h6⟩=>?_)))
   subst hr
   refine wpAny_bind (thn h6 λ_ s7 ⟨y,H7,I7,r7,y7,st7,fr7⟩=>?_)
   have I7':=I7.pinned (stat fr7) (T.obj _ _ st7)
   have hP:=hg s3.heap.objs.size s3 (upd H2 s2.heap.objs.size (.lst [])) fp _ s7 σ5 H7 y u _ I7' r7 (step y H7 y7)
   refine wpAny_bind (wpAny_mono hP (λ_ s8 ⟨σ8,H8,I8,q8⟩=>?_) (λ_ _ z=>False.elim z))
   refine wpAny_bind (wpAny_mono (hcs s3.heap.objs.size s3 (upd H2 s2.heap.objs.size (.lst [])) fp _ s8 σ8 H8 _ I8 q8) (λb s9 ⟨H9,I9,q9⟩=>?_) (λ_ _ z=>False.elim z))
   have again:∀{σ7:St} {H7:Hp} {s7':Shared} {xs':List V},Inv (aP X scope cl fr tn s3.heap.objs.size s3 (upd H2 s2.heap.objs.size (.lst [])) fp) ([]++oz fp s7.heap) σ7 H7 s7'->(∃m',m'<n/\W (i+1) m' σ7 xs' H7) ->
     ∃m,m<n/\∃i σ' xs H',Inv (aP X scope cl fr tn s3.heap.objs.size s3 (upd H2 s2.heap.objs.size (.lst [])) fp) [] σ' H' s7'/\tk i s7'.heap/\(∀b∈fp,H' b=none)/\W i m σ' xs H':=λ{σ7 H7 s7' xs'} I7 n7=>by
    obtain⟨m',hm,w7⟩:=n7
    refine⟨m',hm,i+1,σ7,xs',H7,I7.unpinned,T.keep _ _ _ st7 λb hb o e=>(I7.pin (b,o) (Y3 _ (Y3 _ (iV hb e)))).1,λb hb=>?_,w7⟩
    obtain⟨o,e,d⟩:=T.obj _ _ st7 b hb
    exact(I7.pin (b,o) (Y3 _ (Y3 _ (iV hb e)))).2.1
   cases b with
   | false =>
    rw[if_neg Z8] at q9
    exact wpAny_pure ⟨rfl,again I9 q9⟩
   | true =>
    rw[if_pos rfl] at q9
    refine wpAny_bind (wpAny_bind (wpAny_mono (he _ _ _ _ _ s9 σ8 H9 _ I9 q9) (λuv s10 ⟨v,H10,I10,r10,hl10,w10⟩=>?_) λ_ _ z=>z.elim))
    refine wpAny_bind (wpAny_mono (ms (X:=aP X scope cl fr tn s3.heap.objs.size s3 (upd H2 s2.heap.objs.size (.lst [])) fp) _ s10 _ H10 (.ref s2.heap.objs.size) [v] (.ref s2.heap.objs.size) [uv] (λ_ H'=>H'=upd H10 s2.heap.objs.size (.lst (xs++[v]))) I10 rfl (.cons r10 .nil) ⟨_,xs,v,rfl,rfl,hl10,hz,rfl⟩) (λ_ s11 ⟨v11,H11,I11,r11,q11⟩=>?_) (λ_ _ z=>False.elim z))
    subst q11
    exact wpAny_pure (wpAny_pure ⟨rfl,again I11 w10⟩)
 subst hs3
 exact codeAny_compStart_list loop (T.self _ 0 _ _ _ st4 loop)
theorem oA(hc:X.calm=true)
  (hkind:scope.kind=.function) (hcell:∀y∈scope.names,y.2≠.cell) (hclos:closureFor scope X.env=pure cl) (hsub:∀y c,cl.lookup y=some c->X.env.cells.lookup y=some c)
  (hhas:∀y∈(relabel scope X.env).names,(y.2=.cell\/y.2=.free)->∃c,cl.lookup y.1=some c) (hfr:∀p∈fr,X.N[p.1]?=some p.2/\X.env.kindOf p.2=some .cell/\(compEnvC scope cl 0 X.env).kindOf p.2=some .cell/\∃c,cl.lookup p.2=some c) (hnames:∀y∈scope.names,y.2=.local->scope.names.lookup y.1=some .local)
  (hi:PI X tg iter wi) (hg:∀C s3 H3 fp,PG (aP X scope cl fr tn C s3 H3 fp) tg g) (hcs:∀C s3 H3 fp,PTs (aP X scope cl fr tn C s3 H3 fp) ifs tc) (he:∀C s3 H3 fp,PE (aP X scope cl fr tn C s3 H3 fp) elt te) (hs:∀x,foldedSetIterable iter X.env x=pure x:=by intro _;rfl) :
  PE X (.ListComp elt [⟨tg,iter,ifs,0⟩] scope pos) (kJ tn.length fr wi g tc te):=by
 intro pins s σ H Q I h
 refine qy hc hkind hcell hclos hsub hhas hfr hnames hi hg hcs he hs I h λI3 f3 I6 qn=>?_
 obtain⟨m,hn6,_⟩:=I6.loc
 exact⟨m,hn6,λh' hs'=>⟨.ref _,_,qz I3 f3 (ξ _) I6 hs',rfl,qn⟩⟩
end
end L2
namespace DL
open PyProof.Rows L2
structure Yl(K:ε)(J:It)(O:List Addr)(H1:Hp)(ds:List D):Prop where
 step:∀(O2:List Addr) (H2:Hp),To O O2 H1 H2->∀(i:Nat) (d:D),ds[i]?=some d->J.go i H2/\∀x H3,J.yld i H2 x H3->aE H2 H3/\Rep K O2 H3 x d
 stop:∀(O2:List Addr) (H2:Hp),To O O2 H1 H2->J.stop ds.length H2
def PDI(X:Cx)(G:XD->Hp->Prop)(tg iter:Expr)(fi:DS->M (List D)):Prop :=
 ∃wi,PI X tg iter wi/\∀{Hr:Hp} (δ:DS) (O:List Addr) (σ:St) (H:Hp) (R:It->Hp->Prop),Ev X.K Hr O H σ δ->ok (GS G Hr) (fi δ) (λds=>∀J H1,aE H H1->Yl X.K J O H1 ds->R J H1)->wi σ H R
section
variable{K:ε}{O:List Addr}{H1:Hp}
theorem Bi{a:Addr}{xs:List V}{ds:List D}(hk:∀(O2:List Addr) (H2:Hp),To O O2 H1 H2->SqL K H2 a xs)(rs:Reps K O H1 xs ds):Yl K (Itl K a) O H1 ds:=by
 refine⟨λO2 H2 t i d hd=>?_,λO2 H2 t=>⟨xs,hk O2 H2 t,by rw[rs.length];exact ξ _⟩⟩
 obtain⟨v,hv,r⟩:=rs.get hd
 refine⟨⟨xs,v,hk O2 H2 t,hv⟩,λx H3 y=>?_⟩
 obtain⟨rfl,y⟩:=y
 have:=y xs (hk O2 H3 t)
 rw[hv] at this
 cases this
 exact⟨aE.refl _,r.to t⟩
theorem yl_tup{a:Addr}{xs:List V}{ds:List D}(hq:SqT K H1 a xs)(rs:Reps K O H1 xs ds):Yl K (Itt K a) O H1 ds:=by
 refine⟨λO2 H2 t i d hd=>?_,λO2 H2 t=>⟨xs,t.sqT hq,by rw[rs.length];omega⟩⟩
 obtain⟨v,hv,r⟩:=rs.get hd
 refine⟨⟨xs,v,t.sqT hq,hv⟩,λx H3 y=>?_⟩
 obtain⟨rfl,y⟩:=y
 have:=y xs (t.sqT hq)
 rw[hv] at this
 cases this
 exact⟨aE.refl _,r.to t⟩
theorem nM{lo:Int}{n:Nat}:Yl K (Itr lo n) O H1 (bF lo n):=by
 have hl:(bF lo n).length=n:=by unfold bF;simp
 refine⟨λO2 H2 t i d hd=>?_,λO2 H2 t=>by rw[hl];exact ξ _⟩
 have hi:i<n:=by
  grind
 refine⟨hi,λx H3 y=>?_⟩
 obtain⟨rfl,rfl⟩:=y
 unfold bF at hd
 rw[Γ,T4 hi] at hd
 cases hd
 exact⟨aE.refl _,.int _⟩
theorem Rep.lstTo{v:V}{ds:List D}(r:Rep K O H1 v (.list ds)):∃a xs,v=.ref a/\SqL K H1 a xs/\(∀(O2:List Addr) (H2:Hp),To O O2 H1 H2->SqL K H2 a xs)/\Reps K O H1 xs ds:=by
 cases r with
 | lst h n rs=>exact⟨_,_,rfl,.inl h,λO2 H2 t=>.inl (t.l _ _ n h).2,rs⟩
 | lstK h rs=>exact⟨_,_,rfl,.inr h,λ_ _ _=>.inr h,rs⟩
noncomputable def bH(n:Nat):List D->List D
 | []=>[]
 | x::xs=>.tuple [.int (n:Int),x]::bH (n+1) xs
theorem j9(n:Nat)(xs:List D):(bH n xs).length=xs.length:=by
 induction xs generalizing n with
 | nil=>rfl
 | cons x xs ih=>show(bH (n+1) xs).length+1=_;simp_all
theorem iD{xs:List D}{n i:Nat}{d:D}(h:(bH n xs)[i]?=some d):∃x,xs[i]?=some x/\d=.tuple [.int ((n+i:Nat):Int),x]:=by
 induction xs generalizing n i with
 | nil=>cases h
 | cons x xs ih =>
  cases i with
  | zero=>cases h;exact⟨x,rfl,rfl⟩
  | succ i =>
   obtain⟨y,hy,e⟩:=ih (n:=n+1) (i:=i) h
   have:n+1+i=n+(i+1):=by omega
   rw[this] at e
   exact⟨y,hy,e⟩
theorem Bj{a:Addr}{xs:List V}{ds:List D}(hk:∀(O2:List Addr) (H2:Hp),To O O2 H1 H2->SqL K H2 a xs)(rs:Reps K O H1 xs ds):Yl K (Ite K a) O H1 (bH 0 ds):=by
 refine⟨λO2 H2 t i d hd=>?_,λO2 H2 t=>⟨xs,hk O2 H2 t,?_⟩⟩
 ·obtain⟨x,hx,rfl⟩:=iD hd
  obtain⟨v,hv,r⟩:=rs.get hx
  refine⟨⟨xs,v,hk O2 H2 t,hv⟩,λz H3 q=>?_⟩
  obtain⟨T,rfl,hT,q⟩:=q
  have e:=q xs v (hk O2 H2 t) hv
  subst e
  rw[W1]
  exact⟨aK hT,im hT (.cons (.int _) (.cons (r.to t) .nil))⟩
 ·rw[j9,rs.length]
  omega
noncomputable def mj(z:Str):List D:=z.cps.toList.map λc=>.str ⟨#[c]⟩
theorem yl_str{z:Str}:Yl K (Its z) O H1 (mj z):=by
 have hl:(mj z).length=z.length:=by unfold mj;rw[ς,Array.length_toList];rfl
 refine⟨λO2 H2 t i d hd=>?_,λO2 H2 t=>by rw[hl];exact ξ _⟩
 have hi:i<z.length:=by
  grind
 refine⟨hi,λx H3 y=>?_⟩
 obtain⟨rfl,c,hc,rfl⟩:=y
 unfold mj at hd
 rw[Γ,Array.getElem?_toList,hc] at hd
 cases hd
 exact⟨aE.refl _,.str _⟩
end
section
variable{X:Cx}{G:XD->Hp->Prop}{tg iter a b:Expr}{f:DS->M D}{fa:DS->M (List D)}{pos p:Pos}{elts:List Expr}{x1:Nat}{tpos:Pos}
noncomputable def A9(f:DS->M D):DS->M (List D):=λδ=>(f δ).thn λd=>M.lift (seqD d)
theorem Cw(h:PD X G iter f):PDI X G tg iter (A9 f):=by
 obtain⟨t,q,h⟩:=h
 refine⟨_,pi_seq q,λδ O σ H R E k=>?_⟩
 refine h δ O σ H _ E (ah (ao k) λd z v H1 s1 r=>?_)
 obtain⟨ds,hd,z⟩:=b5 z
 cases d with
 | list es =>
  obtain⟨a,xs,rfl,hq,hk,rs⟩:=r.lstTo
  exact⟨a,rfl,.inl ⟨⟨xs,hq⟩,z _ H1 s1 (Bi hk rs)⟩⟩
 | tuple es =>
  obtain⟨a,xs,rfl,hq,rs⟩:=r.tup_inv
  exact⟨a,rfl,.inr ⟨⟨xs,hq⟩,z _ H1 s1 (yl_tup hq rs)⟩⟩
 | _=>cases hd
noncomputable def jo(rng:List D->Option (List D))(fa:DS->M (List D)):DS->M (List D):=λδ=>(fa δ).thn λds=>M.lift (rng ds)
theorem zq(hgl:Gl X "range")(hm:X.mg "range" = none)(ha:PDA X G [a] fa)(hs1:starEach [a] X.env=[(false,eval a X.env)]:=by rfl):PDI X G tg (.Call (.Name "range" p) [a] [] pos) (jo fJ fa):=by
 obtain⟨_,ta,pa,ha⟩:=ha
 refine⟨_,pZ hgl hm pa hs1,λδ O σ H R E k=>?_⟩
 refine ha δ O σ H _ E (ah (ao k) λds z vs H1 s1 rs=>?_)
 obtain⟨xs,hd,z⟩:=b5 z
 unfold fJ at hd
 split at hd
 ·rename_i j
  by_cases hz:b62 j=true
  ·rw[if_pos hz] at hd
   cases hd
   obtain⟨v,rfl,r⟩:=fE rs
   obtain⟨z1,z2⟩:=r9 hz
   exact⟨j,by rw[r.int_inv],z1,z2,z _ H1 s1 nM⟩
  simp_all
 simp_all
theorem zo(hgl:Gl X "range")(hm:X.mg "range" = none)(ha:PDA X G [a,b] fa)(hs1:starEach [a,b] X.env=[(false,eval a X.env),(false,eval b X.env)]:=by rfl)(hs2:starEach [b] X.env=[(false,eval b X.env)]:=by rfl) :
  PDI X G tg (.Call (.Name "range" p) [a,b] [] pos) (jo w6 fa):=by
 obtain⟨_,ta,pa,ha⟩:=ha
 refine⟨_,xa hgl hm pa hs1 hs2,λδ O σ H R E k=>?_⟩
 refine ha δ O σ H _ E (ah (ao k) λds z vs H1 s1 rs=>?_)
 obtain⟨xs,hd,z⟩:=b5 z
 unfold w6 at hd
 split at hd
 ·rename_i i j
  by_cases hz:(b62 i&&b62 j)=true
  ·rw[if_pos hz] at hd
   cases hd
   obtain⟨v,v',rfl,r,r'⟩:=yM rs
   obtain⟨hz1,hz2⟩:=Bool.and_eq_true_iff.mp hz
   obtain⟨z1,z2⟩:=r9 hz1
   obtain⟨z3,z4⟩:=r9 hz2
   exact⟨i,j,by rw[r.int_inv,r'.int_inv],⟨z1,z2,z3,z4⟩,z _ H1 s1 nM⟩
  simp_all
 simp_all
noncomputable def jm(fa:DS->M (List D)):DS->M (List D):=λδ=>(fa δ).thn λds=>match ds with
 | [.list xs]=>M.ret (bH 0 xs)
 | _=>none
theorem zt(hgl:Gl X "enumerate")(hm:X.mg "enumerate" = none)(ha:PDA X G [a] fa)(hs1:starEach [a] X.env=[(false,eval a X.env)]:=by rfl) :
  PDI X G (.Tuple elts x1 tpos) (.Call (.Name "enumerate" p) [a] [] pos) (jm fa):=by
 obtain⟨_,ta,pa,ha⟩:=ha
 refine⟨_,vK hgl hm pa hs1,λδ O σ H R E k=>?_⟩
 refine ha δ O σ H _ E (ah (ao k) λds z vs H1 s1 rs=>?_)
 match ds,z with
 | [.list xs],z =>
  obtain⟨v,rfl,r⟩:=fE rs
  obtain⟨a1,us,rfl,hq,hk,r1⟩:=r.lstTo
  exact⟨a1,rfl,⟨us,hq⟩,z _ H1 s1 (Bj hk r1)⟩
noncomputable def u8(f:DS->M D):DS->M (List D):=λδ=>(f δ).thn λd=>match d with
 | .str z=>M.ret (mj z)
 | _=>none
theorem Cv(h:PD X G iter f):PDI X G tg iter (u8 f):=by
 obtain⟨t,q,h⟩:=h
 refine⟨_,pi_str q,λδ O σ H R E k=>?_⟩
 refine h δ O σ H _ E (ah (ao k) λd z v H1 s1 r=>?_)
 cases d with
 | str w=>exact⟨w,r.str_inv,z _ H1 s1 yl_str⟩
 | _=>exact z.elim
noncomputable def fN(fi:DS->M (List D))(t:D->DS->Option DS)(g:DS->M Out):DS->M Out:=λδ=>(fi δ).thn λds=>iB (cr t g) ds δ
theorem CH(hp:PassesOwn `DW X.A X.env X.xe)(hc:X.calm=true)(hi:PDI X G tg iter fi)(hg:PDG X tg t)(hb:jf X G body gs)
  (hs:∀x,foldedSetIterable iter X.env x=pure x:=by intro _;rfl):PDS X G (.For tg iter body [] pos) (fN fi t gs):=by
 obtain⟨wi,pi,hi⟩:=hi
 obtain⟨tgt,pt,hg⟩:=hg
 obtain⟨tb,pb,hb⟩:=hb
 refine⟨_,oy hp hc pi pt pb hs,@λHr R0 P0 H0 δ O σ H Dn E k=>?_⟩
 refine hi δ O σ H _ E.ev (ah (ao k) λds z J H1 s1 Y=>?_)
 have E1:=E.same s1
 have z1:= ah z λo q=>Fin.outer E1 q
 refine⟨λi m σ2 H2=>m=ds.length-i/\i<=ds.length/\∃δ2 O2,EI X.K Hr R0 (Ch O R0) H1 O2 H2 σ2 δ2/\ok (GS G Hr) (iB (cr t gs) (ds.drop i) δ2) (Fin X.K Hr R0 (Ch O R0) H1 Dn),⟨_,rfl,Y5 _,δ,O,E1.inner,z1⟩,?_⟩
 rintro i m σ2 H2 ⟨rfl,hi,δ2,O2,E2,k2⟩
 have T:=E1.to E2
 by_cases hlt:i<ds.length
 ·right
  have hd:= Δ hlt
  obtain⟨go,yl⟩:=Y.step O2 H2 T i _ hd
  refine⟨go,λσ' H'=>∃δ2 O2,EI X.K Hr R0 (Ch O R0) H1 O2 H' σ' δ2/\ok (GS G Hr) (iB (cr t gs) (ds.drop (i+1)) δ2) (Fin X.K Hr R0 (Ch O R0) H1 Dn),λσ' H' h=>⟨_,by omega,rfl,hlt,h⟩,λx H3 y=>?_⟩
  obtain⟨s3,rx⟩:=yl x H3 y
  rw[jS hd] at k2
  have k3:=ao (show ok (GS G Hr) ((cr t gs ds[i] δ2).thn _) _ from k2)
  obtain⟨δ3,h3,k4⟩:=b5 (ao (show ok (GS G Hr) ((M.lift (t ds[i] δ2)).thn gs) _ from k3))
  refine hg R0 (Ch O R0) H1 δ2 δ3 ds[i] x O2 σ2 H3 _ (E2.same s3) rx h3 λσ4 H4 E4 _=>?_
  refine hb R0 (Ch O R0) H1 δ3 O2 σ4 H4 _ E4 (ah k4 λo z=>?_)
  cases o with
  | nx δ5=>exact λO5 σ5 H5 E5=>⟨δ5,O5,E5,z⟩
  | ct δ5=>exact λO5 σ5 H5 E5=>⟨δ5,O5,E5,z⟩
  | bk δ5=>assumption
  | rt d=>exact z
 ·left
  have e:i=ds.length:=by omega
  subst e
  rw[V2] at k2
  exact⟨Y.stop O2 H2 T,k2 O2 σ2 H2 E2⟩
noncomputable def cz(t:D->DS->Option DS)(c:DS->M Bool)(f:DS->M D):List D->DS->M (List D)
 | [],_=>M.ret []
 | d::ds,δ=>(M.lift (t d δ)).thn λδ'=>(c δ').thn λb=>if b=true then (f δ').thn λy=>(cz t c f ds δ').thn λys=>M.ret (y::ys) else cz t c f ds δ'
noncomputable def eU:DS->M Bool:=λ_=>M.ret true
noncomputable def nX{α:Type}(f:DS->M α):DS->M α:=λδ=>noX (f δ)
noncomputable def cq(n:Nat)(js:List Nat)(t:D->DS->Option DS)(fi:DS->M (List D))(c:DS->M Bool)(f:DS->M D):DS->M D:=λδ=>(fi δ).thn λds=>if aJ ds.length then (cz t (nX c) (nX f) ds (χ n .un++js.map (jt δ))).thn λys=>M.ret (.list ys) else none
def pJ(X:Cx)(ifs:List Expr)(f:DS->M Bool):Prop :=
 ∃t,PTs X ifs t/\∀{Hr:Hp} (δ:DS) (O:List Addr) (σ:St) (H:Hp) (Q:Bool->Hp->Prop),Ev X.K Hr O H σ δ->ok (λ_=>False) (f δ) (λb=>∀H',aE H H'->Q b H')->t σ H Q
theorem cN:pJ X [] eU:=⟨_,B0,λδ O σ H Q E k=>k H (aE.refl H)⟩
theorem zJ{α:Type}{Hr:Hp}{r:M α}{k:α->Prop}(h:ok (λ_=>False) r k):ok (GS (λ_ _=>False) Hr) r k:=ll h
theorem zg(h:PDT X (λ_ _=>False) c fb):pJ X [c] fb:=by
 obtain⟨t,q,h⟩:=h
 exact⟨_,BZ q,λδ O σ H Q E k=>h δ O σ H Q E (zJ k)⟩
end
end DL
namespace DL
open PyProof.Rows L2
noncomputable def gD(K:ε)(t:D->DS->Option DS):TG:=λv σ H Q=>∃Hr R0 P0 H0 δ δ' d O,EI K Hr R0 P0 H0 O H σ δ/\Rep K O H v d/\t d δ=some δ'/\∀σ' H',EI K Hr R0 P0 H0 O H' σ' δ'->aE H H'->Q σ' H'
theorem PDG.can(h:PDG X e t):PG X e (gD X.K t):=by
 obtain⟨g,p,h⟩:=h
 intro pins s σ H v u Q I r hw
 obtain⟨Hr,R0,P0,H0,δ,δ',d,O,E,rd,ht,k⟩:=hw
 exact p pins s σ H v u Q I r (h R0 P0 H0 δ δ' d v O σ H Q E rd ht k)
noncomputable def cD(K:ε)(f:DS->M Bool):TT:=λσ H Q=>∃Hr δ O,Ev K Hr O H σ δ/\ok (λ_=>False) (f δ) (λb=>∀H',aE H H'->Q b H')
theorem pJ.can(h:pJ X ifs f):PTs X ifs (cD X.K f):=by
 obtain⟨t,p,h⟩:=h
 intro pins s σ H Q I hw
 obtain⟨Hr,δ,O,E,k⟩:=hw
 exact p pins s σ H Q I (h δ O σ H Q E k)
section
variable{K:ε}{O:List Addr}{H1 H H':Hp}{l:Addr}{τ:St}{δ:DS}
abbrev EC(K:ε)(O:List Addr)(H1:Hp)(l:Addr)(H:Hp)(τ:St)(δ:DS):Prop:=EI K (λ_=>none) (l::O) (λb=>b=l) H1 (l::O) H τ δ
theorem EC.put{xs ys:List V}(E:EC K O H1 l H τ δ)(hl:H l=some (.lst xs)):EC K O H1 l (upd H l (.lst ys)) τ δ:=by
 have ts:To (l::O) (l::O) H (upd H l (.lst ys)):=To.set hl υ
 refine⟨⟨(λ_ _ z=>nomatch z),λa ha=>?_,E.ev.len,λi s hs=>?_,E.ev.dis⟩,E.omr,λb o n h=>?_,E.om,E.nr1,E.sub⟩
 ·by_cases e:a=l
  ·subst e;exact .lst aA
  ·exact(E.ev.oo a ha).upd_ne e
 ·have q:=E.ev.at_ i s hs
  cases s with
  | un=>trivial
  | ex a=>exact q
  | vl d =>
   obtain⟨v,h1,r⟩:=q
   exact⟨v,h1,r.to ts⟩
  | ow ds =>
   obtain⟨a,us,h1,h2,h3,r⟩:=q
   exact absurd h2 (E.nr i ds a hs h1)
  | od es =>
   obtain⟨a,us,h1,h2,h3,r⟩:=q
   exact absurd h2 (E.nr1 i _ a hs trivial h1)
 ·rw[upd_ne n]
  exact E.keep b o n h
theorem vA{Hr:Hp}{σ:St}{δ:DS}{fr:List (Nat×Str)}(E:Ev K Hr O H σ δ)(n:Nat)(hl:H l=none):EC K O H l (upd H l (.lst [])) (kY n fr σ) (χ n .un++(fr.map (·.1)).map (jt δ)):=by
 have get:∀(i:Nat) (s:Sl),(χ n Sl.un++(fr.map (·.1)).map (jt δ))[i]?=some s->s=.un\/∃d v,s=.vl d/\(kY n fr σ)[i]?=some (some v)/\Rep K O H v d:=λi s h=>by
  by_cases hi:i<n
  ·rw[ι (by simpa using hi),V3] at h
   split at h<;>cases h<;>exact .inl rfl
  ·rw[ο (by simpa using hi),U0,Γ,Γ] at h
   cases q:fr[i-n]? with
   | none=>rw[q] at h;cases h
   | some p =>
    rw[q] at h
    have h:jt δ p.1=s:=Option.some.inj h
    unfold jt at h
    split at h
    ·rename_i d hd
     subst h
     obtain⟨v,hv,r⟩:=E.val hd
     refine .inr ⟨d,v,rfl,?_,r⟩
     unfold kY
     rw[ο (by simpa using hi),U0,Γ,q]
     show some (σ[p.1]?).join=_
     rw[hv]
     rfl
    ·exact .inl h.symm
 have to:To O (l::O) H (upd H l (.lst [])):=To.own hl
 refine⟨⟨(λ_ _ z=>nomatch z),λa ha=>?_,by simp [kY],λi s hs=>?_,λi j a ds es hij h1=>?_⟩,λa ha=>.inl ha,λb o nb h=>by rw[upd_ne nb];exact h,λa ha=>.inl ha,λi ds a h1 ho=>?_,λa ha=>ha⟩
 ·rcases ψ.mp ha with rfl | ha
  ·exact .lst aA
  ·exact(E.oo a ha).new hl
 ·rcases get i s hs with rfl | ⟨d,v,rfl,hv,r⟩
  ·trivial
  ·exact⟨v,hv,r.to to⟩
 ·rcases get i _ h1 with z | ⟨_,_,z,_⟩<;>cases z
 ·rcases get i _ h1 with z | ⟨_,_,z,_⟩<;>(cases z;exact ho.elim)
end
section
variable{X:Cx}{G:XD->Hp->Prop}{fi:DS->M (List D)}{c:DS->M Bool}{f:DS->M D}{t:D->DS->Option DS}
theorem ok_nX{α:Type}{g:XD->Prop}{f:DS->M α}{δ:DS}{k:α->Prop}(h:ok g (nX f δ) k):ok (λ_=>False) (f δ) k:=kM h
def NewL(K:ε)(O:List Addr)(H:Hp)(k:V->Hp->Prop)(d:D):Prop:=∀ds,d=.list ds->∀l xs H',aE H H'->H l=none->H' l=some (.lst xs)->Reps K (l::O) H' xs ds->k (.ref l) H'
theorem mU{fr:List (Nat×Str)}{tn:List Str}{wi:TI}(hi:∀{Hr:Hp} (δ:DS) (O:List Addr) (σ:St) (H:Hp) (R:It->Hp->Prop),Ev X.K Hr O H σ δ->ok (GS G Hr) (fi δ) (λds=>∀J H1,aE H H1->Yl X.K J O H1 ds->R J H1)->wi σ H R)
  {Hr:Hp} (δ:DS) (O:List Addr) (σ:St) (H:Hp) (Q:VK) (E:Ev X.K Hr O H σ δ) (k:ok (GS G Hr) (cq tn.length (fr.map (·.1)) t fi c f δ) (NewL X.K O H Q)) :
  kJ tn.length fr wi (gD X.K t) (cD X.K c) (tD X.K (λ_ _=>False) f) σ H Q:=by
 refine hi δ O σ H _ E (ah (ao k) λds z J H1 s1 Y=>?_)
 by_cases hsz:aJ ds.length=true
 case neg =>
  rw[if_neg hsz] at z
  exact z.elim
 rw[if_pos hsz] at z
 intro l hl
 have E1:=E.same s1
 have hl0:H l=none:=by
  cases q:H l with
  | none=>rfl
  | some o=>rw[s1 l o q] at hl;cases hl
 have kk:=ah (ao z) λys (q:NewL X.K O H Q (.list ys))=>(show ∀xs H2,Kp l H1 H2->H2 l=some (.lst xs)->Reps X.K (l::O) H2 xs ys->Q (.ref l) H2 from
  λxs H2 kp h2 rx=>q ys rfl l xs H2 (s1.trans (kp.same hl)) hl0 h2 rx)
 refine⟨λi m τ xs H2=>m=ds.length-i/\i<=ds.length/\xs.length<=i/\H2 l=some (.lst xs)/\∃δc ys,EC X.K O H1 l H2 τ δc/\Reps X.K (l::O) H2 xs ys /\
  ok (GS G Hr) (cz t (nX c) (nX f) (ds.drop i) δc) (λaB=>∀xs H3,Kp l H1 H3->H3 l=some (.lst xs)->Reps X.K (l::O) H3 xs (ys++aB)->Q (.ref l) H3),
  ⟨_,rfl,Y5 _,ξ _,aA,_,[],vA E1 tn.length hl,.nil,kk⟩,?_⟩
 rintro i m τ xs H2 ⟨rfl,hi,hx,h2,δc,ys,Ec,ry,kc⟩
 have kp:Kp l H1 H2:=λb o hb e=>Ec.keep b o hb e
 refine⟨h2,?_⟩
 have T:To O (l::O) H1 H2:=kp.to hl
 by_cases hlt:i<ds.length
 ·right
  have hd:= Δ hlt
  obtain⟨go,yl⟩:=Y.step (l::O) H2 T i _ hd
  refine⟨go,Nat.lt_of_le_of_lt hx (Ω hlt (bt hsz)),λx H3 y=>?_⟩
  obtain⟨s3,rx⟩:=yl x H3 y
  rw[jS hd] at kc
  obtain⟨δ',ht,kc⟩:=b5 (ao (show ok (GS G Hr) ((M.lift (t ds[i] δc)).thn _) _ from kc))
  refine⟨_,_,_,_,δc,δ',ds[i],l::O,Ec.same s3,rx,ht,λτ' H4 E4 s4=>?_⟩
  refine⟨_,δ',l::O,E4.ev,ah (ok_nX (ao kc)) λb zb H5 s5=>?_⟩
  have E5:=E4.same s5
  have s25:=(s3.trans s4).trans s5
  dsimp only
  cases b with
  | false =>
   exact⟨_,by omega,rfl,hlt,by omega,s25 _ _ h2,δ',ys,E5,ry.same s25,zb⟩
  | true =>
   refine⟨_,δ',l::O,E5.ev,zJ (ah (ok_nX (ao zb)) λy kz v H6 s6 rv=>?_)⟩
   have h6:= s6 _ _ (s25 _ _ h2)
   have ts:To (l::O) (l::O) H6 (upd H6 l (.lst (xs++[v]))):=To.set h6 υ
   refine⟨h6,ds.length-(i+1),by omega,rfl,hlt,by simp_all,aA,δ',ys++[y],EC.put (E5.same s6) h6,(((ry.same s25).same s6).to ts).append (.cons (rv.to ts) .nil),?_⟩
   exact ah (ao kz) λaB q xs7 H7 kp7 h7 r7=>q xs7 H7 kp7 h7 (by simp_all)
 ·left
  have e:i=ds.length:=by omega
  subst e
  rw[V2] at kc
  refine⟨Y.stop (l::O) H2 T,kc xs H2 kp h2 ?_⟩
  simp_all
theorem va{fr:List (Nat×Str)}{tn:List Str}{wi:TI}(hi:∀{Hr:Hp} (δ:DS) (O:List Addr) (σ:St) (H:Hp) (R:It->Hp->Prop),Ev X.K Hr O H σ δ->ok (GS G Hr) (fi δ) (λds=>∀J H1,aE H H1->Yl X.K J O H1 ds->R J H1)->wi σ H R)
  {Hr:Hp} (δ:DS) (O:List Addr) (σ:St) (H:Hp) (Q:VK) (E:Ev X.K Hr O H σ δ) (k:ok (GS G Hr) (cq tn.length (fr.map (·.1)) t fi c f δ) (λd=>∀v H',aE H H'->Rep X.K O H' v d->Q v H')) :
  kJ tn.length fr wi (gD X.K t) (cD X.K c) (tD X.K (λ_ _=>False) f) σ H Q :=
 mU hi δ O σ H Q E (ah k λd q ds e l xs H' s hl hx rx=>q _ _ s (e▸.lst (.inl hx) (nin E.oo hl) (rx.to (.less λb hb=>θ _ hb))))
theorem gn{cl:List (Str×Addr)}{fr:List (Nat×Str)}{tn:List Str}{elt iter tg:Expr}{ifs:List Expr}{scope:Scope}{pos:Pos}(hc:X.calm=true)
  (hkind:scope.kind=.function) (hcell:∀y∈scope.names,y.2≠.cell) (hclos:closureFor scope X.env=pure cl) (hsub:∀y c,cl.lookup y=some c->X.env.cells.lookup y=some c)
  (hhas:∀y∈(relabel scope X.env).names,(y.2=.cell\/y.2=.free)->∃c,cl.lookup y.1=some c) (hfr:∀p∈fr,X.N[p.1]?=some p.2/\X.env.kindOf p.2=some .cell/\(compEnvC scope cl 0 X.env).kindOf p.2=some .cell/\∃c,cl.lookup p.2=some c) (hnames:∀y∈scope.names,y.2=.local->scope.names.lookup y.1=some .local)
  (hi:PDI X G tg iter fi) (hg:∀C s3 H3 fp,PDG (aP X scope cl fr tn C s3 H3 fp) tg t) (hcs:∀C s3 H3 fp,pJ (aP X scope cl fr tn C s3 H3 fp) ifs c) (he:∀C s3 H3 fp,PD (aP X scope cl fr tn C s3 H3 fp) (λ_ _=>False) elt f) (hs:∀x,foldedSetIterable iter X.env x=pure x:=by intro _;rfl) :
  PD X G (.ListComp elt [⟨tg,iter,ifs,0⟩] scope pos) (cq tn.length (fr.map (·.1)) t fi c f):=by
 obtain⟨wi,pi,hi⟩:=hi
 refine⟨_,oA hc hkind hcell hclos hsub hhas hfr hnames pi (λC s3 H3 fp=>(hg C s3 H3 fp).can) (λC s3 H3 fp=>(hcs C s3 H3 fp).can) (λC s3 H3 fp=>(he C s3 H3 fp).can) hs,λδ O σ H Q E k=>va hi δ O σ H Q E k⟩
end
section
theorem cR(h1:fi δ=M.ret ds)(hz:aJ ds.length=true)(h3:cz t (nX c) (nX f) ds (χ n .un++js.map (jt δ))=M.ret ys):cq n js t fi c f δ=M.ret (.list ys):=by
 unfold cq;rw[h1,ay,if_pos hz,h3];rfl
theorem dq(h1:t d δ=some δ')(h2:f δ'=M.ret y)(h3:cz t (nX eU) (nX f) ds δ'=M.ret ys):cz t (nX eU) (nX f) (d::ds) δ=M.ret (y::ys):=by
 show(M.lift (t d δ)).thn _=_
 rw[h1,mw,ay]
 show(M.ret true).thn _=_
 show(noX (f δ')).thn _=_
 rw[h2]
 rw[h3]
 rfl
theorem gN(h1:fa δ=M.ret xs)(h2:rng xs=some ds):jo rng fa δ=M.ret ds:=by unfold jo;rw[h1,ay,h2];rfl
theorem iC(h1:fa δ=M.ret [.list xs]):jm fa δ=M.ret (bH 0 xs):=by unfold jm;rw[h1];rfl
theorem e9(h1:fi δ=M.ret ds)(h3:iB (cr t gs) ds δ=r):fN fi t gs δ=r:=by unfold fN;rw[h1,ay];exact h3
end
end DL
namespace DL
open PyProof.Rows L2
section
theorem PI.or(h1:PI X tg iter w1)(h2:PI X tg iter w2):PI X tg iter (λσ H R=>w1 σ H R\/w2 σ H R):=by
 intro pins s σ H R I h
 rcases h with h | h
 ·exact h1 pins s σ H R I h
 ·exact h2 pins s σ H R I h
noncomputable def anyD:D->Option (List D)
 | .list ds=>some ds
 | .tuple ds=>some ds
 | .str z=>some (mj z)
 | _=>none
noncomputable def iF(f:DS->M D):DS->M (List D):=λδ=>(f δ).thn λd=>M.lift (anyD d)
theorem nB(h:PD X G iter f):PDI X G tg iter (iF f):=by
 obtain⟨w1,p1,h1⟩:=Cw h
 obtain⟨w2,p2,h2⟩:=Cv h
 refine⟨_,PI.or p1 p2,λδ O σ H R E k=>?_⟩
 have d1:∀d,f δ=some (.ok d)->(∀z,d≠.str z)->A9 f δ=iF f δ:=λd e n=>by
  unfold A9 iF
  rw[e]
  cases d with
  | str z=>simp_all
  | _=>rfl
 match e:f δ with
 | none=>unfold iF at k;rw[e] at k;exact k.elim
 | some (.error x) =>
  refine .inl (h1 δ O σ H R E ?_)
  have e1:iF f δ=A9 f δ:=by unfold iF A9;rw[e];rfl
  simp_all
 | some (.ok d) =>
  match d,e with
  | .str z,e =>
   refine .inr (h2 δ O σ H R E ?_)
   have e1:iF f δ=u8 f δ:=by unfold iF u8;rw[e];rfl
   simp_all
  | .none,e=>grind
  | .bool b,e=>grind
  | .int b,e=>grind
  | .list b,e=>grind
  | .tuple b,e=>grind
  | .dict b,e=>grind
theorem i8{δ:DS}{x:D}{ds:List D}(h1:f δ=M.ret x)(h2:anyD x=some ds):iF f δ=M.ret ds:=by unfold iF;rw[h1,ay,h2];rfl
end
end DL
namespace DL
open PyProof.Rows L2
section
variable{X:Cx}{G:XD->Hp->Prop}{a b c e:Expr}{es:List Expr}{f:DS->M D}{fa:DS->M (List D)}{pos pos':Pos}{sts:List Stmt}{gs:DS->M Out}
variable{K:ε}{Hr:Hp}{R0:List Addr}{P0:Addr->Prop}{H0 H H':Hp}{O:List Addr}{σ:St}{δ:DS}
theorem EI.newL{i:Nat}{l:Addr}{xs:List V}{ds:List D}(E:EI K Hr R0 P0 H0 O H σ δ)(hl:H l=none)(rx:Reps K O H xs ds):EI K Hr R0 P0 H0 (l::O) (upd H l (.lst xs)) (σ.set i (some (.ref l))) (δ.set i (.ow ds)):=by
 have nO:= nin E.ev.oo hl
 have tO:To O (l::O) H (upd H l (.lst xs)):=To.own hl
 refine⟨⟨λb o h=>by have q:=E.ev.root b o h;rw[upd_ne (aC q hl)];exact q,λa ha=>?_,by rw[Λ,Λ];exact E.ev.len,λj s h=>?_,λj k a ds es hjk h1 h2 h3 h4=>?_⟩,λa ha=>?_,λb o n h=>?_,λa ha=>?_,λj ds a h1 ho h2=>?_,λa ha=>θ _ (E.sub a ha)⟩
 ·rcases ψ.mp ha with rfl | ha
  ·exact .lst aA
  ·exact(E.ev.oo a ha).new hl
 ·rw[aW] at h ⊢
  by_cases hij:i=j
  ·rw[if_pos hij] at h ⊢
   by_cases hz:i<δ.length
   ·rw[if_pos hz] at h
    rw[if_pos (by rw[E.ev.len];exact hz)]
    cases h
    exact⟨l,xs,rfl,υ,aA,rx.to tO⟩
   simp_all
  ·rw[if_neg hij] at h ⊢
   exact(E.ev.at_ j s h).to tO (As hl) λa xs h1 h2 _ _=>⟨θ _ h1,by rw[upd_ne (aC h2 hl)];exact h2⟩
 ·rw[aW] at h1 h2 h3 h4
  by_cases hij:i=j
  ·rw[if_pos hij] at h1 h3
   have ha:a=l:=by
    simp_all
   have hik:¬i=k:=λz=>hjk (hij.symm.trans z)
   rw[if_neg hik] at h2 h4
   obtain⟨l',xs,q1,q2,q3,_⟩:=E.ev.at_ k _ h2
   simp_all
  ·rw[if_neg hij] at h1 h3
   by_cases hik:i=k
   ·rw[if_pos hik] at h4
    have ha:a=l:=by
     simp_all
    obtain⟨l',xs,q1,q2,q3,_⟩:=E.ev.at_ j _ h1
    simp_all
   ·rw[if_neg hik] at h2 h4
    exact E.ev.dis j k a ds es hjk h1 h2 h3 h4
 ·rcases ψ.mp ha with rfl | ha
  ·refine .inr ?_
   cases q:Hr a with
   | none=>rfl
   | some o =>
    rw[E.ev.root a o q] at hl
    cases hl
  ·exact E.omr a ha
 ·have q:=E.keep b o n h
  rw[upd_ne (aC q hl)]
  exact q
 ·rcases ψ.mp ha with rfl | ha
  ·by_cases hp:P0 a
   ·simp_all
   ·refine .inr (.inr ?_)
    cases q:H0 a with
    | none=>rfl
    | some o =>
     rw[E.keep a o hp q] at hl
     cases hl
  ·exact E.om a ha
 ·rw[aW] at h1 h2
  by_cases hij:i=j
  ·rw[if_pos hij] at h2
   have ha:a=l:=by
    simp_all
   rw[ha]
   exact λz=>nO (E.sub l z)
  ·rw[if_neg hij] at h1 h2
   exact E.nr1 j ds a h1 ho h2
def PDN(X:Cx)(G:XD->Hp->Prop)(e:Expr)(f:DS->M (List D)):Prop :=
 ∃t,PE X e t/\∀{Hr:Hp} (δ:DS) (O:List Addr) (σ:St) (H:Hp) (Q:VK),Ev X.K Hr O H σ δ->ok (GS G Hr) (f δ) (λds=>∀l xs H1,aE H H1->H1 l=none->Reps X.K O H1 xs ds->Q (.ref l) (upd H1 l (.lst xs)))->t σ H Q
noncomputable def cj(fa:DS->M (List D)):DS->M (List D):=λδ=>(fa δ).thn λds=>if aJ ds.length then M.ret ds else none
theorem vO(h:PDA X G es fa):PDN X G (.List es pos) (cj fa):=by
 obtain⟨_,t,p,h⟩:=h
 refine⟨_,uz p,λδ O σ H Q E k=>?_⟩
 refine h δ O σ H _ E (ah (ao k) λds z vs H1 s1 rs=>?_)
 by_cases hz:aJ ds.length=true
 ·rw[if_pos hz] at z
  exact⟨by rw[rs.length];exact bt hz,λp hp=>z p vs H1 s1 hp rs⟩
 ·rw[if_neg hz] at z
  exact z.elim
noncomputable def qc(fa:DS->M (List D)):DS->M (List D):=λδ=>(fa δ).thn λds=>match ds with
 | [.list xs]=>M.ret xs
 | [.tuple xs]=>M.ret xs
 | _=>none
theorem zm(hx:x = "list")(hg:Gl X x)(hm:X.mg x=none)(ha:PDA X G [e] fa)(he:starEach [e] X.env=(false,eval e X.env)::starEach [] X.env:=by rfl):PDN X G (.Call (.Name x p) [e] [] pos) (qc fa):=by
 subst hx
 obtain⟨_,t,pa,ha⟩:=ha
 refine⟨_,p6 l3 hg hm PyProof.Rows.boot_list pa (by decide) (by decide) he rfl,λδ O σ H Q E k=>?_⟩
 refine ha δ O σ H _ E (ah (ao k) λds z vs H1 s1 rs=>?_)
 match ds,z with
 | [.list xs],z =>
  obtain⟨v,rfl,r⟩:=fE rs
  obtain⟨q,us,rfl,h1,rx⟩:=r.lst_inv
  exact⟨q,us,rfl,.inl h1,λl hl=>z l us H1 s1 hl rx⟩
 | [.tuple xs],z =>
  obtain⟨v,rfl,r⟩:=fE rs
  obtain⟨q,us,rfl,h1,rx⟩:=r.tup_inv
  exact⟨q,us,rfl,.inr h1,λl hl=>z l us H1 s1 hl rx⟩
noncomputable def jk(i:Nat)(f:DS->M (List D)):DS->M Out:=λδ=>(f δ).thn λds=>M.ret (.nx (δ.set i (.ow ds)))
theorem CD{i:Nat}{x:Str}{f:DS->M (List D)}(hN:X.N.Nodup)(hi:X.N[i]?=some x)(hx:Loc X.env.scope x)(he:PDN X G e f)(hs:swapsWith e (some (.Name x pos')) pos.line X.env=pure false:=by rfl)(hf:X.fn x=true\/X.env.scope.names.lookup x=some .local:=by first | exact .inl rfl | exact .inr rfl | assumption) :
  PDS X G (.Assign [.Name x pos'] e pos) (jk i f):=by
 obtain⟨t,p,he⟩:=he
 refine⟨_,mq hN hi hx p hs hf,λR0 P0 H0 δ O σ H Dn E k=>?_⟩
 exact he δ O σ H _ E.ev (ah (ao k) λds z l xs H1 s1 hl rx=>z (l::O) _ _ ((E.same s1).newL hl rx))
mutual
noncomputable def bA:D->Bool
 | .tuple ds=>aD ds
 | .list _=>false
 | .dict _=>false
 | _=>true
noncomputable def aD:List D->Bool
 | []=>true
 | d::ds=>bA d&&aD ds
end
mutual
theorem Rep.flat{O':List Addr}:∀{v:V} {d:D},bA d=true->Rep K O H v d->Rep K O' H v d
 | _,_,_,.non=>.non
 | _,_,_,.bl b=>.bl b
 | _,_,_,.int i=>.int i
 | _,_,_,.str x=>.str x
 | _,_,h,.tup q r=>.tup q (Reps.flat (by simpa only[bA] using h) r)
 | _,_,h,.lst _ _ _=>by simp [bA] at h
 | _,_,h,.lstK _ _=>by simp [bA] at h
 | _,_,h,.dct _ _ _ _=>by simp [bA] at h
 | _,_,h,.ins _ _ _ _ _=>by simp [bA,iY] at h
theorem Reps.flat{O':List Addr}:∀{vs:List V} {ds:List D},aD ds=true->Reps K O H vs ds->Reps K O' H vs ds
 | _,_,_,.nil=>.nil
 | _,_,h,.cons r rs=>by
  simp only[aD,Z2] at h
  exact .cons (Rep.flat h.1 r) (Reps.flat h.2 rs)
end
theorem Ev.frz{i:Nat}(E:Ev K Hr O H σ δ):∃O',Ev K Hr O' H σ (DL.frz i δ):=by
 cases q:δ[i]? with
 | none=>exact⟨O,by unfold DL.frz;simp_all⟩
 | some s =>
  cases s with
  | un=>exact⟨O,by unfold DL.frz;simp_all⟩
  | vl d=>exact⟨O,by unfold DL.frz;simp_all⟩
  | ex a=>exact⟨O,by unfold DL.frz;simp_all⟩
  | od es=>exact⟨O,by unfold DL.frz;simp_all⟩
  | ow ds =>
   have e:DL.frz i δ=δ.set i (.vl (.list ds)):=by unfold DL.frz;rw[q]
   rw[e]
   obtain⟨l,xs,h1,h2,h3,r⟩:=E.at_ i _ q
   have hi:= (ρ.mp q).1
   have tl:To O (O.filter (· ≠ l)) H H:=.less λb hb=>(Y6.mp hb).1
   refine⟨O.filter (· ≠ l),E.root,λa ha=>E.oo a (Y6.mp ha).1,by rw[Λ];exact E.len,λj s h=>?_,λj k a es es' hjk k1 k2 k3 k4=>?_⟩
   ·rw[aW] at h
    by_cases hij:i=j
    ·rw[if_pos hij,if_pos hi] at h
     cases h
     rw[<-hij]
     exact⟨.ref l,h1,.lst (.inl h3) (λz=>by simp_all) (r.to tl)⟩
    ·rw[if_neg hij] at h
     refine(E.at_ j s h).to tl (λa kvs g1 g2=>⟨Y6.mpr ⟨g1,by grind⟩,g2⟩) λa ys g1 g2 g3 g4=>⟨?_,g2⟩
     obtain⟨es,rfl⟩:=g4
     refine Y6.mpr ⟨g1,?_⟩
     have hne:a≠l:=λz=>by
      subst z
      exact E.dis i j a ds es hij q h h1 g3
     simp_all
   ·rw[aW] at k1 k2
    by_cases hij:i=j
    ·simp_all
    ·by_cases hik:i=k
     ·simp_all
     ·rw[if_neg hij] at k1
      rw[if_neg hik] at k2
      exact E.dis j k a es es' hjk k1 k2 k3 k4
noncomputable def pd(i:Nat)(f:DS->M D):DS->M D:=λδ=>(f (frz i δ)).thn λd=>if bA d then M.ret d else none
theorem CG(i:Nat)(h:PD X G e f):PD X G e (pd i f):=by
 obtain⟨t,p,h⟩:=h
 refine⟨t,p,λδ O σ H Q E k=>?_⟩
 obtain⟨O',E'⟩:=E.frz
 refine h _ O' σ H Q E' (ah (ao k) λd z v H1 s1 r=>?_)
 by_cases hf:bA d=true
 ·rw[if_pos hf] at z
  exact z v H1 s1 (r.flat hf)
 ·rw[if_neg hf] at z
  exact z.elim
end
section
theorem wq(h:f (frz i δ)=M.ret d)(hf:bA d=true):pd i f δ=M.ret d:=by unfold pd;rw[h,ay,if_pos hf]
theorem gP(h:fn δ=M.ret ds):jk i fn δ=M.ret (.nx (δ.set i (.ow ds))):=by unfold jk;rw[h];rfl
theorem bB(h:fa δ=M.ret ds)(hz:aJ ds.length=true):cj fa δ=M.ret ds:=by unfold cj;rw[h,ay,if_pos hz]
theorem qv(h:fa δ=M.ret [.list ds]):qc fa δ=M.ret ds:=by unfold qc;rw[h];rfl
end
end DL
namespace L2
open PyProof.Rows
section
end
end L2
namespace L2
open PyProof.Rows
section
theorem xl:OpR X (compareOp .LtE) (λx y H Q=>∃i j,x=.str i/\y=.str j/\Q (.bl (!decide (j.cps.toList<i.cps.toList))) H):=by
 intro pins s σ H x y v u Q I rx ry h
 obtain⟨i,j,rfl,rfl,q⟩:=h
 obtain⟨t,rfl⟩:=rx
 obtain⟨t',rfl⟩:=ry
 exact PySem.P.le_str (uW I q rfl)
theorem sl_str:SlR X (λx lo hi H Q=>∃z,x=.str z/\z.length<=sizeLine/\Q (.str (Txt.slice z lo hi)) H):=by
 intro pins s σ H x v vl vu lo hi sl Q I rx hs pl pu h
 obtain⟨z,rfl,hz,q⟩:=h
 obtain⟨t,rfl⟩:=rx
 refine⟨"str",_,PySem.F.slot_str_getitem.lookup,typeIs_str _ _ _,?_⟩
 obtain⟨l,rfl,rfl⟩:∃l:Option (Int×Tok),vl=partValue l/\lo=l.map (·.1):=by
  cases pl with
  | none=>exact⟨none,rfl,rfl⟩
  | int i t=>exact⟨some (i,t),rfl,rfl⟩
 obtain⟨u,rfl,rfl⟩:∃u:Option (Int×Tok),vu=partValue u/\hi=u.map (·.1):=by
  cases pu with
  | none=>exact⟨none,rfl,rfl⟩
  | int i t=>exact⟨some (i,t),rfl,rfl⟩
 refine wpAny_getItem_str_slice (st:=none) ?_ rfl (post_val_or_str ⟨X8 (Txt.slice_le z _ _) hz,λt' k=>⟨.str _,H,I.tok k,⟨t',rfl⟩,q⟩⟩)
 assumption
end
end L2
namespace DL
open PyProof.Rows L2
section
variable{X:Cx}{G:XD->Hp->Prop}{a b c e o:Expr}{es:List Expr}{f g k:DS->M D}{fa:DS->M (List D)}{pos apos cpos:Pos}
noncomputable def mr:D->D->Option D
 | .int i,.int j=>some (.bool (decide (i<=j)))
 | .str i,.str j=>some (.bool (!decide (j.cps.toList<i.cps.toList)))
 | _,_=>none
theorem DE:DOp X (compareOp .LtE) mr:=by
 refine⟨_,op_le.or xl,λO H x y d v u Q oo rx ry e k=>?_⟩
 unfold mr at e
 split at e
 ·cases e
  exact .inl ⟨_,_,rx.int_inv,ry.int_inv,k _ H (aE.refl H) (.bl _)⟩
 ·cases e
  exact .inr ⟨_,_,rx.str_inv,ry.str_inv,k _ H (aE.refl H) (.bl _)⟩
 simp_all
variable{lo hi:Option Expr}{fl fh:DS->M (Option Int)}{p2:Pos}
noncomputable def mJ(lo hi:Option Int):D->Option D
 | .str z=>if aJ z.length then some (.str (Txt.slice z lo hi)) else none
 | d=>oCut lo hi d
noncomputable def lW(f:DS->M D)(fl fh:DS->M (Option Int)):DS->M D:=λδ=>(f δ).thn λx=>(fl δ).thn λl=>(fh δ).thn λu=>M.lift (mJ l u x)
theorem CK(he:PD X G e f)(hl:PDO X G lo fl)(hh:PDO X G hi fh):PD X G (.Subscript e (.Slice lo hi none p2) pos) (lW f fl fh):=by
 obtain⟨t,p,he⟩:=he
 obtain⟨tl,pl,hl⟩:=hl
 obtain⟨th,ph,hh⟩:=hh
 refine⟨_,y0 (sl_str.or (BG.or sl_tup)) p pl ph,λδ O σ H Q E k=>?_⟩
 refine he δ O σ H _ E (ah (ao k) λd z v H1 s1 r=>?_)
 refine hl δ O σ H1 _ (E.same s1) (ah (ao z) λl z H2 s2=>?_)
 refine hh δ O σ H2 _ (E.same (s1.trans s2)) (ah (ao z) λu z H3 s3=>?_)
 obtain⟨y,hy,z⟩:=b5 z
 have r3:=(r.same s2).same s3
 have s03:=(s1.trans s2).trans s3
 have E3:=E.same s03
 cases d with
 | str w =>
  have hy:(if aJ w.length=true then some (PyData.str (Txt.slice w l u)) else none)=some y:=hy
  by_cases hw:aJ w.length=true
  ·rw[if_pos hw] at hy
   cases hy
   exact .inl ⟨w,r3.str_inv,bt hw,z _ _ s03 (.str _)⟩
  simp_all
 | list ds =>
  obtain⟨a,xs,rfl,h1,rs⟩:=r3.lst_inv
  exact .inr (.inl ⟨a,xs,rfl,h1,λp hp=>z _ _ (s03.trans (aK hp)) (gm E3.oo hp (rs.cut l u))⟩)
 | tuple ds =>
  have hy:(if HT.sIx ds.length 0 l=0/\HT.sIx ds.length ds.length u=ds.length then none else some (W9 (nk ds l u)))=some y:=hy
  by_cases hw:HT.sIx ds.length 0 l=0/\HT.sIx ds.length ds.length u=ds.length
  ·simp_all
  ·rw[if_neg hw] at hy
   cases hy
   obtain⟨a,xs,rfl,h1,rs⟩:=r3.tup_inv
   exact .inr (.inr ⟨a,xs,rfl,h1,by rw[rs.length];exact hw,λp hp=>z _ _ (s03.trans (aK hp)) (im hp (rs.cut l u))⟩)
 | _=>cases hy
theorem zC(hg:Gl X x)(hm:X.mg x=some (.int i t))(hd:(x==("__debug__" : Str))=false:=by decide):PD X G (.Name x pos) (dC (.int i)) :=
 ⟨_,Cb (v:=.int i) hg hm ⟨t,rfl⟩ hd,λ_ _ _ H Q _ k=>k _ H (aE.refl H) (.int i)⟩
end
end DL
namespace L2
open PyProof.Rows
section
theorem yS(hc:X.calm=true)
  (hkind:scope.kind=.function) (hcell:∀y∈scope.names,y.2≠.cell) (hclos:closureFor scope X.env=pure cl) (hsub:∀y c,cl.lookup y=some c->X.env.cells.lookup y=some c)
  (hhas:∀y∈(relabel scope X.env).names,(y.2=.cell\/y.2=.free)->∃c,cl.lookup y.1=some c) (hfr:∀p∈fr,X.N[p.1]?=some p.2/\X.env.kindOf p.2=some .cell/\(compEnvC scope cl 0 X.env).kindOf p.2=some .cell/\∃c,cl.lookup p.2=some c) (hnames:∀y∈scope.names,y.2=.local->scope.names.lookup y.1=some .local)
  (hi:PI X tg iter wi) (hg:∀C s3 H3 fp,PG (aP X scope cl fr tn C s3 H3 fp) tg g) (hcs:∀C s3 H3 fp,PTs (aP X scope cl fr tn C s3 H3 fp) ifs tc) (he:∀C s3 H3 fp,PE (aP X scope cl fr tn C s3 H3 fp) elt te) (hs:∀x,foldedSetIterable iter X.env x=pure x:=by intro _;rfl)  (hsw:swapsWith (.ListComp elt [⟨tg,iter,ifs,0⟩] scope pos) (some (.Name y py)) spos.line X.env=pure true:=by rfl)
  (hN:X.N.Nodup) (hiy:X.N[iy]?=some y) (hly:Loc X.env.scope y) (hfy:X.fn y=true\/X.env.scope.names.lookup y=some .local:=by first | exact .inl rfl | exact .inr rfl | assumption) :
  PS X (.Assign [.Name y py] (.ListComp elt [⟨tg,iter,ifs,0⟩] scope pos) spos) (λDn σ H=>kJ tn.length fr wi g tc te σ H λv H1=>Dn.nx (σ.set iy (some v)) H1):=by
 intro pins s σ H Dn I h
 rw[exec_Assign_Name_used _ _ _ _ hsw]
 refine wpAny_bind (wpAny_standAt (wpAny_bind ?_))
 refine wpAny_bind (wpAny_mono (qy hc hkind hcell hclos hsub hhas hfr hnames hi hg hcs he hs I h λ{D s3 s6 H3 H5 fp pins5 σ5 r} I3 f3 I6 qn=>?_) (λ_ s' hq=>wpAny_pure (wpAny_pure hq)) λ_ _ e=>e)
 obtain⟨m,hn6,_⟩:=I6.loc
 have I6':= qz I3 f3 (ξ _) I6 ⟨rfl,λ_ _=>rfl⟩
 have ab:∀{b:Addr} {o:Obj},s3.heap.get? b=some o->b≠s3.heap.objs.size:=λe=>Z4 (Heap.lt_size e)
 have nL:X.env.locals≠s3.heap.objs.size:=by
  obtain⟨_,⟨o,_,_,ho,_⟩,_⟩:=I3.loc
  simp_all
 have nC:∀z c,X.env.cells.lookup z=some c->c≠s3.heap.objs.size:=λz c e=>by
  obtain⟨w',oc,ho,_⟩:=I3.cell z c e
  simp_all
 refine wpAny_assign_Name (pP (v:=.ref D) I6' hN hiy hly rfl (λs7 I7 hs7=>?_) hfy)
 obtain⟨a,sb,ha⟩:=hs7
 have hna:s3.heap.objs.size≠a:=by
  grind
 refine⟨m,hn6.sameBut sb hna,λh' hs'=>⟨σ.set iy (some (.ref D)),H5,?_,qn⟩⟩
 have hfr:= I6.free
 exact I7.turned (λb o hb e=>(hs'.2 b hb).trans e) hfr nL.symm (.inr (X8 I3.ok.above (X5 I3.lt))) nC λp hp=>ab (I3.pin p hp).1
end
end L2
namespace DL
open PyProof.Rows L2
section
end
end DL
namespace L2
open PyProof.Rows
section
theorem nQ:∀{is:List Int} {vs:List Value},aM (is.map V.int) vs->∃ts:List (Int×Tok),ts.map (·.1)=is/\vs=ts.map λp=>.int p.1 p.2
 | [],_,h=>by cases h;simp
 | i::is,_,h=>by
  cases h with
  | cons r rs =>
   obtain⟨t,rfl⟩:=r
   obtain⟨ts,e,rfl⟩:=nQ rs
   exact⟨(i,t)::ts,by simp_all,rfl⟩
end
section
end
end L2
namespace DL
open PyProof.Rows L2
section
end
end DL
namespace L2
open PyProof.Rows
section
end
end L2
namespace DL
open PyProof.Rows L2
section
end
end DL
namespace L2
open PyProof.Rows
section
end
end L2
namespace DL
open PyProof.Rows L2
section
theorem qN{cells:List (Str×Addr)}:∀y c,([]:List (Str×Addr)).lookup y=some c->cells.lookup y=some c:=λ_ _ h=>by cases h
theorem qM{n:Str}{a:Addr}{cells:List (Str×Addr)}(h:cells.lookup n=some a):∀y c,[(n,a)].lookup y=some c->cells.lookup y=some c:=λy c q=>by
 grind
end
end DL
namespace DL
open PyProof.Rows L2
def mZ(K:ε)(H:Hp)(k:V->Hp->Prop)(d:D):Prop:=∃ds,d=.list ds/\aD ds=true/\∀l xs H',aE H H'->H l=none->H' l=some (.lst xs)->Reps K [] H' xs ds->k (.ref l) H'
def PDF(X:Cx)(G:XD->Hp->Prop)(e:Expr)(f:DS->M D):Prop :=
 ∃t,PE X e t/\∀{Hr:Hp} (δ:DS) (O:List Addr) (σ:St) (H:Hp) (Q:VK),Ev X.K Hr O H σ δ->ok (GS G Hr) (f δ) (mZ X.K H Q)->t σ H Q
def FinF(K:ε)(Hr:Hp)(R0:List Addr)(H0:Hp)(Dn:Ends):Out->Prop
 | .rt d=>mZ K H0 Dn.rt d
 | _=>False
def gU(X:Cx)(G:XD->Hp->Prop)(st:List Stmt)(g:DS->M Out):Prop :=
 ∃t,PSs X st t/\∀{Hr:Hp} (R0:List Addr) (H0:Hp) (δ:DS) (O:List Addr) (σ:St) (H:Hp) (Dn:Ends),EI X.K Hr R0 (λ_=>False) H0 O H σ δ->ok (GS G Hr) (g δ) (FinF X.K Hr R0 H0 Dn)->t Dn σ H
section
variable{X:Cx}{G:XD->Hp->Prop}{e:Expr}{es:List Expr}{f:DS->M D}{fa:DS->M (List D)}{gt:DS->M Out}{sts:List Stmt}{pos:Pos}
theorem zh(he:PDF X G e f):gU X G [.Return (some e) pos] (ck f):=by
 obtain⟨t,p,he⟩:=he
 refine⟨_,ny (jx p),λR0 H0 δ O σ H Dn E k=>?_⟩
 refine he δ O σ H _ E.ev (ah (ao k) λd z=>?_)
 obtain⟨ds,rfl,hf,z⟩:=(show mZ X.K H0 Dn.rt d from z)
 refine⟨ds,rfl,hf,λl xs H' s hl hx rx=>z l xs H' (λb o h=>s _ _ (E.keep b o (λw=>w) h)) ?_ hx rx⟩
 cases q:H0 l with
 | none=>rfl
 | some o =>
  rw[E.keep l o (λw=>w) q] at hl
  cases hl
theorem mV{c:DS->M Bool}{fi:DS->M (List D)}{t:D->DS->Option DS}{fr:List (Nat×Str)}{tn:List Str}{wi:TI}(hi:∀{Hr:Hp} (δ:DS) (O:List Addr) (σ:St) (H:Hp) (R:It->Hp->Prop),Ev X.K Hr O H σ δ->ok (GS G Hr) (fi δ) (λds=>∀J H1,aE H H1->Yl X.K J O H1 ds->R J H1)->wi σ H R)
  {Hr:Hp} (δ:DS) (O:List Addr) (σ:St) (H:Hp) (Q:VK) (E:Ev X.K Hr O H σ δ) (k:ok (GS G Hr) (cq tn.length (fr.map (·.1)) t fi c f δ) (mZ X.K H Q)) :
  kJ tn.length fr wi (gD X.K t) (cD X.K c) (tD X.K (λ_ _=>False) f) σ H Q :=
 mU hi δ O σ H Q E (ah k λd q ds e l xs H' s hl hx rx=>by
  obtain⟨ds',e',hf,q⟩:=q
  subst e
  cases e'
  exact q l xs H' s hl hx (rx.flat hf))
theorem p7{c:DS->M Bool}{fi:DS->M (List D)}{t:D->DS->Option DS}{cl:List (Str×Addr)}{fr:List (Nat×Str)}{tn:List Str}{elt iter tg:Expr}{ifs:List Expr}{scope:Scope}{pos:Pos}(hc:X.calm=true)
  (hkind:scope.kind=.function) (hcell:∀y∈scope.names,y.2≠.cell) (hclos:closureFor scope X.env=pure cl) (hsub:∀y c,cl.lookup y=some c->X.env.cells.lookup y=some c)
  (hhas:∀y∈(relabel scope X.env).names,(y.2=.cell\/y.2=.free)->∃c,cl.lookup y.1=some c) (hfr:∀p∈fr,X.N[p.1]?=some p.2/\X.env.kindOf p.2=some .cell/\(compEnvC scope cl 0 X.env).kindOf p.2=some .cell/\∃c,cl.lookup p.2=some c) (hnames:∀y∈scope.names,y.2=.local->scope.names.lookup y.1=some .local)
  (hi:PDI X G tg iter fi) (hg:∀C s3 H3 fp,PDG (aP X scope cl fr tn C s3 H3 fp) tg t) (hcs:∀C s3 H3 fp,pJ (aP X scope cl fr tn C s3 H3 fp) ifs c) (he:∀C s3 H3 fp,PD (aP X scope cl fr tn C s3 H3 fp) (λ_ _=>False) elt f) (hs:∀x,foldedSetIterable iter X.env x=pure x:=by intro _;rfl) :
  PDF X G (.ListComp elt [⟨tg,iter,ifs,0⟩] scope pos) (cq tn.length (fr.map (·.1)) t fi c f):=by
 obtain⟨wi,pi,hi⟩:=hi
 refine⟨_,oA hc hkind hcell hclos hsub hhas hfr hnames pi (λC s3 H3 fp=>(hg C s3 H3 fp).can) (λC s3 H3 fp=>(hcs C s3 H3 fp).can) (λC s3 H3 fp=>(he C s3 H3 fp).can) hs,λδ O σ H Q E k=>mV hi δ O σ H Q E k⟩
end
noncomputable def spDF(K:ε)(n:Nat)(F:List D->M D):Sp:=λvs H Q _=>∃O ds,vs.length=n/\(∀l∈O,Mu H l)/\Reps K O H vs ds/\ok (λ_=>False) (F ds) (mZ K H Q)
structure DefF(P:Program)(w:World)(K:ε)(mg:Str->Option Value)(base:Heap)(k:Nat)(x:Str)(n:Nat)(F:List D->M D):Prop where
 ex:∃(f:Addr) (fd:FuncData) (ps:List Str),FnOk P w K mg base CX0 k f fd ps (spDF K n F)/\mg x=some (.ref f)/\Y7 K (.ref f)=true/\cM K fd ps []
section
theorem zu(h:DefF X.prog X.w X.K X.mg X.base k x n F)(hr:Room k X.A)(hg:Gl X x)(hn:(e::es).length=n)(ha:PDA X G (e::es) fa)
  (hdb:(x==("__debug__" : Str))=false:=by decide) (he:`we:=by rfl) (hpl:(backTo pos (starEach es X.env)).any (·.1)=false:=by rfl) :
  PDF X G (.Call (.Name x p) (e::es) [] pos) (aG (λds=>noX (F ds)) fa):=by
 obtain⟨f,fd,ps,F1,hm,hk,hb⟩:=h.ex
 obtain⟨hl,t,pa,ha⟩:=ha
 refine⟨_,nz F1 hr hg hm hk hb .nil kr pa hdb he hpl,λδ O σ H Q E k=>?_⟩
 have k1:=ao k
 refine ha δ O σ H _ E ?_
 cases e1:fa δ with
 | none=>rw[e1] at k1;assumption
 | some r =>
  rw[e1] at k1
  cases r with
  | error x=>exact k1
  | ok ds =>
   refine λvs H1 s1 rs=>?_
   refine⟨O,ds,?_,(E.same s1).oo,?_,ah (kM k1) λd z=>?_⟩
   ·rw[Z3,rs.length,hl δ ds e1]
    exact hn
   ·simp_all
   ·obtain⟨ds',rfl,hf,z⟩:=z
    refine⟨ds',rfl,hf,λl xs H' s hl hx rx=>z l xs H' (s1.trans s) ?_ hx rx⟩
    cases q:H l with
    | none=>rfl
    | some o=>rw[s1 l o q] at hl;cases hl
end
section
variable{P:Program}{w:World}{K:ε}{mg:Str->Option Value}{base:Heap}
theorem wb{x qual:Str}{st:Stmt}{f:Addr}{fd:FuncData}{N ps:List Str}{k:Nat}{g:DS->M Out}(F0:Fun K x qual st f fd)(S:FnScope N ps (ai st))
  (hbody:∀(cdv:Value) (A:Around) (outer:List Env) (s:Shared) (H:Hp) (E:XK),Room k (A.deeper (envOfC qual (ai st) s.heap.objs.size f cdv)) ->
   gU (kX CX0 P w K mg base N qual (ai st) f cdv A outer s H E).nox (λ_ _=>False) (bC st) g):FnOk P w K mg base CX0 (k+1) f fd ps (spDF K ps.length (run N.length g)):=by
 refine F0.ok S (λvs H Q E h=>?_) (λcdv A outer s H vs Q E hr h=>?_)
 ·obtain⟨O,ds,hl,_⟩:=h
  exact hl
 ·obtain⟨O,ds,hl,oo,r,q⟩:=h
  obtain⟨t,p,hB⟩:=hbody cdv A outer s H E hr
  refine⟨t,p,hB O H (gj N.length ds) O (L2.start N vs) H _ ⟨o5 N oo r,λl hl=>.inl hl,λb o _ h=>h,λl hl=>.inl hl,λi es l h1 ho h2=>?_,λl hl=>hl⟩ (ah (ll (ao q)) λo z=>?_)⟩
  ·exact(nW h1 ho).elim
  ·cases o with
   | rt d=>exact z
   | nx δ =>
    obtain⟨ds',e,_⟩:=(show mZ K H Q .none from z)
    cases e
   | bk δ=>assumption
   | ct δ=>assumption
theorem wF{x qual:Str}{st:Stmt}{f:Addr}{fd:FuncData}{N ps:List Str}{k:Nat}{g:DS->M Out}(F0:Fun K x qual st f fd)(S:FnScope N ps (ai st))(hm:mg x=some (.ref f))(hb:cM K fd ps [])
  (hbody:∀(cdv:Value) (A:Around) (outer:List Env) (s:Shared) (H:Hp) (E:XK),Room k (A.deeper (envOfC qual (ai st) s.heap.objs.size f cdv)) ->
   gU (kX CX0 P w K mg base N qual (ai st) f cdv A outer s H E).nox (λ_ _=>False) (bC st) g):DefF P w K mg base (k+1) x ps.length (run N.length g) :=
 ⟨f,fd,ps,wb F0 S hbody,hm,F0.kp,hb⟩
end
end DL
namespace L2
open PyProof.Rows
section
theorem mI(f:Nat->Int)(l:List Int)(h:∀j,j<l.length->f j=l.getD j 0):∀n,n<=l.length->preSum f n=(l.take n).sum
 | 0,_=>by rfl
 | n+1,hn=>by
  have e:preSum f (n+1)=preSum f n+f n:=rfl
  rw[e,mI f l h n `am,h n `am,List.take_succ,List.sum_append]
  grind
end
end L2
namespace DL
open PyProof.Rows L2
section
end
section
variable{X:Cx}{G:XD->Hp->Prop}{e:Expr}{es:List Expr}{f:DS->M D}{fa:DS->M (List D)}{gs gt:DS->M Out}{st:Stmt}{sts:List Stmt}{pos:Pos}
noncomputable def oZ(i:Nat):DS->M Out:=λδ=>match δ[i]? with
 | some (.ow ds)=>if aD ds=true then M.ret (.rt (.list ds)) else none
 | _=>none
theorem EI.sames{K:ε}{Hr H0 H:Hp}{R0 O:List Addr}{σ:St}{δ:DS}(E:EI K Hr R0 (λ_=>False) H0 O H σ δ):aE H0 H:=λb o h=>E.keep b o (λw=>w) h
theorem xb(he:PE X e (ld i)):gU X G [.Return (some e) pos] (oZ i):=by
 refine⟨_,ny (jx he),λR0 H0 δ O σ H Dn E k=>?_⟩
 unfold oZ at k
 split at k
 ·rename_i ds hd
  by_cases hf:aD ds=true
  ·rw[if_pos hf] at k
   obtain⟨l,xs,q1,q2,q3,q4⟩:=E.ev.at_ i _ hd
   obtain⟨ds',e1,hf',k⟩:=(show mZ X.K H0 Dn.rt (.list ds) from k)
   cases e1
   have hl:H0 l=none:=by
    rcases E.om l q2 with h | h | h
    ·exact absurd h (E.nr i ds l hd q1)
    all_goals simp_all
   exact⟨.ref l,q1,k l xs H E.sames hl q3 (q4.flat hf)⟩
  ·rw[if_neg hf] at k
   exact k.elim
 ·exact k.elim
noncomputable def dS(g h:DS->M Out):DS->M Out:=λδ=>(g δ).thn λo=>match o with
 | .nx δ'=>h δ'
 | _=>none
theorem xc(h1:PDS X G st gs)(h2:gU X G sts gt):gU X G (st::sts) (dS gs gt):=by
 obtain⟨t,p,h1⟩:=h1
 obtain⟨u,q,h2⟩:=h2
 refine⟨_,lj p q,λR0 H0 δ O σ H Dn E k=>?_⟩
 refine h1 R0 _ H0 δ O σ H _ E (ah (ao k) λo z=>?_)
 cases o with
 | nx δ'=>exact λO' σ' H' E'=>h2 R0 H0 δ' O' σ' H' Dn E' z
 | rt d=>exact z.elim
 | bk δ'=>exact z.elim
 | ct δ'=>exact z.elim
theorem gB(h1:gs δ=M.ret (.nx δ'))(h2:gt δ'=r):dS gs gt δ=r:=by unfold dS;rw[h1];exact h2
theorem wm(h:δ[i]?=some (.ow ds))(hf:aD ds=true):oZ i δ=M.ret (.rt (.list ds)):=by unfold oZ;simp_all
noncomputable def nF(f:DS->M D):DS->M (List D):=λδ=>(f δ).thn λd=>match d with
 | .list ds=>if aD ds=true then M.ret ds else none
 | _=>none
theorem wp(h:f δ=M.ret (.list ds))(hf:aD ds=true):nF f δ=M.ret ds:=by
 unfold nF
 rw[h]
 show(if aD ds=true then _ else _)=_
 simp_all
mutual
theorem Rep.flatTo{K:ε}{O O':List Addr}{H H':Hp}(t:∀b xs,Rd H b (.tup xs)->Rd H' b (.tup xs)):∀{v:V} {d:D},bA d=true->Rep K O H v d->Rep K O' H' v d
 | _,_,_,.non=>.non
 | _,_,_,.bl b=>.bl b
 | _,_,_,.int i=>.int i
 | _,_,_,.str x=>.str x
 | _,_,h,.tup q r=>.tup (by rcases q with q | q;exact .inl (t _ _ q);exact .inr q) (Reps.flatTo t (by simpa only[bA] using h) r)
 | _,_,h,.lst _ _ _=>by simp [bA] at h
 | _,_,h,.lstK _ _=>by simp [bA] at h
 | _,_,h,.dct _ _ _ _=>by simp [bA] at h
 | _,_,h,.ins _ _ _ _ _=>by simp [bA,iY] at h
theorem Reps.flatTo{K:ε}{O O':List Addr}{H H':Hp}(t:∀b xs,Rd H b (.tup xs)->Rd H' b (.tup xs)):∀{vs:List V} {ds:List D},aD ds=true->Reps K O H vs ds->Reps K O' H' vs ds
 | _,_,_,.nil=>.nil
 | _,_,h,.cons r rs=>by
  simp only[aD,Z2] at h
  exact .cons (Rep.flatTo t h.1 r) (Reps.flatTo t h.2 rs)
end
theorem Ct(h:PDF X G e f):PDN X G e (nF f):=by
 obtain⟨t,p,h⟩:=h
 refine⟨t,p,λδ O σ H Q E k=>?_⟩
 refine h _ O σ H Q E (ah (ao k) λd z=>?_)
 cases d with
 | list ds =>
  by_cases hf:aD ds=true
  ·have z:ok _ (if aD ds=true then M.ret ds else none) _:=z
   rw[if_pos hf] at z
   refine⟨ds,rfl,hf,λl xs H' s hl hx rx=>?_⟩
   have z:=z l xs (λb=>if b=l then none else H' b) (λb o hb=>?_) (if_pos rfl) (rx.flatTo (λb ys q=>?_) hf)
   ·have e1:upd (λb=>if b=l then none else H' b) l (.lst xs)=H':=by
     funext b
     by_cases hb:b=l
     ·subst hb;rw[aA,hx]
     ·rw[upd_ne hb];simp_all
    simp_all
   ·have hb':= aC hb hl
    show(if b=l then none else H' b)=_
    rw[if_neg hb']
    exact s b o hb
   ·have hb:b≠l:=by
     rintro rfl
     rcases q with q | ⟨u,q⟩<;>rw[hx] at q<;>cases q
    rcases q with q | ⟨u,q⟩
    ·exact .inl (by simp_all)
    ·exact .inr ⟨u,by simp_all⟩
  ·have z:ok _ (if aD ds=true then M.ret ds else none) _:=z
   rw[if_neg hf] at z
   exact z.elim
 | _=>exact z.elim
end
end DL
namespace DL
open PyProof.Rows L2
section
end
end DL
namespace L2
open PyProof.Rows
section
theorem Au:PGet X (rIxL X.K):=by
 intro pins s σ H x y v u Q I rx ry h
 obtain⟨p,xs,i,z,rfl,rfl,hq,he,q⟩:=h
 cases rx
 obtain⟨t,rfl⟩:=ry
 obtain⟨its,r,pl,hz⟩:=I.list hq
 obtain⟨j,h1,h2,h3,h4,h5⟩:=nK he
 obtain⟨w,ew,rw'⟩:=r.get h2
 have hl:=r.length
 have hn:=kQ
 have fin:EP X pins σ Q w s:=⟨z,H,I,rw',q⟩
 by_cases h0:0<=i
 ·have hj:i.toNat=j:=by
   rw[seqIndex_of h0 h5] at h1
   simp_all
  exact wpAny_getItem_list pl.isList h0 `am (by simp_all) fin
 ·have hj:(i+(its.toArray.size:Int)).toNat=j:=by
   rw[seqIndex_neg `am h4] at h1
   simp_all
  exact wpAny_getItem_list_neg pl.isList `am (by simp_all) `am (by simp_all) fin
end
end L2
namespace DL
open PyProof.Rows L2
theorem EI.put{K:ε}{Hr:Hp}{R0:List Addr}{P0:Addr->Prop}{H0 H:Hp}{O:List Addr}{σ:St}{δ:DS}{i:Nat}{l:Addr}{xs ys:List V}{ds ds':List D}(E:EI K Hr R0 P0 H0 O H σ δ)(hd:δ[i]?=some (.ow ds))(hσ:σ[i]?=some (some (.ref l)))(hl:H l=some (.lst xs))(ry:Reps K O H ys ds') :
  EI K Hr R0 P0 H0 O (upd H l (.lst ys)) σ (δ.set i (.ow ds')):=by
 obtain⟨l',xs',q1,lO,q3,_⟩:=E.ev.at_ i _ hd
 rw[hσ] at q1
 cases q1
 have tO:To O O H (upd H l (.lst ys)):=To.set hl lO
 refine⟨⟨λb o h=>?_,λa ha=>?_,by rw[Λ];exact E.ev.len,λj s h=>?_,λj k a es es' hjk h1 h2 h3=>?_⟩,E.omr,λb o n h=>?_,E.om,λj es a h1 ho h2=>?_,E.sub⟩
 ·have q:=E.ev.root b o h
  have hne:b≠l:=λz=>by
   subst z
   rcases E.omr b lO with w | w
   ·exact E.nr i ds b hd hσ w
   ·rw[h] at w;cases w
  rw[upd_ne hne]
  exact q
 ·by_cases hb:a=l
  ·rw[hb];exact .lst aA
  ·exact(E.ev.oo a ha).upd_ne hb
 ·rw[aW] at h
  by_cases hij:i=j
  ·rw[if_pos hij] at h
   split at h
   ·cases h
    rw[<-hij,hσ]
    exact⟨l,_,rfl,lO,aA,ry.to tO⟩
   ·cases h
  ·rw[if_neg hij] at h
   refine(E.ev.at_ j s h).to tO (Aq hl) λa ys h1 h2 h3 h4=>⟨h1,?_⟩
   obtain⟨es,rfl⟩:=h4
   have hne:a≠l:=λz=>by
    subst z
    exact E.ev.dis i j a ds es hij hd h hσ h3
   rw[upd_ne hne]
   exact h2
 ·have old:∀(j:Nat) (es:List D),(δ.set i (.ow ds'))[j]?=some (.ow es)->∃es',δ[j]?=some (.ow es'):=λj es h=>by
   rw[aW] at h
   by_cases hij:i=j
   ·rw[<-hij];exact⟨ds,hd⟩
   ·rw[if_neg hij] at h;exact⟨es,h⟩
  obtain⟨e1,h1⟩:=old j es h1
  obtain⟨e2,h2⟩:=old k es' h2
  exact E.ev.dis j k a e1 e2 hjk h1 h2 h3
 ·have q:=E.keep b o n h
  have hne:b≠l:=λz=>by
   subst z
   rcases E.om b lO with w | w | w
   ·exact E.nr i ds b hd hσ w
   ·exact n w
   ·rw[h] at w;cases w
  rw[upd_ne hne]
  exact q
 ·rw[aW] at h1
  by_cases hij:i=j
  ·exact E.nr i ds a hd (by rw[hij];exact h2)
  ·rw[if_neg hij] at h1
   exact E.nr1 j es a h1 ho h2
section
noncomputable def gI(fn:DS->M (List D)):DS->M D:=λδ=>(fn δ).thn λds=>M.ret (.list ds)
theorem zy(h:PDN X G e fn):PD X G e (gI fn):=by
 obtain⟨t,p,h⟩:=h
 refine⟨t,p,λδ O σ H Q E k=>?_⟩
 refine h δ O σ H Q E (ah (ao k) λds z l xs H1 s1 hl rx=>?_)
 exact z (.ref l) _ (s1.trans (aK hl)) (gm (E.same s1).oo hl rx)
theorem eR(h:fn δ=M.ret ds):gI fn δ=M.ret (.list ds):=by unfold gI;rw[h];rfl
noncomputable def jB(f g:DS->M D):DS->M (List D):=λδ=>(f δ).thn λx=>(g δ).thn λy=>match x,y with
 | .list xs,.list ys=>if aJ (xs.length+ys.length) then M.ret (xs++ys) else none
 | _,_=>none
theorem nA(ha:PD X G a f)(hb:PD X G b g):PDN X G (.BinOp a .Add b pos) (jB f g):=by
 obtain⟨ta,pa,ha⟩:=ha
 obtain⟨tb,pb,hb⟩:=hb
 refine⟨_,vM qZ pa pb,λδ O σ H Q E k=>?_⟩
 refine ha δ O σ H _ E (ah (ao k) λx z v H1 s1 rx=>?_)
 refine hb δ O σ H1 _ (E.same s1) (ah (ao z) λy z u H2 s2 ry=>?_)
 match x,y,z,rx,ry with
 | .list xs,.list ys,z,rx,ry =>
  obtain⟨p,vs,rfl,h1,r1⟩:=(rx.same s2).lst_inv
  obtain⟨q,ws,rfl,h2,r2⟩:=ry.lst_inv
  by_cases hz:aJ (xs.length+ys.length)=true
  ·have z:ok _ (if aJ (xs.length+ys.length)=true then M.ret (xs++ys) else none) _:=z
   rw[if_pos hz] at z
   exact⟨p,q,vs,ws,rfl,rfl,h1,h2,by rw[r1.length,r2.length];exact bt hz,λl hl=>z l _ H2 (s1.trans s2) hl (r1.append r2)⟩
  ·have z:ok _ (if aJ (xs.length+ys.length)=true then M.ret (xs++ys) else none) _:=z
   rw[if_neg hz] at z
   exact z.elim
theorem fU(h1:f δ=M.ret (.list xs))(h2:g δ=M.ret (.list ys))(hz:aJ (xs.length+ys.length)=true):jB f g δ=M.ret (xs++ys):=by
 unfold jB;rw[h1,ay,h2];show(if _ then _ else _)=_;simp_all
theorem Reps.rep{K:ε}{O:List Addr}{H:Hp}{xs:List V}{ds:List D}(h:Reps K O H xs ds):∀k:Nat,Reps K O H (χ k xs).flatten (χ k ds).flatten
 | 0=>.nil
 | k+1=>by
  exact h.append (Reps.rep h k)
noncomputable def rp(fn:DS->M (List D))(g:DS->M D):DS->M (List D):=λδ=>(fn δ).thn λds=>(g δ).thn λy=>match y with
 | .int k=>if aJ (ds.length*k.toNat)&&decide (-(2 ^ 63)<=k/\k<2 ^ 63) then M.ret (χ k.toNat ds).flatten else none
 | _=>none
theorem Cs(ha:PDN X G a fn)(hb:PD X G b g):PDN X G (.BinOp a .Mult b pos) (rp fn g):=by
 obtain⟨ta,pa,ha⟩:=ha
 obtain⟨tb,pb,hb⟩:=hb
 refine⟨_,vM op_rep pa pb,λδ O σ H Q E k=>?_⟩
 refine ha δ O σ H _ E (ah (ao k) λds z l xs H1 s1 hl rx=>?_)
 have s2:aE H1 (upd H1 l (.lst xs)):=aK hl
 refine hb δ O σ _ _ (E.same (s1.trans s2)) (ah (ao z) λy z u H2 s3 ry=>?_)
 cases y with
 | int n =>
  rw[ry.int_inv]
  by_cases hz:(aJ (ds.length*n.toNat)&&decide (-(2 ^ 63)<=n/\n<2 ^ 63))=true
  ·have z:ok _ (if (aJ (ds.length*n.toNat)&&decide (-(2 ^ 63)<=n/\n<2 ^ 63))=true then M.ret (χ n.toNat ds).flatten else none) _:=z
   rw[if_pos hz] at z
   simp only[Z2,decide_eq_true_eq] at hz
   exact⟨l,n,xs,rfl,rfl,s3 _ _ aA,hz.2.1,hz.2.2,by rw[rx.length];exact bt hz.1,λp hp=>z p _ H2 ((s1.trans s2).trans s3) hp (((rx.same s2).same s3).rep _)⟩
  ·have z:ok _ (if (aJ (ds.length*n.toNat)&&decide (-(2 ^ 63)<=n/\n<2 ^ 63))=true then M.ret (χ n.toNat ds).flatten else none) _:=z
   rw[if_neg hz] at z
   exact z.elim
 | _=>exact z.elim
theorem Az(d:D)(k:Nat):(χ k [d]).flatten=χ k d:=by
 simp
theorem nJ(h1:fn δ=M.ret [d])(h2:g δ=M.ret (.int k))(h0:0<=k)(hk:k<=1000000):rp fn g δ=M.ret (χ k.toNat d):=by
 unfold rp;rw[h1,ay,h2]
 show(if _ then _ else _)=_
 rw[if_pos,Az]
 simp only[Z2,decide_eq_true_eq]
 exact⟨aF (by grind),by omega,by omega⟩
end
end DL
namespace L2
open PyProof.Rows
theorem xV(hc:X.calm=true):fQ X (.builtin "sum") (λxs H Q=>∃(p:Addr) (is:List Int),xs=[.ref p]/\SqL X.K H p (is.map V.int)/\Q (.int is.sum) H):=by
 intro pins s σ H xs us Q I r h
 obtain⟨l,is,rfl,hq,q⟩:=h
 obtain⟨u,rfl,rx⟩:=k7 r
 cases rx
 obtain⟨its,rv,pl,hz⟩:=I.list hq
 obtain⟨ts,e,rfl⟩:=nQ rv
 have hl:s.heap.IsList l (intItems ts.toArray):=by
  have:=pl.isList
  have e2:intItems ts.toArray=(ts.map λp=>Value.int p.1 p.2).toArray:=by unfold intItems;simp
  simp_all
 have hlen:ts.length=is.length:=by grind
 have hat:∀j,j<is.length->numAt ts.toArray j=is.getD j 0:=λj hj=>by
  unfold numAt
  grind
 have hll:l<s.heap.objs.size:=by
  obtain⟨o,ho,_⟩:=hl
  exact Heap.lt_size ho
 refine call_sum_walkG (wpAny_pyIter_list hl ?_)
 refine⟨_,[_,l],[_],_,_,_,numAt ts.toArray,rfl,Walks.list (A:=X.A.in1) (I.ok.hd hc) _ l (Z4 hll) (intItems ts.toArray),⟨⟨_,Heap.get?_push_size _ rfl,rfl,rfl⟩,hl.push _⟩,λd hd=>?_,λi v hv=>intItems_at hv,λh' tk t' hk=>?_⟩
 ·rw[Heap.size_push]
  grind
 ·have hold:∀d o,s.heap.get? d=some o->h'.get? d=some o:=λd o e=>by
   refine hk d o (λhm=>?_) (Heap.get?_push_of_some _ e)
   rcases ψ.mp hm with e1 | hm
   ·have:=Heap.lt_size e;simp_all
   simp_all
  have hs:(intItems ts.toArray).size=is.length:=by unfold intItems;simp_all
  rw[hs,mI _ is hat _ (ξ _),List.take_length]
  exact⟨.int is.sum,H,I.kept hold,⟨t',rfl⟩,q⟩
end L2
namespace DL
open PyProof.Rows L2
section
noncomputable def sW:List D->Option D
 | [.list ds]=>(iX ds).map λis=>.int is.sum
 | _=>none
theorem o9(hc:X.calm=true):fP X (.builtin "sum") sW:=by
 refine⟨_,xV hc,λO H ds d vs Q oo rs e k=>?_⟩
 unfold sW at e
 split at e
 ·rename_i es
  cases he:iX es with
  | none=>simp_all
  | some is =>
   rw[he] at e
   cases e
   obtain⟨v,rfl,r⟩:=fE rs
   obtain⟨p,xs,rfl,h1,rx⟩:=r.lst_inv
   rw[oT he] at rx
   rw[pY rx] at h1
   exact⟨p,is,rfl,h1,k _ H (aE.refl H) (.int _)⟩
 simp_all
end
end DL
namespace L2
open PyProof.Rows
theorem yH:typeLookup (.type "list_reverseiterator") "__len__" = pure none:=by
 rfl
theorem BP:typeLookup (.type "list_reverseiterator") "__length_hint__" = pure (some (.builtin "list_reverseiterator.__length_hint__")):=by
 rfl
section
variable{pr:Program}{wo:World}{Ar:Around}{Er:Value->Shared->Prop}{st:Shared}
abbrev o7(c:Nat):Obj:={ cls:=.type "list",data:=.seq #[] c }
abbrev RvP(xs:Array Value):Nat->Value->Prop:=λi v=>xs[xs.size-1-i]?=some v
theorem yp{R:Result->Shared->Prop}{T l:Addr}{xs:Array Value}{res:Value}{c0:Nat}{S:Addr}(hh:Ar.handled=none)(hit:st.heap.IsRevIter T l ((xs.size:Int)-1))(hl:st.heap.IsList l xs)
  (hne:l≠T) (hz:xs.size<=sizeLine) (hS:st.heap.get? S=some (o7 c0)) (hST:S≠T) (hSl:S≠l)
  (k:∀h2 tk ys c,(∀b o,b≠S->b≠T->st.heap.get? b=some o->h2.get? b=some o)->h2.get? S=some { cls:=.type "list",dict:=none,data:=.seq ys c,slots:=#[] }->ItemsOf (RvP xs) ys xs.size ->
   R (.ok (.ret res)) { st with heap:=h2,toks:=tk }) :
  wpAny (model pr wo) Ar.in1 (Builtin.List.listExtendWith (.ref S) (.ref T) res) (λfin s'=>match fin with | .done f=>R (.ok f) s' | .again c'=>c'.quiet=true/\codeAny (model pr wo) Ar c' R s') (λe s'=>R (.error e) s') st:=by
 have W:=(Walks.listRev (prog:=pr) (w:=wo) (A:=Ar.in1) hh T l hne xs).toS
 have hT:= hit.typeIs
 have hSf:S∉[T,l]:=λhm=>by
  simp_all
 have hs0:((0:Nat)<=xs.size/\st.heap.IsRevIter T l ((xs.size:Int)-1-((0:Nat):Int))/\st.heap.IsList l xs):=⟨Y5 _,by simp_all,hl⟩
 refine wpAny_bind (wpAny_typeOf hT ?_)
 have q1:Builtin.List.listSameRef (.ref S) (.ref T)=false:=by
  simp [Builtin.List.listSameRef,hST]
 rw[if_neg (by simp_all)]
 refine wpAny_bind (wpAny_pyIter_revIter hit ?_)
 refine wpAny_bind (wpAny_holding ?_)
 refine wpAny_bind (wpAny_specialOf hT yH ?_)
 refine wpAny_bind (wpAny_specialOf hT BP ?_)
 generalize hid:("list_reverseiterator.__length_hint__" : String)=nm
 wp_delta
 subst hid
 refine wpAny_bind (wpAny_isInstance (b:=true) hT (by rfl) ?_)
 refine wpAny_pure ?_
 refine wpAny_pure ⟨plainId_quiet F.plain_extend_loop _,?_⟩
 refine codeAny_extend_loopS W hz S hSf res xs.size 0 _ #[] c0 rfl (Y5 _) hs0 hS (ItemsOf.nil _) λs2 ys c mv h2 hy=>?_
 rw[Moved.eq_with mv]
 refine k s2.heap s2.toks ys c (λb o b1 b2 e=>mv.heap b o (λhm=>?_) e) h2 hy
 simp_all
theorem pI{Q:Value->Shared->Prop}{T l:Addr}{xs:Array Value}(hh:Ar.handled=none)(hit:st.heap.IsRevIter T l ((xs.size:Int)-1))(hl:st.heap.IsList l xs)(hne:l≠T)(hz:xs.size<=sizeLine)
  (k:∀h2 tk ys c,(∀b o,b≠T->st.heap.get? b=some o->h2.get? b=some o)->h2.get? st.heap.objs.size=some { cls:=.type "list",dict:=none,data:=.seq ys c,slots:=#[] }->ItemsOf (RvP xs) ys xs.size ->
   Q (.ref st.heap.objs.size) { st with heap:=h2,toks:=tk }) :
  wpAny (model pr wo) Ar (call (.type "list") [.ref T]) Q Er st:=by
 have hTl:= let ⟨_,ho,_⟩:=hit;Heap.lt_size ho
 have hll:= let ⟨_,ho,_⟩:=hl;Heap.lt_size ho
 refine callType_codes (Q₁:=λob s1=>ob=.ref st.heap.objs.size/\s1={ st with heap:=st.heap.push (o7 0) }) F.called_list (F.typeCall_list_1 _) F.entry_list_init (code_list_new _ ⟨rfl,rfl⟩) ?_
 rintro ob s1 ⟨rfl,rfl⟩
 have hS:(st.heap.push (o7 0)).get? st.heap.objs.size=some (o7 0):=Heap.get?_push_size _ rfl
 refine⟨⟨_,hS,rfl⟩,F.args_list_init_2 _ _,?_⟩
 refine wpAny_bind ?_
 refine wpAny_bind (wpAny_seqItems hS rfl (wpAny_pure ?_))
 refine wpAny_bind (wpAny_updateSeq hS rfl ?_)
 have hS2:=Heap.get?_update_self (Obj.mapSeq (λ_=>(#[]:Array Value))) hS rfl
 have keep:∀b o,b≠st.heap.objs.size->st.heap.get? b=some o->((st.heap.push (o7 0)).update st.heap.objs.size (Obj.mapSeq (λ_=>(#[]:Array Value)))).get? b=some o:=λb o hb e =>
  (Heap.get?_update_other _ _ (Ne.symm hb)).trans (Heap.get?_push_of_some _ e)
 refine yp hh (let ⟨o,ho,q⟩:=hit;⟨o,keep _ _ (Z4 hTl) ho,q⟩) (let ⟨o,ho,q⟩:=hl;⟨o,keep _ _ (Z4 hll) ho,q⟩) hne hz hS2 (Nat.ne_of_gt hTl) (Nat.ne_of_gt hll) ?_
 intro h2 tk ys c kp e2 hy
 exact⟨rfl,k h2 tk ys c (λb o b2 e=>kp b o (Z4 (Heap.lt_size e)) b2 (keep b o (Z4 (Heap.lt_size e)) e)) e2 hy⟩
end
section
variable{X:Cx}{x y:Str}{p p' pos pos':Pos}{e:Expr}{t:TA}{id T U:String}{r:List V->Hp->VK->Prop}
def sh(X:Cx)(g f:Value)(r:List V->Hp->VK->Prop):Prop :=
 ∀(pins:List (Addr×Obj)) (s:Shared) (σ:St) (H:Hp) (xs:List V) (us:List Value) (Q:VK),Inv X pins σ H s->aM xs us->r xs H Q ->
  wpAny `DW X.A (call f us) (λv s1=>wpAny `DW X.A (call g [v]) (EP X pins σ Q) X.xe s1) X.xe s
theorem sM(hc:sh X (.type U) (.type T) r)(hg:Gl X x)(hm:X.mg x=none)(hv:bootBuiltins x=some (.type U))(hg2:Gl X y)(hm2:X.mg y=none)(hv2:bootBuiltins y=some (.type T))(ha:PA X [e] t)
  (hn:x ≠ "__name__") (hdb:(x==("__debug__" : Str))=false) (hn2:y ≠ "__name__") (hdb2:(y==("__debug__" : Str))=false) (he:starEach [e] X.env=(false,eval e X.env)::starEach [] X.env) :
  PE X (.Call (.Name x p) [.Call (.Name y p') [e] [] pos'] [] pos) (tCB r t):=by
 intro pins s σ H Q I h
 refine wpAny_Call_Name_kw (iW I hg hm hv ?_ hn hdb)
 refine PyProof.Rows.callWith_type1 ?_ rfl rfl
 refine Calls.spliced_cons (wpAny_Call_Name_kw (iW I hg2 hm2 hv2 ?_ hn2 hdb2))
 refine PyProof.Rows.callWith_type1 (thn (ha pos' pins s σ H _ I h) λus s1 z0=>?_) he rfl
 obtain⟨vs,H1,I1,r1,q1⟩:=z0
 exact thn (hc pins s1 σ H1 vs us Q I1 r1 q1) λv s2 h2=>Calls.spliced_nil h2
theorem rY(hc:X.calm=true):sh X (.type "list") (.type "reversed") (λxs H Q=>∃(p:Addr) (ys:List V),xs=[.ref p]/\SqL X.K H p ys/\∀l,H l=none->Q (.ref l) (upd H l (.lst ys.reverse))):=by
 intro pins s σ H xs us Q I r h
 obtain⟨l,ys,rfl,hq,q⟩:=h
 obtain⟨u,rfl,rx⟩:=k7 r
 cases rx
 obtain⟨its,rv,pl,hz⟩:=I.list hq
 have hlen:=rv.length
 have hll:= let ⟨_,ho,_⟩:=pl.isList;Heap.lt_size ho
 refine call_reversed_list pl.isList ?_
 refine pI (I.ok.hd hc) ⟨_,Heap.get?_push_size _ rfl,rfl,rfl⟩ (pl.isList.push _) (Z4 hll) (by simp_all) λh2 tk acc c kp e2 hy=>?_
 have kp2:∀b o,s.heap.get? b=some o->h2.get? b=some o:=λb o e=>kp b o (Z4 (Heap.lt_size e)) (Heap.get?_push_of_some _ e)
 have ea:acc=its.reverse.toArray:=by
  apply Array.ext
  ·rw[hy.1];simp
  ·intro i h1 h3
   have:=hy.2 i acc[i] (Array.getElem?_eq_getElem h1)
   grind
 refine⟨.ref (s.heap.push (revObj l ((its.toArray.size:Int)-1))).objs.size,_,I.laid kp2 (by simp) (show cK X.prog X.w _ h2 _ (.lst ys.reverse) from⟨by simp_all,its.reverse,c,rv.reverse,by simp_all⟩),rfl,q _ (I.hok.fresh (by simp))⟩
end
end L2
namespace DL
open PyProof.Rows L2
section
def Bh(X:Cx)(g f:Value)(h:List D->Option D):Prop :=
 ∃r,sh X g f r/\∀(O:List Addr) (H:Hp) (ds:List D) (d:D) (vs:List V) (Q:VK),(∀l∈O,Mu H l)->Reps X.K O H vs ds->h ds=some d->(∀v' H',aE H H'->Rep X.K O H' v' d->Q v' H')->r vs H Q
theorem zw(hc:Bh X (.type U) (.type T) h)(hg:Gl X x)(hm:X.mg x=none)(hv:bootBuiltins x=some (.type U))(hg2:Gl X y)(hm2:X.mg y=none)(hv2:bootBuiltins y=some (.type T))(ha:PDA X G [e] fa)
  (hn:x ≠ "__name__" := by decide) (hdb:(x==("__debug__" : Str))=false:=by decide) (hn2:y ≠ "__name__" := by decide) (hdb2:(y==("__debug__" : Str))=false:=by decide) (he:starEach [e] X.env=(false,eval e X.env)::starEach [] X.env:=by rfl) :
  PD X G (.Call (.Name x p) [.Call (.Name y p') [e] [] pos'] [] pos) (dCB h fa):=by
 obtain⟨r,hr,hc⟩:=hc
 obtain⟨_,t,pa,ha⟩:=ha
 refine⟨_,sM hr hg hm hv hg2 hm2 hv2 pa hn hdb hn2 hdb2 he,λδ O σ H Q E k=>?_⟩
 refine ha δ O σ H _ E (ah (ao k) λds z vs H1 s1 rs=>?_)
 obtain⟨d,hd,z⟩:=b5 z
 exact hc O H1 ds d vs Q (E.same s1).oo rs hd λv' H2 s2 r2=>z v' H2 (s1.trans s2) r2
noncomputable def oH:List D->Option D
 | [.list ds]=>some (.list ds.reverse)
 | _=>none
theorem sF{K:ε}{O:List Addr}{H:Hp}:∀{vs:List V} {ds:List D},Reps K O H vs ds->Reps K O H vs.reverse ds.reverse
 | _,_,.nil=>.nil
 | _,_,.cons r t=>by
  rw[U2,U2]
  exact(sF t).append (.cons r .nil)
theorem rS(hc:X.calm=true):Bh X (.type "list") (.type "reversed") oH:=by
 refine⟨_,rY hc,λO H ds d vs Q oo rs e k=>?_⟩
 unfold oH at e
 split at e
 ·cases e
  obtain⟨v,rfl,r⟩:=fE rs
  obtain⟨p,xs,rfl,h1,rx⟩:=r.lst_inv
  exact⟨p,xs,rfl,h1,λl hl=>k _ _ (aK hl) (gm oo hl (sF rx))⟩
 simp_all
end
end DL
namespace L2
open PyProof.Rows
section
variable{κ:Type}[DecidableEq κ]
noncomputable def kI(kvs:List (κ×V))(k:κ):Option V:=(kvs.find? λkv=>decide (kv.1=k)).map (·.2)
noncomputable def iR(kvs:List (κ×V))(k:κ)(v:V):List (κ×V) :=
 if (kvs.any λkv=>decide (kv.1=k))=true then kvs.map (λkv=>if kv.1=k then (kv.1,v) else kv) else kvs++[(k,v)]
theorem k9{p:κ×V}{r:List (κ×V)}{k:κ}(e:p.1=k):kI (p::r) k=some p.2:=by simp [kI,W3,e]
theorem jr{p:κ×V}{r:List (κ×V)}{k:κ}(e:¬p.1=k):kI (p::r) k=kI r k:=by simp [kI,W3,e]
theorem sn(k:κ):∀kvs:List (κ×V),(kvs.any λkv=>decide (kv.1=k))=(kI kvs k).isSome
 | []=>rfl
 | p::r=>by
  rw[List.any_cons]
  by_cases e:p.1=k
  ·simp only[k9 e,decide_eq_true e,Bool.true_or,Option.isSome_some]
  ·rw[jr e,decide_eq_false e,Bool.false_or];exact sn k r
theorem jC(kvs:List (κ×V))(k:κ)(v:V):(iR kvs k v).length<=kvs.length+1:=by
 unfold iR
 grind
theorem kj.isSome_eq(r:kj o u):o.isSome=u.isSome:=by
 cases o with
 | none=>cases u with
  | none=>rfl
  | some _=>exact(show False from r).elim
 | some _=>cases u with
  | none=>exact(show False from r).elim
  | some _=>rfl
theorem KV.val{kvs:List (κ×V)}{vs:List (κ×Value)}(r:KV kvs vs)(k:κ):kj (kI kvs k) (valueAt vs k):=by
 induction r with
 | nil=>exact True.intro
 | @cons p q ps qs h t ih =>
  obtain⟨h1,h2⟩:=h
  by_cases e:p.1=k
  ·have e':= h1.symm.trans e
   have b:valueAt (q::qs) k=some q.2:=by simp [valueAt,W3,e']
   rw[k9 e,b];exact h2
  ·have e':¬q.1=k:=λz=>e (h1.trans z)
   have b:valueAt (q::qs) k=valueAt qs k:=by simp [valueAt,W3,e']
   rw[jr e,b];exact ih
theorem KV.any(r:KV kvs vs)(k:κ):(kvs.any λkv=>decide (kv.1=k))=vs.any λkv=>decide (kv.1=k):=by
 induction r with
 | nil=>rfl
 | cons h t ih=>simp_all
theorem KV.repl(r:KV kvs vs)(k:κ)(ry:bm y u) :
  KV (kvs.map λkv=>if kv.1=k then (kv.1,y) else kv) (vs.map λkv=>if kv.1=k then (kv.1,u) else kv):=by
 induction r with
 | nil=>exact .nil
 | @cons p q ps qs h t ih =>
  rw[ω,ω]
  refine .cons ?_ ih
  grind
theorem KV.put(r:KV kvs vs)(k:κ)(ry:bm y u):KV (iR kvs k y) (stored vs k u):=by
 unfold iR stored
 rw[r.any k]
 by_cases e:(vs.any λkv=>decide (kv.1=k))=true
 ·rw[if_pos e,if_pos e];exact r.repl k ry
 ·rw[if_neg e,if_neg e];exact Paired.snoc r ⟨rfl,ry⟩
theorem KV.length{kvs:List (κ×V)}{vs:List (κ×Value)}(r:KV kvs vs):kvs.length=vs.length:=Paired.length r
end
theorem tM(r:bm (kV k) u):(ce P w).is k u=true:=by
 cases k with
 | inl i=>obtain⟨t,e⟩:=(show ∃t,u=Value.int i t from r);subst e;exact tF P w i t
 | inr x=>obtain⟨t,e⟩:=(show ∃t,u=Value.str x t from r);subst e;exact tE P w x t
theorem qi:∀{ks:List Key} {us:List Value},aM (ks.map kV) us->ItemsAre (ce P w) ks us
 | [],_,r=>by cases r;exact .nil
 | k::ks,_,r=>by
  cases r with
  | cons h t=>exact .cons (tM h) (qi t)
abbrev KT(H:Hp):List (List Key×V)->List (List Key×Addr×Value)->Prop:=Paired λp q=>p.1=q.1/\H q.2.1=some (.tup (p.1.map kV))/\bm p.2 q.2.2
theorem KT.val{H:Hp}{kvs:List (List Key×V)}{xs:List (List Key×Addr×Value)}(r:KT H kvs xs)(k:List Key):kj (kI kvs k) ((atKey xs k).map (·.2)):=by
 induction r with
 | nil=>exact True.intro
 | @cons p q ps qs h t ih =>
  obtain⟨h1,_,h2⟩:=h
  by_cases e:p.1=k
  ·have e':= h1.symm.trans e
   have b:atKey (q::qs) k=some q.2:=by simp [atKey,W3,e']
   rw[k9 e,b];exact h2
  ·have e':¬q.1=k:=λz=>e (h1.trans z)
   have b:atKey (q::qs) k=atKey qs k:=by simp [atKey,W3,e']
   rw[jr e,b];exact ih
theorem KT.repl(r:KT H kvs xs)(k:List Key)(ry:bm y u) :
  KT H (kvs.map λkv=>if kv.1=k then (kv.1,y) else kv) (xs.map (putAt k u)):=by
 induction r with
 | nil=>exact .nil
 | @cons p q ps qs h t ih =>
  rw[ω,ω]
  refine .cons ?_ ih
  obtain⟨h1,h2,h3⟩:=h
  unfold putAt
  grind
theorem KT.put(r:KT H kvs xs)(k:List Key)(hb:H b=some (.tup (k.map kV)))(ry:bm y u) :
  KT H (iR kvs k y) (storedH xs k b u):=by
 have e:(kvs.any λkv=>decide (kv.1=k))=(atKey xs k).isSome:=by
  rw[sn,(r.val k).isSome_eq,Option.isSome_map]
 unfold iR storedH
 rw[e]
 by_cases q:(atKey xs k).isSome=true
 ·rw[if_pos q,if_pos q];exact r.repl k ry
 ·rw[if_neg q,if_neg q];exact Paired.snoc r ⟨rfl,hb,ry⟩
theorem KT.keeps(r:KT H kvs xs)(ht:∀b ys,H b=some (.tup ys)->H' b=some (.tup ys)):KT H' kvs xs :=
 Paired.mapP r λ_ _ z=>⟨z.1,ht _ _ z.2.1,z.2.2⟩
section
theorem rd_of(ok:HOk P w H h)(e:Rd H a u):cK P w H h a u:=e.ok ok
theorem o8(ok:HOk P w H h)(e:Rd H a (.dK kvs)):kvs.length<=sizeLine/\(a==sysModules)=false/\∃vs,KV kvs vs/\h.DictOf (ce P w) a vs :=
 show cK P w H h a (.dK kvs) from rd_of ok e
theorem dk_of(ok:HOk P w H h)(e:H a=some (.dK kvs)):kvs.length<=sizeLine/\(a==sysModules)=false/\∃vs,KV kvs vs/\h.DictOf (ce P w) a vs:=o8 ok (.inl e)
theorem rC(ok:HOk P w H h)(e:H a=some (.tup (ks.map kV))):(tupleKind (ce P w)).is h ks a:=by
 obtain⟨_,its,r,o,h1,h2,n,h3⟩:=(show cK P w H h a (.tup (ks.map kV)) from ok a _ e)
 exact⟨o,its.toArray,n,h1,h2,h3,by simpa using qi r⟩
theorem wA(ok:HOk P w H h)(e:Rd H a (.dT kvs)):kvs.length<=sizeLine/\(a==sysModules)=false /\
  ∃xs,KT H kvs xs/\h.DictOfH (tupleKind (ce P w)) a xs:=by
 obtain⟨z,y,xs,r,o,es,ep,h1,h2,h3,h4,h5⟩:=(show cK P w H h a (.dT kvs) from rd_of ok e)
 refine⟨z,y,xs,r,o,es,ep,h1,h2,h3,h4,λx hx=>?_,h5⟩
 have all:∀{l:List (List Key×V)} {m:List (List Key×Addr×Value)},KT H l m->∀x∈m,(tupleKind (ce P w)).is h x.1 x.2.1:=by
  intro l m q
  induction q with
  | nil=>intro x hx;exact nomatch hx
  | @cons p q ps qs hq t ih =>
   intro x hx
   rcases ψ.mp hx with e | hx
   ·subst e
    exact rC ok (by rw[<-hq.1];exact hq.2.1)
   ·exact ih x hx
 exact all r x hx
theorem dt_of(ok:HOk P w H h)(e:H a=some (.dT kvs)):kvs.length<=sizeLine/\(a==sysModules)=false /\
  ∃xs,KT H kvs xs/\h.DictOfH (tupleKind (ce P w)) a xs:=wA ok (.inl e)
end
def yc(H:Hp)(a:Addr)(y:V)(r:Option V):Prop :=
 (∃kvs k,Rd H a (.dK kvs)/\y=kV k/\r=kI kvs k)\/∃kvs k b,Rd H a (.dT kvs)/\y=.ref b/\H b=some (.tup (k.map kV))/\r=kI kvs k
def DPut(H:Hp)(a:Addr)(y v:V)(H':Hp):Prop :=
 (∃kvs k,H a=some (.dK kvs)/\y=kV k/\kvs.length<sizeLine/\H'=upd H a (.dK (iR kvs k v))) \/
 ∃kvs k b,H a=some (.dT kvs)/\y=.ref b/\H b=some (.tup (k.map kV))/\kvs.length<sizeLine/\H'=upd H a (.dT (iR kvs k v))
section
theorem Inv.big(I:`DX):sysModules<s.heap.objs.size:=by
 have h:= (I.mod.glob.keeps I.bk).lt
 exact Nat.lt_trans (by decide) h
theorem xO(hu:A.units+1<cLine)(I:`DX)(g:yc H a y (some v))(ry:bm y u)(h:∀w' s',Inv X pins σ H s'->bm v w'->Q w' s') :
  wpAny `DW A (getItem (.ref a) u) Q E s:=by
 rcases g with ⟨kvs,k,e,ey,l⟩ | ⟨kvs,k,b,e,ey,eb,l⟩
 ·subst ey
  obtain⟨z,hd,vs,rel,dd⟩:=o8 I.hok e
  obtain⟨w',hw,rw'⟩:=kj.some_of (by rw[l];exact rel.val k)
  exact wpAny_getItem_of (tM ry) dd.mapOf hw (h w' _ (I.tok _) rw')
 ·subst ey
  cases (show u=Value.ref b from ry)
  obtain⟨z,hd,xs,rel,dd⟩:=wA I.hok e
  obtain⟨w',hw,rw'⟩:=kj.some_of (by rw[l];exact rel.val k)
  obtain⟨p,hp,hp2⟩:=Option.map_eq_some_iff.mp hw
  refine wpAny_getItem_heap (tupleKind_room_in1 hu) (rC I.hok eb) dd hp ?_
  rw[hp2]
  exact h w' _ (I.tok _) rw'
theorem d_in(hu:A.units+1<cLine)(I:`DX)(g:yc H a y o)(ry:bm y u)(h:∀s',Inv X pins σ H s'->Q (.bool o.isSome) s') :
  wpAny `DW A (compareOp .In u (.ref a)) Q E s:=by
 rcases g with ⟨kvs,k,e,ey,l⟩ | ⟨kvs,k,b,e,ey,eb,l⟩
 ·subst ey
  obtain⟨z,hd,vs,rel,dd⟩:=o8 I.hok e
  refine wpAny_in_of (tM ry) hd dd.mapOf ?_
  rw[<-(rel.val k).isSome_eq,<-l]
  exact h _ (I.tok _)
 ·subst ey
  cases (show u=Value.ref b from ry)
  obtain⟨z,hd,xs,rel,dd⟩:=wA I.hok e
  refine wpAny_in_heap (tupleKind_room_in1 hu) (rC I.hok eb) hd dd ?_
  have q:=(rel.val k).isSome_eq
  rw[Option.isSome_map] at q
  rw[<-q,<-l]
  exact h _ (I.tok _)
theorem rW(I:`DX)(mu:Mut (H a))(hs:Heap.SameBut a s.heap h')(he:∃q,h'.get? a=some q)(new:cK X.prog X.w (upd H a ob) h' a ob) :
  Inv X pins σ (upd H a ob) { s with heap:=h',toks:=t' } :=
 I.write (x:=a) (e:=a) mu (.inl rfl) (λb q hb z=>(hs.2 b hb).trans z) he new
theorem uY(z:kvs.length<=sizeLine)(hd:(a==sysModules)=false)(rel:KV kvs vs)(dd:h'.DictOf (ce P w) a vs) :
  cK P w H' h' a (.dK kvs):=⟨z,hd,vs,rel,dd⟩
theorem xN(hu:A.units+1<cLine)(I:`DX)(g:DPut H a y v H')(ry:bm y u)(rv:bm v r)(h:∀s',Inv X pins σ H' s'->Q () s') :
  wpAny `DW A (setItem (.ref a) u r) Q E s:=by
 rcases g with ⟨kvs,k,e,ey,l,eH⟩ | ⟨kvs,k,b,e,ey,eb,l,eH⟩
 ·subst ey eH
  obtain⟨z,hd,vs,rel,dd⟩:=dk_of I.hok e
  have hz:vs.length<=sizeLine:=by rw[<-rel.length];exact z
  have hl:(iR kvs k v).length<=sizeLine:=by have:=jC kvs k v;omega
  refine wpAny_setItem_pairs (tM ry) dd λh' dd' hs=>h _ ?_
  have he:∃q,h'.get? a=some q:=let ⟨q,_,_,hq,_⟩:=dd';⟨q,hq⟩
  exact rW I (by rw[e];exact True.intro) hs he (uY hl hd (rel.put k rv) dd')
 ·subst ey eH
  cases (show u=Value.ref b from ry)
  obtain⟨z,hd,xs,rel,dd⟩:=dt_of I.hok e
  have hz:xs.length<=sizeLine:=by rw[<-Paired.length rel];exact z
  have hl:(iR kvs k v).length<=sizeLine:=by have:=jC kvs k v;omega
  refine wpAny_setItem_heap (tupleKind_room_in1 hu) (rC I.hok eb) dd λh' dd' hs=>h _ ?_
  obtain⟨q,es,ep,hq,h2,h3,h4,_,h5⟩:=dd'
  refine rW I (by rw[e];exact True.intro) hs ⟨q,hq⟩ ⟨hl,hd,_,(rel.put k eb rv).keeps λc ys ec=>?_,q,es,ep,hq,h2,h3,h4,h5⟩
  rw[upd_ne (vS ec e (λz=>nomatch z))]
  exact ec
end
section
end
def DV(i:Expr):Prop:=∀ov iv,subscripted i false ov iv=operate [ov,iv] (getItem ov iv)
theorem Bv{prog:Program}{w:World}{A:Around}{E:Value->Shared->Prop}{s:Shared}{env:Env}{value slice:Expr}{pos:Pos}{T id:String}{Q:Value->Shared->Prop}
  (hl:typeLookup (.type T) "__getitem__" = pure (some (.builtin id))) (hs:DV slice)
  (h:wpAny (model prog w) A (eval value env) (λo s₁=>wpAny (model prog w) A (eval slice env) (λi s₂=>s₂.TypeIs o T/\wpAny (model prog w) A (getItem o i) Q E s₂) E s₁) E s) :
  wpAny (model prog w) A (eval (.Subscript value slice pos) env) Q E s:=by
 refine Subscript_ (wpAny_mono h (λo s₁ h₁=>wpAny_mono h₁ (λi s₂ h₂=>?_) λ_ _ x=>x) λ_ _ x=>x)
 obtain⟨hT,h₂⟩:=h₂
 refine wpAny_bind ?_
 refine wpAny_bind (wpAny_specialOf hT hl ?_)
 have fin:wpAny (model prog w) A (subscripted slice false o i) (λr s₃=>wpAny (model prog w) A (letTemporaryGo value o r >>= λ_=>pure r) Q E s₃) E s₂:=by
  rw[hs o i]
  exact wpAny_operating (wpAny_mono h₂ (λr s₃ h₃=>wpAny_bind (wpAny_letTemporaryGo (wpAny_pure h₃))) λ_ _ x=>x)
 first
  | exact wpAny_pure (wpAny_bind fin)
  | exact wpAny_bind (wpAny_pure (wpAny_bind fin))
  | exact wpAny_bind fin
theorem t5(I:`DX)(g:yc H a y o):s.TypeIs (.ref a) "dict" := by
 rcases g with ⟨kvs,k,e,_,_⟩ | ⟨kvs,k,b,e,_,_,_⟩
 ·obtain⟨_,_,vs,_,dd⟩:=o8 I.hok e
  exact dd.typeIs
 ·obtain⟨_,_,xs,_,dd⟩:=wA I.hok e
  exact dd.typeIs
noncomputable def tDGet(td ty:TE):TE:=λσ H Q=>td σ H λx H1=>ty σ H1 λy H2=>∃a v,x=.ref a/\yc H2 a y (some v)/\Q v H2
noncomputable def tDIn(ty td:TE):TE:=λσ H Q=>ty σ H λy H1=>td σ H1 λx H2=>∃a o,x=.ref a/\yc H2 a y o/\Q (.bl o.isSome) H2
noncomputable def sDPut(td ty tv:TE):TS:=λD σ H=>tv σ H λv H1=>td σ H1 λx H2=>ty σ H2 λy H3=>∃a H4,x=.ref a/\DPut H3 a y v H4/\D.nx σ H4
section
theorem vN(hu:X.A.units+1<cLine)(ho:PE X o td)(hi:PE X i ty)(hs:DV i):PE X (.Subscript o i pos) (tDGet td ty):=by
 intro pins s σ H Q I h
 refine Bv PySem.F.slot_dict_getitem.lookup hs (thn (ho pins s σ H _ I h) λu s1 z0=>?_)
 obtain⟨x,H1,I1,rx,q1⟩:=z0
 refine thn (hi pins s1 σ H1 _ I1 q1) λiv s2 z1=>?_
 obtain⟨y,H2,I2,ry,a,v,ex,g,q2⟩:=z1
 subst ex
 obtain rfl:u=Value.ref a:=rx
 exact⟨t5 I2 g,xO hu I2 g ry λw' s3 I3 rw'=>⟨v,H2,I3,rw',q2⟩⟩
theorem pc_din(hu:X.A.units+1<cLine)(hi:PE X i ty)(ho:PE X o td):PC X .In i o (tDIn ty td):=by
 intro pins s σ H Q I h
 refine thn (hi pins s σ H _ I h) λiv s1 z0=>?_
 obtain⟨y,H1,I1,ry,q1⟩:=z0
 refine thn (ho pins s1 σ H1 _ I1 q1) λu s2 z1=>?_
 obtain⟨x,H2,I2,rx,a,ov,ex,g,q2⟩:=z1
 subst ex
 obtain rfl:u=Value.ref a:=rx
 exact d_in hu I2 g ry λs3 I3=>⟨.bl ov.isSome,H2,I3,rfl,q2⟩
theorem B4(hu:X.A.units+1<cLine)(ho:PE X o td)(hi:PE X i ty)(hv:PE X value tv)(hs:swapsWith value (some (.Subscript o i pos')) pos.line X.env=pure false) :
  PS X (.Assign [.Subscript o i pos'] value pos) (sDPut td ty tv):=by
 intro pins s σ H D I h
 refine wpAny_Assign_Subscript (thn (hv pins s σ H _ I h) λr s1 z0=>?_) hs
 obtain⟨v,H1,I1,rv,q1⟩:=z0
 refine thn (ho pins s1 σ H1 _ I1 q1) λu s2 z1=>?_
 obtain⟨x,H2,I2,rx,q2⟩:=z1
 refine thn (hi pins s2 σ H2 _ I2 q2) λiv s3 z2=>?_
 obtain⟨y,H3,I3,ry,a,H4,ex,g,q3⟩:=z2
 subst ex
 obtain rfl:u=Value.ref a:=rx
 exact xN hu I3 g ry rv λs4 I4=>⟨σ,H4,I4,q3⟩
end
theorem t4(h:Heap)(hb:sysModules<h.objs.size):cK P w H (h.push { cls:=.type "dict",data:=.dict #[] }) h.objs.size (.dK []) :=
 ⟨Y5 _,beq_eq_false_iff_ne.mpr (Ne.symm (Z4 hb)),[],.nil,Heap.DictOf.new h⟩
noncomputable def tDNewK:TE:=λ_ H Q=>∀p,H p=none->Q (.ref p) (upd H p (.dK []))
section
theorem ze:PE X (.Dict [] [] pos) tDNewK:=λpins s σ H Q I h =>
 wpAny_Dict_empty ⟨.ref s.heap.objs.size,_,I.laid (a:=s.heap.objs.size) (o:=.dK []) (t':=s.toks) (λ_ _ q=>Heap.get?_push_of_some _ q) (ξ _) (t4 s.heap I.big),rfl,h _ (I.hok.fresh (ξ _))⟩
end
def qJ:List (TE×TE)->St->Hp->(List (V×V)->Hp->Prop)->Prop
 | [],_,H,Q=>Q [] H
 | (tk,tv)::r,σ,H,Q=>tk σ H λx H1=>tv σ H1 λy H2=>qJ r σ H2 λps H3=>Q ((x,y)::ps) H3
abbrev VV:List (V×V)->List (Value×Value)->Prop:=Paired λp q=>bm p.1 q.1/\bm p.2 q.2
def PPs(X:Cx)(pos:Pos)(keys:List (Option Expr))(values:List Expr)(trs:List (TE×TE)):Prop :=
 ∀(pins:List (Addr×Obj)) (s:Shared) (σ:St) (H:Hp) (Q:List (V×V)->Hp->Prop),Inv X pins σ H s->qJ trs σ H Q ->
  wpAny `DW X.A (evalPairs (pairTrees keys values X.env pos)) (λvs s'=>∃ps H',Inv X pins σ H' s'/\VV ps vs/\Q ps H') X.xe s
theorem B6:PPs X pos [] [] []:=λpins s σ H Q I h=>pairTrees_nil_walk ⟨[],H,I,.nil,h⟩
theorem yU(hk:PE X k tk)(hv:PE X v tv)(hr:PPs X pos ks vs trs) :
  PPs X pos (some k::ks) (v::vs) ((tk,tv)::trs):=λpins s σ H Q I h =>
 pairTrees_cons_walk (thn (hk pins s σ H _ I h) λu s1 ⟨x,H1,I1,rx,q1⟩=>thn (hv pins s1 σ H1 _ I1 q1) λw2 s2 ⟨y,H2,I2,ry,q2⟩ =>
  thn (hr pins s2 σ H2 _ I2 q2) λws s3 ⟨ps,H3,I3,rel,q3⟩=>⟨(x,y)::ps,H3,I3,.cons ⟨rx,ry⟩ rel,q3⟩)
noncomputable def iU(kvs more:List (Key×V)):List (Key×V):=more.foldl (λacc kv=>iR acc kv.1 kv.2) kvs
theorem KV.merge:∀{more:List (Key×V)} {rs:List (Key×Value)} {kvs:List (Key×V)} {vs:List (Key×Value)},KV more rs->KV kvs vs->KV (iU kvs more) (merged vs rs):=by
 intro more rs kvs vs r
 induction r generalizing kvs vs with
 | nil=>intro q;exact q
 | @cons p q ps qs h t ih =>
  intro r0
  have e:KV (iR kvs p.1 p.2) (stored vs q.1 q.2):=by
   have:=r0.put p.1 h.2
   simp_all
  exact ih e
theorem kA:∀(more kvs:List (Key×V)),(iU kvs more).length<=kvs.length+more.length
 | [],kvs=>by show kvs.length<=kvs.length+0;omega
 | p::r,kvs=>by
  have h1:=kA r (iR kvs p.1 p.2)
  have h2:=jC kvs p.1 p.2
  show(iU (iR kvs p.1 p.2) r).length<=_
  grind
theorem pz:∀{kvs:List (Key×V)} {ws:List (Value×Value)},VV (kvs.map λkv=>(kV kv.1,kv.2)) ws->∃rs,Carries (ce P w) ws rs/\KV kvs rs
 | [],_,r=>by cases r;exact⟨[],True.intro,.nil⟩
 | p::kvs,_,r=>by
  cases r with
  | @cons a b as bs h t =>
   obtain⟨rs,c,q⟩:=pz t
   obtain⟨b1,b2⟩:=b
   exact⟨(p.1,b2)::rs,⟨tM h.1,rfl,c⟩,.cons ⟨rfl,h.2⟩ q⟩
noncomputable def tDisp(trs:List (TE×TE)):TE:=λσ H Q=>∀p,H p=none->qJ trs σ (upd H p (.dK [])) λps H2=>H2 p=some (.dK [])/\∃kvs:List (Key×V),ps=kvs.map (λkv=>(kV kv.1,kv.2))/\kvs.length<=15/\Q (.ref p) (upd H2 p (.dK (iU [] kvs)))
theorem Cc(h:PPs X pos keys values trs)(hall:keys.all (·.isSome)=true)(hl:keys.length=values.length)(h0:keys≠[])
  (h15:keys.length<=15):PE X (.Dict keys values pos) (tDisp trs):=by
 intro pins s σ H Q I q
 have hn:=I.hok.fresh (ξ s.heap.objs.size)
 have I1:=I.laid (t':=s.toks) (λ_ _ q=>Heap.get?_push_of_some _ q) (ξ _) (t4 s.heap I.big)
 refine wpAny_Dict_walk (knd:=ce X.prog X.w) hall hl h0 h15 (thn (h pins _ σ _ _ I1 (q _ hn)) λws s2 z0=>?_)
 obtain⟨ps,H2,I2,rel,e,kvs,ep,lk,q2⟩:=z0
 subst ep
 obtain⟨rs,c,rk⟩:=pz rel
 obtain⟨z,hd,vs0,r0,dd⟩:=dk_of I2.hok e
 cases r0
 refine⟨rs,c,dd,λh' dd' hs=>⟨.ref s.heap.objs.size,_,?_,rfl,q2⟩⟩
 have hz:(iU [] kvs).length<=sizeLine:=by
  have h1:=kA kvs []
  rw[List.length_nil] at h1
  rw[sizeLine_eq];omega
 have he:∃q,h'.get? s.heap.objs.size=some q:=let ⟨q,_,_,hq,_⟩:=dd';⟨q,hq⟩
 exact rW I2 (by rw[e];exact True.intro) hs he (uY hz hd (rk.merge .nil) dd')
section
end
section
end
section
theorem A8(I:`DX)(e:Rd H a (.dK kvs))(h:∀p s',H p=none->Inv X pins σ (upd H p (.dK kvs)) s'->Q (.ref p) s'):wpAny `DW A (call (.type "dict") [.ref a]) Q E s:=by
 obtain⟨z,hd,vs,rel,dd⟩:=o8 I.hok e
 refine kt_call_dict hd dd (by rw[<-rel.length];exact z) λh' dd' hs=>?_
 refine h _ _ (I.hok.fresh (ξ _)) (I.laid (λb q hq=>?_) (ξ _) (uY z (beq_eq_false_iff_ne.mpr (Ne.symm (Z4 I.big))) rel dd'))
 exact(hs.2 b (Z4 (Heap.lt_size hq))).trans (Heap.get?_push_of_some _ hq)
end
section
end
end L2
namespace DL
open PyProof.Rows L2
noncomputable def bG:D->Option Key
 | .int i=>some (.inl i)
 | .str x=>some (.inr x)
 | _=>none
theorem gv(k:Key):bG (gw k)=some k:=by cases k<;>rfl
theorem j3(h:bG d=some k):d=gw k:=by
 cases d<;>cases h<;>rfl
noncomputable def ci(es:List (Key×D))(k:Key):Option D:=(es.find? λe=>decide (e.1=k)).map (·.2)
noncomputable def putD(es:List (Key×D))(k:Key)(d:D):List (Key×D) :=
 if (es.any λe=>decide (e.1=k))=true then es.map (λe=>if e.1=k then (e.1,d) else e) else es++[(k,d)]
noncomputable def bE:D->D->Option D
 | .dict X,y=>match bG y with
  | some k=>(X.find? λe=>decide (bG e.1=some k)).map (·.2)
  | none=>none
 | _,_=>none
section
variable{K:ε}{O:List Addr}{H:Hp}
theorem k8:∀{kvs:List (Key×V)} {es:List (Key×D)} {k:Key} {d:D},kvs.map (·.1)=es.map (·.1)->Reps K O H (kvs.map (·.2)) (es.map (·.2))->ci es k=some d->∃v,kI kvs k=some v/\Rep K O H v d
 | [],[],_,_,_,_,h=>by cases h
 | [],_::_,_,_,hk,_,_=>by cases hk
 | _::_,[],_,_,hk,_,_=>by cases hk
 | p::kvs,e::es,k,d,hk,r,h=>by
  simp only[ω,List.cons.injEq] at hk
  cases r with
  | cons r1 rs =>
   by_cases c:e.1=k
   ·have h2:e.2=d:=by
     have:ci (e::es) k=some e.2:=by simp [ci,W3,c]
     simp_all
    rw[<-h2]
    exact⟨p.2,k9 (by simp_all),r1⟩
   ·have:ci (e::es) k=ci es k:=by simp [ci,W3,c]
    rw[this] at h
    obtain⟨v,h1,h2⟩:=k8 hk.2 rs h
    exact⟨v,by rw[jr (by simp_all)];exact h1,h2⟩
theorem uc:∀{l:List (Key×α)} {m:List (Key×β)} (k:Key),l.map (·.1)=m.map (·.1)->(l.any λe=>decide (e.1=k))=m.any λe=>decide (e.1=k)
 | [],[],_,_=>rfl
 | [],_::_,_,h=>by cases h
 | _::_,[],_,h=>by cases h
 | p::l,q::m,k,h=>by
  simp only[ω,List.cons.injEq] at h
  rw[List.any_cons,List.any_cons,h.1,uc k h.2]
theorem vH{kvs:List (Key×V)}{es:List (Key×D)}{k:Key}{v:V}{d:D}(hk:kvs.map (·.1)=es.map (·.1))(r:Reps K O H (kvs.map (·.2)) (es.map (·.2)))(rv:Rep K O H v d) :
  (iR kvs k v).map (·.1)=(putD es k d).map (·.1)/\Reps K O H ((iR kvs k v).map (·.2)) ((putD es k d).map (·.2)):=by
 unfold iR putD
 rw[uc k hk]
 by_cases c:(es.any λe=>decide (e.1=k))=true
 ·rw[if_pos c,if_pos c]
  clear c
  induction kvs generalizing es with
  | nil =>
   simp_all
  | cons p kvs ih =>
   cases es with
   | nil=>cases hk
   | cons e es =>
    simp only[ω,List.cons.injEq] at hk
    cases r with
    | cons r1 rs =>
     obtain⟨i1,i2⟩:=ih hk.2 rs
     simp only[ω]
     by_cases c:e.1=k
     ·have c':p.1=k:=by simp_all
      rw[if_pos c,if_pos c']
      exact⟨by simp_all,.cons rv i2⟩
     ·have c':¬p.1=k:=by simp_all
      rw[if_neg c,if_neg c']
      exact⟨by simp_all,.cons r1 i2⟩
 ·rw[if_neg c,if_neg c]
  refine⟨by simp_all,?_⟩
  rw[Z0,Z0]
  exact r.append (.cons rv .nil)
theorem Av{v y:V}{x yd d:D}(hx:Rep K O H v x)(hy:Rep K O H y yd)(h:bE x yd=some d):∃a w,v=.ref a/\yc H a y (some w)/\Rep K O H w d:=by
 match x,hx,h with
 | .dict X,hx,h =>
  have hi:jh (.dict X)=true:=by
   match X,h with
   | [],_=>rfl
   | [(.none,z)],h =>
    have h:(match bG yd with | some k=>(([((PyData.none,z):D×D)].find? λe=>decide (bG e.1=some k)).map (·.2)) | none=>none)=some d:=h
    cases hk:bG yd with
    | none=>simp_all
    | some k=>rw[hk] at h;cases h
   | [(.int _,_)],_=>rfl
   | [(.bool _,_)],_=>rfl
   | [(.str _,_)],_=>rfl
   | [(.list _,_)],_=>rfl
   | [(.tuple _,_)],_=>rfl
   | [(.dict _,_)],_=>rfl
   | _::_::_,_=>simp [jh]
  obtain⟨a,kvs,es,rfl,rfl,hr,hn,hk,r⟩:=hx.dct_inv hi
  have h:(match bG yd with | some k=>((es.map λe=>(gw e.1,e.2)).find? λe=>decide (bG e.1=some k)).map (·.2) | none=>none)=some d:=h
  cases hkk:bG yd with
  | none=>simp_all
  | some k =>
   rw[hkk] at h
   have h:((es.map λe=>(gw e.1,e.2)).find? λe=>decide (bG e.1=some k)).map (·.2)=some d:=h
   have hv:ci es k=some d:=by
    rw[<-h]
    rw[List.find?_map]
    simp only[Option.map_map]
    have:((λe:D×D=>decide (bG e.1=some k))∘λe:Key×D=>(gw e.1,e.2))=λe:Key×D=>decide (e.1=k):=by
     funext e
     show decide (bG (gw e.1)=some k)=_
     rw[gv]
     simp
    rw[this]
    rfl
   obtain⟨w,h1,h2⟩:=k8 hk r hv
   have ey:y=kV k:=by
    rw[j3 hkk] at hy
    cases k with
    | inl i=>exact hy.int_inv
    | inr s=>exact hy.str_inv
   exact⟨a,w,rfl,.inl ⟨kvs,k,hr,ey,h1.symm⟩,h2⟩
end
section
variable{X:Cx}{G:XD->Hp->Prop}{a b o i e:Expr}{f g:DS->M D}{pos pos' lp:Pos}
theorem CJ(hu:X.A.units+1<cLine)(ho:PD X G o f)(hi:PD X G i g)(hs:DV i):PD X G (.Subscript o i pos) (d2 bE f g):=by
 obtain⟨ta,pa,ha⟩:=ho
 obtain⟨tb,pb,hb⟩:=hi
 refine⟨_,vN hu pa pb hs,λδ O σ H Q E k=>?_⟩
 refine ha δ O σ H _ E (ah (ao k) λx z v H1 s1 rx=>?_)
 refine hb δ O σ H1 _ (E.same s1) (ah (ao z) λy z2 u H2 s2 ry=>?_)
 obtain⟨d,hd,z3⟩:=b5 z2
 obtain⟨a,w,rfl,h1,h2⟩:=Av (rx.same s2) ry hd
 exact⟨a,w,rfl,h1,z3 w H2 (s1.trans s2) h2⟩
end
section
variable{K:ε}{Hr:Hp}{R0:List Addr}{P0:Addr->Prop}{H0 H H':Hp}{O:List Addr}{σ:St}{δ:DS}
theorem Mu.dct{H:Hp}{l:Addr}{xs:List (Key×V)}(h:H l=Option.some (HO.dK xs)):Mu H l:=.inr (.inl ⟨xs,h⟩)
theorem Ev.ownD{l:Addr}(E:Ev K Hr O H σ δ)(hl:H l=none):Ev K Hr (l::O) (upd H l (HO.dK [])) σ δ:=by
 refine⟨λb o h=>by have q:=E.root b o h;rw[upd_ne (aC q hl)];exact q,λa ha=>?_,E.len,λj s h=>?_,E.dis⟩
 ·rcases ψ.mp ha with rfl | ha
  ·exact .dct aA
  ·exact(E.oo a ha).new hl
 ·exact(E.at_ j s h).to (To.own hl) (As hl) λa xs h1 h2 _ _=>⟨θ _ h1,by rw[upd_ne (aC h2 hl)];exact h2⟩
theorem EI.newD{i:Nat}{l:Addr}(E:EI K Hr R0 P0 H0 O H σ δ)(hl:H l=none):EI K Hr R0 P0 H0 (l::O) (upd H l (.dK [])) (σ.set i (some (.ref l))) (δ.set i (.od [])):=by
 have nO:= nin E.ev.oo hl
 have EO:=E.ev.ownD hl
 refine⟨⟨EO.root,EO.oo,by rw[Λ,Λ];exact E.ev.len,λj s h=>?_,λj k a ds es hjk h1 h2 h3 h4=>?_⟩,λa ha=>?_,λb o n h=>?_,λa ha=>?_,λj ds a h1 ho h2=>?_,λa ha=>θ _ (E.sub a ha)⟩
 ·rw[aW] at h ⊢
  by_cases hij:i=j
  ·rw[if_pos hij] at h ⊢
   by_cases hz:i<δ.length
   ·rw[if_pos hz] at h
    rw[if_pos (by rw[E.ev.len];exact hz)]
    cases h
    exact⟨l,[],rfl,υ,aA,rfl,.nil⟩
   simp_all
  ·rw[if_neg hij] at h ⊢
   exact EO.at_ j s h
 ·rw[aW] at h1 h2 h3 h4
  by_cases hij:i=j
  ·simp_all
  ·rw[if_neg hij] at h1 h3
   by_cases hik:i=k
   ·simp_all
   ·rw[if_neg hik] at h2 h4
    exact E.ev.dis j k a ds es hjk h1 h2 h3 h4
 ·rcases ψ.mp ha with rfl | ha
  ·refine .inr ?_
   cases q:Hr a with
   | none=>rfl
   | some o =>
    rw[E.ev.root a o q] at hl
    cases hl
  ·exact E.omr a ha
 ·have q:=E.keep b o n h
  rw[upd_ne (aC q hl)]
  exact q
 ·rcases ψ.mp ha with rfl | ha
  ·by_cases hp:P0 a
   ·simp_all
   ·refine .inr (.inr ?_)
    cases q:H0 a with
    | none=>rfl
    | some o =>
     rw[E.keep a o hp q] at hl
     cases hl
  ·exact E.om a ha
 ·rw[aW] at h1 h2
  by_cases hij:i=j
  ·rw[if_pos hij] at h2
   have ha:a=l:=by
    simp_all
   rw[ha]
   exact λz=>nO (E.sub l z)
  ·rw[if_neg hij] at h1 h2
   exact E.nr1 j ds a h1 ho h2
noncomputable def q0(i:Nat)(δ:DS):Bool:=(Ψ δ.length).all λj=>decide (j=i)||(match δ[j]? with | some (.od _)=>false | _=>true)
theorem CV(h:q0 i δ=true)(hj:δ[j]?=some (.od es)):j=i:=by
 have hl:= (ρ.mp hj).1
 have:=U6.mp h j (List.mem_range.mpr hl)
 simp_all
theorem EI.putD{i:Nat}{l:Addr}{kvs kvs':List (Key×V)}{es es':List (Key×D)}(E:EI K Hr R0 P0 H0 O H σ δ)(hd:δ[i]?=some (.od es))(h1:q0 i δ=true)(hσ:σ[i]?=some (some (.ref l)))(hl:H l=some (.dK kvs))(hk:kvs'.map (·.1)=es'.map (·.1))(ry:Reps K O H (kvs'.map (·.2)) (es'.map (·.2))) :
  EI K Hr R0 P0 H0 O (upd H l (.dK kvs')) σ (δ.set i (.od es')):=by
 obtain⟨l',xs',q1,lO,q3,_⟩:=E.ev.at_ i _ hd
 rw[hσ] at q1
 cases q1
 have tO:To O O H (upd H l (.dK kvs')):=To.setD hl lO
 refine⟨⟨λb o h=>?_,λa ha=>?_,by rw[Λ];exact E.ev.len,λj s h=>?_,λj k a e1 e2 hjk h1 h2 h3=>?_⟩,E.omr,λb o n h=>?_,E.om,λj es a h1 ho h2=>?_,E.sub⟩
 ·have q:=E.ev.root b o h
  have hne:b≠l:=λz=>by
   subst z
   rcases E.omr b lO with w | w
   ·exact E.nr1 i _ b hd trivial hσ w
   ·rw[h] at w;cases w
  rw[upd_ne hne]
  exact q
 ·by_cases hb:a=l
  ·rw[hb];exact .dct aA
  ·exact(E.ev.oo a ha).upd_ne hb
 ·rw[aW] at h
  by_cases hij:i=j
  ·rw[if_pos hij] at h
   split at h
   ·cases h
    rw[<-hij,hσ]
    exact⟨l,_,rfl,lO,aA,hk,ry.to tO⟩
   ·cases h
  ·rw[if_neg hij] at h
   have q:=E.ev.at_ j s h
   cases s with
   | un=>trivial
   | ex a=>exact q
   | vl d =>
    obtain⟨v,h1,r⟩:=q
    exact⟨v,h1,r.to tO⟩
   | ow ds =>
    obtain⟨a,xs,g1,g2,g3,r⟩:=q
    exact⟨a,xs,g1,g2,by rw[upd_ne (vS g3 hl (by intro z;cases z))];exact g3,r.to tO⟩
   | od es2=>exact absurd (CV h1 h).symm hij
 ·have old:∀(j:Nat) (es:List D),(δ.set i (.od es'))[j]?=some (.ow es)->δ[j]?=some (.ow es):=λj es h=>by
   rw[aW] at h
   by_cases hij:i=j
   ·rw[if_pos hij] at h
    split at h<;>cases h
   ·rw[if_neg hij] at h;exact h
  exact E.ev.dis j k a e1 e2 hjk (old j _ h1) (old k _ h2) h3
 ·have q:=E.keep b o n h
  have hne:b≠l:=λz=>by
   subst z
   rcases E.om b lO with w | w | w
   ·exact E.nr1 i _ b hd trivial hσ w
   ·exact n w
   ·rw[h] at w;cases w
  rw[upd_ne hne]
  exact q
 ·rw[aW] at h1
  by_cases hij:i=j
  ·exact E.nr1 i _ a hd trivial (by rw[hij];exact h2)
  ·rw[if_neg hij] at h1
   exact E.nr1 j es a h1 ho h2
end
section
variable{X:Cx}{G:XD->Hp->Prop}{a b o ix e:Expr}{f g:DS->M D}{pos pos' lp tpos:Pos}
noncomputable def v9(i:Nat):DS->M Out:=λδ=>M.ret (.nx (δ.set i (.od [])))
theorem CF{i:Nat}{x:Str}(hN:X.N.Nodup)(hi:X.N[i]?=some x)(hx:Loc X.env.scope x)(hs:swapsWith (.Dict [] [] lp) (some (.Name x pos')) pos.line X.env=pure false:=by rfl)(hf:X.fn x=true\/X.env.scope.names.lookup x=some .local:=by first | exact .inl rfl | exact .inr rfl | assumption) :
  PDS X G (.Assign [.Name x pos'] (.Dict [] [] lp) pos) (v9 i):=by
 refine⟨_,mq hN hi hx ze hs hf,λR0 P0 H0 δ O σ H Dn E k=>?_⟩
 exact λp hp=>k _ _ _ (E.newD hp)
noncomputable def jP(i:Nat)(fk f:DS->M D):DS->M Out:=λδ=>match δ[i]? with
 | some (.od es)=>(f δ).thn λd=>(fk δ).thn λy=>match bG y with
  | some k=>if (q0 i δ&&decide (es.length<1000000))=true then M.ret (.nx (δ.set i (.od (putD es k d)))) else none
  | none=>none
 | _=>none
theorem CB{i:Nat}{x:Str}{np:Pos}(hu:X.A.units+1<cLine)(hx:PE X (.Name x np) (ld i))(hk:PD X G ix g)(he:PD X G e f)
  (hs:swapsWith e (some (.Subscript (.Name x np) ix pos')) pos.line X.env=pure false:=by rfl):PDS X G (.Assign [.Subscript (.Name x np) ix pos'] e pos) (jP i g f):=by
 obtain⟨te,pe,he⟩:=he
 obtain⟨tk,pk,hk⟩:=hk
 refine⟨_,B4 hu hx pk pe hs,λR0 P0 H0 δ O σ H Dn E k=>?_⟩
 unfold jP at k
 split at k
 ·rename_i es hd
  refine he δ O σ H _ E.ev (ah (ao k) λd z v H1 s1 rv=>?_)
  obtain⟨l,kvs,q1,q2,q3,q4,q5⟩:=(E.same s1).ev.at_ i _ hd
  refine⟨.ref l,q1,hk δ O σ H1 _ (E.same s1).ev (ah (ao z) λy z2 u H2 s2 ry=>?_)⟩
  cases hy:bG y with
  | none=>rw[hy] at z2;exact z2.elim
  | some kk =>
   rw[hy] at z2
   have z2:ok _ (if (q0 i δ&&decide (es.length<1000000))=true then M.ret (Out.nx (δ.set i (.od (putD es kk d)))) else none) _:=z2
   by_cases hc:(q0 i δ&&decide (es.length<1000000))=true
   ·rw[if_pos hc] at z2
    rw[Z2,decide_eq_true_eq] at hc
    have ey:u=kV kk:=by
     rw[j3 hy] at ry
     cases kk with
     | inl i=>exact ry.int_inv
     | inr s=>exact ry.str_inv
    obtain⟨p1,p2⟩:=vH (k:=kk) q4 (q5.same s2) (rv.same s2)
    have hlen:kvs.length=es.length:=by
     have:=congrArg V5 q4
     rwa[ς,ς] at this
    refine⟨l,_,rfl,.inl ⟨kvs,kk,s2 _ _ q3,ey,by rw[hlen,sizeLine_eq];omega,rfl⟩,?_⟩
    exact z2 _ _ _ (((E.same s1).same s2).putD hd hc.1 q1 (s2 _ _ q3) p1 p2)
   ·rw[if_neg hc] at z2
    exact z2.elim
 ·exact k.elim
noncomputable def v8(i:Nat):DS->M Out:=λδ=>match δ[i]? with
 | some (.od es)=>M.ret (.rt (.dict (es.map λe=>(gw e.1,e.2))))
 | _=>none
theorem CA(he:PE X e (ld i)):PDS X G (.Return (some e) pos) (v8 i):=by
 refine⟨_,jx he,λR0 P0 H0 δ O σ H Dn E k=>?_⟩
 unfold v8 at k
 split at k
 ·rename_i ds hd
  obtain⟨l,xs,q1,q2,q3,q4,q5⟩:=E.ev.at_ i _ hd
  exact⟨.ref l,q1,k _ H E.keep (.dct (.inl q3) (E.nr1 i _ l hd trivial q1) q4 (q5.to (.less E.sub)))⟩
 ·exact k.elim
end
end DL
namespace DL
open PyProof.Rows L2
section
noncomputable def dNF(fn:DS->M (List D)):DS->M D:=λδ=>(fn δ).thn λds=>if aD ds=true then M.ret (.list ds) else none
theorem Cy(h:PDN X G e fn):PDF X G e (dNF fn):=by
 obtain⟨t,p,h⟩:=h
 refine⟨t,p,λδ O σ H Q E k=>h δ O σ H Q E (ah (ao k) λds z l xs H1 s1 hl rx=>?_)⟩
 by_cases hf:aD ds=true
 ·rw[if_pos hf] at z
  obtain⟨ds',e1,_,k'⟩:=(show mZ X.K H Q (.list ds) from z)
  cases e1
  refine k' l xs _ (s1.trans (aK hl)) ?_ aA ((rx.same (aK hl)).flat hf)
  cases q:H l with
  | none=>rfl
  | some o=>rw[s1 _ _ q] at hl;cases hl
 ·rw[if_neg hf] at z
  exact z.elim
theorem AO(h:fn δ=M.ret ds)(hf:aD ds=true):dNF fn δ=M.ret (.list ds):=by unfold dNF;rw[h,ay,if_pos hf]
noncomputable def xD(fb:DS->M Bool)(gs gt:DS->M Out):DS->M Out:=λδ=>(fb δ).thn λb=>if b=true then gs δ else gt δ
theorem Co(hc:PDT X G c fb)(h1:gU X G st1 gs)(h2:gU X G sts gt):gU X G (.If c st1 [] pos::sts) (xD fb gs gt):=by
 obtain⟨t,p,hc⟩:=hc
 obtain⟨u,q,h1⟩:=h1
 obtain⟨w,r,h2⟩:=h2
 refine⟨_,lj (yR p q qS) r,λR0 H0 δ O σ H Dn E k=>?_⟩
 refine hc δ O σ H _ E.ev (ah (ao k) λd z H1 s1=>?_)
 cases d with
 | true =>
  refine h1 R0 H0 δ O σ H1 _ (E.same s1) (ah z λo z=>?_)
  assumption
 | false =>
  exact h2 R0 H0 δ O σ H1 Dn (E.same s1) z
theorem rL(h1:fb δ=M.ret b)(h2:(if b=true then gs δ else gt δ)=r):xD fb gs gt δ=r:=by unfold xD;rw[h1];exact h2
noncomputable def lL(i:Nat)(fn:DS->M (List D)):DS->M Out:=λδ=>match δ[i]? with
 | some (.ow ds)=>(fn δ).thn λes=>if aJ (ds.length+es.length) then M.ret (.nx (δ.set i (.ow (ds++es)))) else none
 | _=>none
theorem pd_ext(hv:PE X (.Name x xp) (ld i))(he:PDN X G e fn)
  (hst:starEach [e] X.env=(false,eval e X.env)::starEach [] X.env:=by rfl)
  (hbase:attributeBase (.Name x xp) "extend" X.env (eval (.Name x xp) X.env)=eval (.Name x xp) X.env:=by rfl)
  (hfew:((backTo cpos (starEach [e] X.env)).all (λx=>!x.1)&&(backToKw cpos (keywordEach [] X.env)).all (λx=>x.1.isSome)
   && decide ([e].length+([]:List Keyword).length+(if ([]:List Keyword).isEmpty then 0 else 1)<30))=true:=by rfl)
  (hline:(apos.endLine==cpos.line)=true:=by rfl) (hplain:(backTo cpos (starEach [] X.env)).any (·.1)=false:=by rfl)
  (hs:swapsWith (.Call (.Attribute (.Name x xp) "extend" apos) [e] [] cpos) none pos.line X.env=pure false:=by rfl) :
  PDS X G (.Expr (.Call (.Attribute (.Name x xp) "extend" apos) [e] [] cpos) pos) (lL i fn):=by
 obtain⟨t,p,he⟩:=he
 refine⟨_,qT (sP PySem.F.plainAttrs_list PySem.F.slot_list_extend PySem.F.type_list_extend qd hv (e8 p iS hst) hbase hfew hline hst hplain) hs,λR0 P0 H0 δ O σ H Dn E k=>?_⟩
 unfold lL at k
 split at k
 ·rename_i ds hd
  obtain⟨l,xs,q1,q2,q3,q4⟩:=E.ev.at_ i _ hd
  refine⟨.ref l,q1,.inl ⟨rfl,xs,.inl (.inl q3)⟩,?_⟩
  refine he δ O σ H _ E.ev (ah (ao k) λes z l2 ys H1 s1 hl2 ry=>?_)
  have s2:aE H1 (upd H1 l2 (.lst ys)):=aK hl2
  by_cases hz:aJ (ds.length+es.length)=true
  ·rw[if_pos hz] at z
   have h3:= s2 _ _ (s1 _ _ q3)
   refine⟨l,l2,xs,ys,rfl,rfl,h3,aA,by rw[q4.length,ry.length];exact bt hz,?_⟩
   exact z O σ _ (((E.same s1).same s2).put hd q1 h3 (((q4.same s1).same s2).append (ry.same s2)))
  ·rw[if_neg hz] at z
   exact z.elim
 ·exact k.elim
theorem rM(h:δ[i]?=some (.ow ds))(h1:fn δ=M.ret es)(hz:aJ (ds.length+es.length)=true):lL i fn δ=M.ret (.nx (δ.set i (.ow (ds++es)))):=by
 unfold lL;rw[h];dsimp only;rw[h1,ay,if_pos hz]
end
noncomputable def kP(es more:List (Key×D)):List (Key×D):=more.foldl (λacc e=>putD acc e.1 e.2) es
theorem qe{K:ε}{O:List Addr}{H:Hp}:∀{more:List (Key×V)} {moreD:List (Key×D)} {kvs:List (Key×V)} {es:List (Key×D)},more.map (·.1)=moreD.map (·.1)->Reps K O H (more.map (·.2)) (moreD.map (·.2))->kvs.map (·.1)=es.map (·.1)->Reps K O H (kvs.map (·.2)) (es.map (·.2)) ->
  (iU kvs more).map (·.1)=(kP es moreD).map (·.1)/\Reps K O H ((iU kvs more).map (·.2)) ((kP es moreD).map (·.2))
 | [],[],_,_,_,_,hk,r=>⟨hk,r⟩
 | [],_::_,_,_,h,_,_,_=>by cases h
 | _::_,[],_,_,h,_,_,_=>by cases h
 | p::more,q::moreD,kvs,es,h,rm,hk,r=>by
  simp only[ω,List.cons.injEq] at h
  rw[ω,ω] at rm
  cases rm with
  | cons r1 rs =>
   obtain⟨i1,i2⟩:=vH (k:=q.1) hk r r1
   have:=qe h.2 rs i1 i2
   show(iU (iR kvs p.1 p.2) more).map (·.1)=(kP (putD es q.1 q.2) moreD).map (·.1)/\Reps K O H ((iU (iR kvs p.1 p.2) more).map (·.2)) ((kP (putD es q.1 q.2) moreD).map (·.2))
   simp_all
section
variable{X:Cx}{G:XD->Hp->Prop}{k v:Expr}{ks:List (Option Expr)}{vs:List Expr}{f g:DS->M D}{fp:DS->M (List (Key×D))}{pos pos' lp:Pos}
def PDP(X:Cx)(G:XD->Hp->Prop)(pos:Pos)(ks:List (Option Expr))(vs:List Expr)(fp:DS->M (List (Key×D))):Prop :=
 ∃trs,PPs X pos ks vs trs/\∀{Hr:Hp} (δ:DS) (O:List Addr) (σ:St) (H:Hp) (Q:List (V×V)->Hp->Prop),Ev X.K Hr O H σ δ ->
  ok (GS G Hr) (fp δ) (λes=>∀(kvs:List (Key×V)) H1,aE H H1->kvs.map (·.1)=es.map (·.1)->Reps X.K O H1 (kvs.map (·.2)) (es.map (·.2))->Q (kvs.map λkv=>(kV kv.1,kv.2)) H1)->qJ trs σ H Q
noncomputable def pNil:DS->M (List (Key×D)):=λ_=>M.ret []
noncomputable def sU(f g:DS->M D)(fp:DS->M (List (Key×D))):DS->M (List (Key×D)):=λδ=>(f δ).thn λy=>(g δ).thn λd=>(fp δ).thn λes=>match bG y with
 | some k=>M.ret ((k,d)::es)
 | none=>none
theorem Cr:PDP X G pos [] [] pNil:=⟨[],B6,λδ O σ H Q E k=>(zH k) [] H (aE.refl H) rfl .nil⟩
theorem sQ(hk:PD X G k f)(hv:PD X G v g)(hr:PDP X G pos ks vs fp):PDP X G pos (some k::ks) (v::vs) (sU f g fp):=by
 obtain⟨tk,pk,hk⟩:=hk
 obtain⟨tv,pv,hv⟩:=hv
 obtain⟨trs,pr,hr⟩:=hr
 refine⟨_,yU pk pv pr,λδ O σ H Q E q=>?_⟩
 refine hk δ O σ H _ E (ah (ao q) λy z u H1 s1 ry=>?_)
 refine hv δ O σ H1 _ (E.same s1) (ah (ao z) λd z2 w H2 s2 rd=>?_)
 refine hr δ O σ H2 _ ((E.same s1).same s2) (ah (ao z2) λes z3 kvs H3 s3 hkk rs=>?_)
 cases hy:bG y with
 | none=>rw[hy] at z3;exact z3.elim
 | some kk =>
  rw[hy] at z3
  have ey:u=kV kk:=by
   rw[j3 hy] at ry
   cases kk with
   | inl i=>exact ry.int_inv
   | inr s=>exact ry.str_inv
  rw[ey]
  exact(zH z3) ((kk,w)::kvs) H3 ((s1.trans s2).trans s3) (by simp_all) (.cons (rd.same s3) rs)
noncomputable def tU(i:Nat)(fp:DS->M (List (Key×D))):DS->M Out:=λδ=>(fp δ).thn λes=>if (q0 i (δ.set i (.od []))&&decide (es.length<=15/\i<δ.length))=true then M.ret (.nx (δ.set i (.od (kP [] es)))) else none
theorem CI{i:Nat}{x:Str}(hp:PDP X G lp ks vs fp)(hN:X.N.Nodup)(hi:X.N[i]?=some x)(hx:Loc X.env.scope x)(hall:ks.all (·.isSome)=true)(hl:ks.length=vs.length)(h0:ks≠[])(h15:ks.length<=15)
  (hs:swapsWith (.Dict ks vs lp) (some (.Name x pos')) pos.line X.env=pure false:=by rfl) (hf:X.fn x=true\/X.env.scope.names.lookup x=some .local:=by first | exact .inl rfl | exact .inr rfl | assumption) :
  PDS X G (.Assign [.Name x pos'] (.Dict ks vs lp) pos) (tU i fp):=by
 obtain⟨trs,pp,hp⟩:=hp
 refine⟨_,mq hN hi hx (Cc pp hall hl h0 h15) hs hf,λR0 P0 H0 δ O σ H Dn E k=>?_⟩
 refine λp hpn=>hp δ (p::O) σ _ _ (E.ev.ownD hpn) (ah (ao k) λes z kvs H2 s2 hk rs=>?_)
 by_cases hc:(q0 i (δ.set i (.od []))&&decide (es.length<=15/\i<δ.length))=true
 ·rw[if_pos hc] at z
  rw[Z2,decide_eq_true_eq] at hc
  have hp2:H2 p=some (.dK []):=s2 _ _ aA
  refine⟨hp2,kvs,rfl,?_,?_⟩
  ·have:=congrArg V5 hk
   rw[ς,ς] at this
   omega
  ·obtain⟨m1,m2⟩:=qe (kvs:=[]) (es:=[]) hk rs rfl .nil
   have E1:=(E.newD (i:=i) hpn).same s2
   have hd:(δ.set i (.od []))[i]?=some (.od []):=by rw[aW,if_pos rfl,if_pos hc.2.2]
   have hσ:(σ.set i (some (.ref p)))[i]?=some (some (.ref p)):=by rw[aW,if_pos rfl,if_pos (by rw[E.ev.len];exact hc.2.2)]
   have E2:=E1.putD hd hc.1 hσ hp2 m1 m2
   rw[List.set_set] at E2
   exact z _ _ _ E2
 ·rw[if_neg hc] at z
  exact z.elim
end
structure FunD(K:ε)(x qual:Str)(st:Stmt)(f:Addr)(fd:FuncData)(dV:Value):Prop where
 ex:∃(oc:Value) (od:Option Addr) (kV doc pm:Value) (an:Option Addr) (cdv ct:Value) (osl:Array (Option Value)),
  fd=X6 x qual (dz st) (bC st) (ai st) dV kV doc pm an cdv ct/\K.lookup f=some ⟨oc,od,.func fd,osl⟩/\U1 K cdv qual=true
 kp:Y7 K (.ref f)=true
section
variable{P:Program}{w:World}{K:ε}{mg:Str->Option Value}{base:Heap}
theorem FunD.ok{x qual:Str}{st:Stmt}{f:Addr}{fd:FuncData}{dV:Value}{N ps:List Str}{k:Nat}{sp:Sp}(F:FunD K x qual st f fd dV)(S:FnScope N ps (ai st))(len:∀vs H Q E,sp vs H Q E->vs.length=ps.length)
  (hbody:∀(cdv:Value) (A:Around) (outer:List Env) (s:Shared) (H:Hp) (vs:List V) (Q:VK) (E:XK),Room k (A.deeper (envOfC qual (ai st) s.heap.objs.size f cdv))->sp vs H Q E ->
   ∃t,PSs (kX CX0 P w K mg base N qual (ai st) f cdv A outer s H E).nox (bC st) t/\t { nx:=λ_ H'=>Q .non H',rt:=Q } (start N vs) H):FnOk P w K mg base CX0 (k+1) f fd ps sp:=by
 obtain⟨oc,od,kV,doc,pm,an,cdv,ct,osl,rfl,lk,hcd⟩:=F.ex
 refine fn_of lk hcd S len λA outer s H vs Q E hr hsp=>?_
 obtain⟨t,h,q⟩:=hbody cdv A outer s H vs Q E hr hsp
 exact⟨t,h.nox,q⟩
theorem FunD.bindsT{x qual:Str}{st:Stmt}{f T:Addr}{fd:FuncData}{ps:List Str}{o:Obj}{items:Array Value}{n:Nat}(F:FunD K x qual st f fd (.ref T))(hT:K.lookup T=some o)(hs:o.data=.seq items n)
  (h:∀(kV doc pm:Value) (an:Option Addr) (cdv ct:Value) (us:List Value),us.length=ps.length->∃k,bindArgs (X6 x qual (dz st) (bC st) (ai st) (.ref T) kV doc pm an cdv ct) ⟨us,[]⟩=seqItems? (.ref T) >>= k/\k (some items)=pure (ps.zip us)):cM K fd ps []:=by
 obtain⟨oc,od,kV,doc,pm,an,cdv,ct,osl,rfl,lk,hcd⟩:=F.ex
 intro s us hK hl
 rw[Z3] at hl ⊢
 obtain⟨k,h1,h2⟩:=h kV doc pm an cdv ct us hl
 exact BindsTo.of_defaults rfl (hK _ _ hT) hs h1 h2
theorem Dk{x qual:Str}{st:Stmt}{f:Addr}{oc:Value}{od an:Option Addr}{osl:Array (Option Value)}{dV kV doc pm cdv ct:Value}(l:K.lookup f=some ⟨oc,od,.func (X6 x qual (dz st) (bC st) (ai st) dV kV doc pm an cdv ct),osl⟩)
  (c:U1 K cdv qual=true) (k:Y7 K (.ref f)=true):FunD K x qual st f (X6 x qual (dz st) (bC st) (ai st) dV kV doc pm an cdv ct) dV:=⟨⟨oc,od,kV,doc,pm,an,cdv,ct,osl,rfl,l,c⟩,k⟩
theorem wc{x qual:Str}{st:Stmt}{f:Addr}{fd:FuncData}{dV:Value}{N ps:List Str}{k:Nat}{g:DS->M Out}(F0:FunD K x qual st f fd dV)(S:FnScope N ps (ai st))
  (hbody:∀(cdv:Value) (A:Around) (outer:List Env) (s:Shared) (H:Hp) (E:XK),Room k (A.deeper (envOfC qual (ai st) s.heap.objs.size f cdv)) ->
   jf (kX CX0 P w K mg base N qual (ai st) f cdv A outer s H E).nox (λ_ _=>False) (bC st) g):FnOk P w K mg base CX0 (k+1) f fd ps (spD K ps.length (run N.length g)):=by
 refine F0.ok S (λvs H Q E h=>?_) (λcdv A outer s H vs Q E hr h=>?_)
 ·obtain⟨O,ds,hl,_⟩:=h
  exact hl
 ·obtain⟨O,ds,hl,oo,r,q⟩:=h
  obtain⟨t,p,hB⟩:=hbody cdv A outer s H E hr
  refine⟨t,p,hB O (λ_=>False) H (gj N.length ds) O (L2.start N vs) H _ ⟨o5 N oo r,λl hl=>.inl hl,λb o _ h=>h,λl hl=>.inl hl,λi es l h1 ho h2=>?_,λl hl=>hl⟩ (ah (ll (ao q)) λo z=>?_)⟩
  ·exact(nW h1 ho).elim
  ·cases o with
   | rt d=>exact λv H' kp r=>z v H' (λb o h=>kp b o (λw=>w) h) r
   | nx δ=>exact λO' σ' H' E'=>z .non H' (λb o h=>E'.keep b o (λw=>w) h) .non
   | bk δ=>exact z.elim
   | ct δ=>exact z.elim
end
end DL
namespace L2
open PyProof.Rows
section
theorem xY:fQ X (.builtin "abs") (λxs H Q=>∃i:Int,xs=[.int i]/\Q (.int (if i<0 then -i else i)) H):=by
 intro pins s σ H xs us Q I r h
 obtain⟨i,rfl,q⟩:=h
 obtain⟨u,rfl,t,rfl⟩:=k7 r
 exact call_abs_int λu tk=>⟨.int _,H,I.tok tk,⟨u,rfl⟩,q⟩
end
section
end
end L2
namespace DL
open PyProof.Rows L2
section
noncomputable def rf:List D->Option D
 | [.int i]=>some (.int (if i<0 then -i else i))
 | _=>none
theorem xM:fP X (.builtin "abs") rf:=by
 refine⟨_,xY,λO H ds d vs Q oo rs e k=>?_⟩
 unfold rf at e
 split at e
 ·cases e
  obtain⟨v,rfl,r⟩:=fE rs
  exact⟨_,by rw[r.int_inv],k _ H (aE.refl H) (.int _)⟩
 simp_all
end
end DL
namespace DL
open PyProof.Rows L2
noncomputable def lu:List D->Option D
 | [.dict es]=>if jh (.dict es)=true then some (.dict es) else none
 | _=>none
theorem r8:fQ X (.type "dict") (λxs H Q=>∃p kvs,xs=[.ref p]/\Rd H p (.dK kvs)/\∀l,H l=none->Q (.ref l) (upd H l (.dK kvs))):=by
 intro pins s σ H xs us Q I r h
 obtain⟨p,kvs,rfl,hq,q⟩:=h
 obtain⟨u,rfl,rx⟩:=k7 r
 cases rx
 exact A8 I hq λl s' hl I'=>⟨.ref l,_,I',rfl,q l hl⟩
theorem u0:fP X (.type "dict") lu:=by
 refine⟨_,r8,λO H ds d vs Q oo rs e k=>?_⟩
 unfold lu at e
 split at e
 ·split at e
  ·rename_i hi
   cases e
   obtain⟨v,rfl,r⟩:=fE rs
   obtain⟨a,kvs,es,rfl,rfl,hr,hn,hk,rv⟩:=r.dct_inv hi
   exact⟨a,kvs,rfl,hr,λl hl=>k _ _ (aK hl) (Rep.dct (.inl aA) (nin oo hl) hk (rv.same (aK hl)))⟩
  simp_all
 simp_all
noncomputable def tQ(Y:List (D×D))(k:Key)(i:Int):Bool:=match (Y.find? λe=>decide (bG e.1=some k)).map (·.2) with
 | some (ζ j)=>decide (i=j)
 | _=>false
noncomputable def lA(Y:List (D×D))(e:D×D):Bool:=match bG e.1,e.2 with
 | some k,ζ i=>tQ Y k i
 | _,_=>false
theorem tH{K:ε}{O:List Addr}{H:Hp}:∀{kvs:List (Key×V)} {es fs:List (Key×D)} {kws:List (Key×V)},kvs.map (·.1)=es.map (·.1)->Reps K O H (kvs.map (·.2)) (es.map (·.2))->kws.map (·.1)=fs.map (·.1)->Reps K O H (kws.map (·.2)) (fs.map (·.2))->(es.map λe=>(gw e.1,e.2)).all (lA (fs.map λe=>(gw e.1,e.2)))=true->∀p∈kvs,∃i,p.2=.int i/\kI kws p.1=some (.int i)
 | [],_,_,_,_,_,_,_,_=>λp hp=>nomatch hp
 | _::_,[],_,_,hk,_,_,_,_=>by cases hk
 | p::kvs,e::es,fs,kws,hk,r,hk2,r2,h=>by
  simp only[ω,List.cons.injEq] at hk
  rw[ω,List.all_cons,Z2] at h
  cases r with
  | cons r1 rs =>
   intro x hx
   rcases ψ.mp hx with rfl | hx
   ·obtain⟨h1,_⟩:=h
    unfold lA at h1
    rw[gv] at h1
    obtain⟨ek,ed⟩:=e
    cases ed with
    | int i =>
     have h1:tQ (fs.map λe=>(gw e.1,e.2)) ek i=true:=h1
     refine⟨i,r1.int_inv,?_⟩
     unfold tQ at h1
     have hf:((fs.map λe=>(gw e.1,e.2)).find? λe=>decide (bG e.1=some ek)).map (·.2)=ci fs ek:=by
      rw[List.find?_map]
      simp only[Option.map_map]
      have:((λe:D×D=>decide (bG e.1=some ek))∘λe:Key×D=>(gw e.1,e.2))=λe:Key×D=>decide (e.1=ek):=by
       funext e
       show decide (bG (gw e.1)=some ek)=_
       rw[gv]
       simp
      rw[this]
      rfl
     rw[hf] at h1
     cases hv:ci fs ek with
     | none=>simp_all
     | some d =>
      rw[hv] at h1
      cases d with
      | int j =>
       have h1:=of_decide_eq_true h1
       subst h1
       obtain⟨v,hv1,hv2⟩:=k8 hk2 r2 hv
       rw[hk.1,hv1,hv2.int_inv]
      | _=>cases h1
    | _=>cases h1
   ·exact tH hk.2 rs hk2 r2 h.2 x hx
theorem uE(h:A.all (lA B)=true):jh (.dict A)=true:=by
 match A,h with
 | [],_=>rfl
 | [(.none,z)],h =>
  assumption
 | [(.int _,_)],_=>rfl
 | [(.bool _,_)],_=>rfl
 | [(.str _,_)],_=>rfl
 | [(.list _,_)],_=>rfl
 | [(.tuple _,_)],_=>rfl
 | [(.dict _,_)],_=>rfl
 | _::_::_,_=>simp [jh]
theorem uF{A:List (D×D)}{B:List (D×D)}(hl:A.length=B.length)(h:A.all (lA B)=true):jh (.dict B)=true:=by
 match B,A,hl,h with
 | [],_,_,_=>rfl
 | [(.none,z)],[e],_,h =>
  rw[List.all_cons,Z2] at h
  have h:=h.1
  unfold lA at h
  split at h
  all_goals assumption
 | [(.int _,_)],_,_,_=>rfl
 | [(.bool _,_)],_,_,_=>rfl
 | [(.str _,_)],_,_,_=>rfl
 | [(.list _,_)],_,_,_=>rfl
 | [(.tuple _,_)],_,_,_=>rfl
 | [(.dict _,_)],_,_,_=>rfl
 | _::_::_,_,_,_=>simp [jh]
section
end
section
end
end DL
namespace DL
open PyProof.Rows L2
variable{X:Cx}{G:XD->Hp->Prop}{e o:Expr}{es:List Expr}{f g:DS->M D}{fa:DS->M (List D)}{pos apos:Pos}
noncomputable def kH(nm:Str):D->Option (List (D))
 | .dict [(.none,.tuple (.str x::r))]=>if x=nm then some r else none
 | _=>none
noncomputable def wj(f:Str):List D->Option D
 | []=>none
 | .tuple [.str g,d]::r=>if g=f then some d else wj f r
 | _::_=>none
noncomputable def aV(nm f:Str)(x:D):Option D:=match kH nm x with
 | some r=>wj f r
 | none=>none
structure ClsN(X:Cx)(nm:Str)(C:Addr):Prop where
 at_:Ξ X.K mainGlobals nm=some (some (.ref C))
 cls:Cls X.K C
theorem kf{K:ε}{O:List Addr}{H:Hp}{v:V}{nm:Str}{x:D}{r:List D}(rx:Rep K O H v x)(h:kH nm x=some r):∃(a C dx:Addr) (fs:List (Str×V)) (es:List (Str×D)),v=.ref a/\r=es.map (λe=>W9 [.str e.1,e.2])/\Ξ K mainGlobals nm=some (some (.ref C))/\H a=some (.ins C dx fs)/\a∉O/\fs.map (·.1)=es.map (·.1)/\Reps K O H (fs.map (·.2)) (es.map (·.2)):=by
 cases rx with
 | dct h1 n hk rr =>
  rename_i a kvs es
  cases es with
  | nil=>cases h
  | cons e es =>
   obtain⟨k,y⟩:=e
   cases es with
   | nil=>cases k<;>cases h
   | cons e2 es =>
    cases k<;>cases h
 | ins hN h1 n hk rr =>
  rename_i a C dx nm2 fs es
  have h':(if nm2=nm then some (es.map λe=>W9 [.str e.1,e.2]) else none)=some r:=h
  grind
 | _=>cases h
theorem wg{K:ε}{O:List Addr}{H:Hp}{f:Str}{d:D}:∀{fs:List (Str×V)} {es:List (Str×D)},fs.map (·.1)=es.map (·.1)->Reps K O H (fs.map (·.2)) (es.map (·.2))->wj f (es.map λe=>W9 [.str e.1,e.2])=some d->∃v,fs.lookup f=some v/\Rep K O H v d
 | [],[],_,_,h=>by cases h
 | [],_::_,hk,_,_=>by cases hk
 | _::_,[],hk,_,_=>by cases hk
 | (g,v)::fs,(g2,y)::es,hk,r,h=>by
  simp only[ω,List.cons.injEq] at hk
  obtain⟨rfl,hk⟩:=hk
  cases r with
  | cons r1 rs =>
   have h:(if g=f then some y else wj f (es.map λe=>W9 [.str e.1,e.2]))=some d:=h
   by_cases c:g=f
   ·simp_all
   ·rw[if_neg c] at h
    obtain⟨w,h1,h2⟩:=wg hk rs h
    grind
theorem pd_fld{nm fl:Str}{C:Addr}(c:ClsN X nm C)(n:jg X.K C fl)(ho:PD X G o f)(hb:attributeBase o fl X.env (eval o X.env)=eval o X.env:=by rfl):PD X G (.Attribute o fl pos) (d1 (aV nm fl) f):=by
 obtain⟨t,p,h⟩:=ho
 refine⟨_,zc p hb,λδ O σ H Q E k=>?_⟩
 refine h δ O σ H _ E (ah (ao k) λx z v H1 s1 rx=>?_)
 obtain⟨d,hd,z⟩:=b5 z
 unfold aV at hd
 cases ha:kH nm x with
 | none=>simp_all
 | some r =>
  rw[ha] at hd
  obtain⟨a,C',dx,fs,es,rfl,rfl,hN,h1,hn,hk,rr⟩:=kf rx ha
  have:C'=C:=by
   have:=hN.symm.trans c.at_
   simp_all
  subst this
  obtain⟨w,l1,l2⟩:=wg hk rr hd
  exact⟨a,C',dx,fs,w,rfl,h1,c.cls,n,l1,z w H1 s1 l2⟩
structure DefM(P:Program)(w:World)(K:ε)(mg:Str->Option Value)(base:Heap)(k:Nat)(nm m:Str)(n:Nat)(F:List D->M D):Prop where
 ex:∃(C f:Addr) (fd:FuncData) (ps:List Str),Ξ K mainGlobals nm=some (some (.ref C))/\Cls K C/\Meth K C m f/\FnOk P w K mg base CX0 k f fd ps (spD K n F)/\cM K fd ps []
noncomputable def iz(m:Str)(r:List D):Bool:=r.all λd=>match d with
 | .tuple [.str g,_]=>decide (g≠m)
 | _=>false
noncomputable def dMe(nm m:Str)(F:List D->M D)(fo:DS->M D)(fa:DS->M (List D)):DS->M D:=λδ=>(fo δ).thn λx=>match kH nm x with
 | some r=>if iz m r=true then (fa δ).thn λds=>F (x::ds) else none
 | none=>none
theorem iT:∀{fs:List (Str×V)} {es:List (Str×D)},fs.map (·.1)=es.map (·.1)->iz m (es.map λe=>W9 [.str e.1,e.2])=true->fs.lookup m=none
 | [],_,_,_=>rfl
 | _::_,[],hk,_=>by cases hk
 | (g,v)::fs,(g2,y)::es,hk,h=>by
  simp only[ω,List.cons.injEq] at hk
  obtain⟨rfl,hk⟩:=hk
  unfold iz at h
  rw[ω,List.all_cons,Z2] at h
  have c:= of_decide_eq_true h.1
  have hb:= beq_eq_false_iff_ne.mpr (Ne.symm c)
  simp only[List.lookup,hb]
  exact iT hk h.2
theorem zB{pl:Sem Bool}{k n:Nat}{nm m:Str}{F:List D->M D}(h:DefM X.prog X.w X.K X.mg X.base k nm m n F)(hr:Room k X.A)(hn:(e::es).length+1=n)(ho:PD X G o f)(ha:PDA X G (e::es) fa)
  (hst:`we:=by rfl) (hpl:(backTo pos (starEach es X.env)).any (·.1)=false:=by rfl)
  (ht:eval (.Call (.Attribute o m apos) (e::es) [] pos) X.env=(do
   let ov <- eval o X.env
   standAt apos.atName
   let (f,first) <- holding [ov] (getMethod ov m pl)
   callWith pos f first (backTo pos (starEach (e::es) X.env)) (backToKw pos (keywordEach [] X.env))):=by rfl) :
  PD X G (.Call (.Attribute o m apos) (e::es) [] pos) (dMe nm m (λds=>noX (F ds)) f fa):=by
 obtain⟨C,f0,fd,ps,hN,c,hm,F1,hb⟩:=h.ex
 obtain⟨t,p,ho⟩:=ho
 obtain⟨hl,ta,pa,ha⟩:=ha
 refine⟨_,qU p c hm F1 hr hb .nil kr pa hst hpl ht,λδ O σ H Q E k=>?_⟩
 refine ho δ O σ H _ E (ah (ao k) λx z v H1 s1 rx=>?_)
 cases hat:kH nm x with
 | none=>rw[hat] at z;exact z.elim
 | some r =>
  rw[hat] at z
  have z1:ok _ (if iz m r=true then (fa δ).thn λds=>noX (F (x::ds)) else none) _:=z
  by_cases hf:iz m r=true
  ·rw[if_pos hf] at z1
   obtain⟨a,C',dx,fs,es',rfl,rfl,hN',h1,hn1,hk,rr⟩:=kf rx hat
   have hC:C'=C:=by
    simp_all
   subst hC
   refine⟨a,dx,fs,rfl,h1,iT hk hf,?_⟩
   have k1:=ao z1
   refine ha δ O σ H1 _ (E.same s1) ?_
   cases e1:fa δ with
   | none=>rw[e1] at k1;assumption
   | some q =>
    rw[e1] at k1
    cases q with
    | error y=>exact k1
    | ok ds =>
     refine λvs H2 s2 rs=>?_
     refine⟨O,x::ds,?_,((E.same s1).same s2).oo,?_,ah (kM k1) λd z v H3 s3 r=>z v H3 (s1.trans (s2.trans s3)) r⟩
     ·show(vs++[]).length+1=n
      rw[Z3,rs.length,hl δ ds e1]
      exact hn
     ·rw[Z3]
      exact .cons (rx.same s2) rs
  ·rw[if_neg hf] at z1;exact z1.elim
theorem ev_me{nm m:Str}{F:List D->M D}{δ:DS}{x d:D}{r ds:List D}(h1:f δ=M.ret x)(h2:kH nm x=some r)(h3:iz m r=true)(h4:fa δ=M.ret ds)(h5:F (x::ds)=M.ret d):dMe nm m (λds=>noX (F ds)) f fa δ=M.ret d:=by
 unfold dMe
 rw[h1,ay,h2]
 show(if iz m r=true then (fa δ).thn λds=>noX (F (x::ds)) else none)=_
 rw[if_pos h3,h4,ay,h5]
 rfl
end DL
namespace OI
open PyProof.Rows
end OI
namespace DL
open PyProof.Rows L2
section
end
section
end
end DL
namespace L2
open PyProof.Rows
section
open AutoSeq1 (wpAny_loadPart')
abbrev Db(l:Addr):Obj:={ cls:=.type "list_iterator",data:=.fields #[.ref l,.int 0 0] }
end
section
variable{prog:Program}{w:World}{A:Around}{E:Value->Shared->Prop}{s:Shared}
theorem oi_kw{T newId:String}{self:Value}{aB:List Value}{kw:List (Str×Value)}(hl:typeLookup (.type T) "__init__" = pure (some (.builtin "object.__init__")))
  (hm:Bind.madeBy (.type T)=pure (some newId)) (hne:(some newId != some "object.__new__")=true) (hk:kw≠[]) :
  Meets (Builtin.«object.__init__» ⟨self::aB,kw⟩) (λ_ R s=>s.TypeIs self T/\R (.ok (.ret .none)) s):=by
 refine Meets.of_wp λprog w A R s z0=>?_
 obtain⟨hT,hq⟩:=z0
 cases kw with
 | nil=>simp_all
 | cons a kw =>
  cases aB with
  | nil =>
   repeat (any_goals (first | assumption | wp_step))
   simp_all
  | cons b aB =>
   repeat (any_goals (first | assumption | wp_step))
   simp_all
theorem xZ{T newId:String}{Bn:Builtin}{args:List Value}{kw:List (Str×Value)}{S:PySem.Spec}{Q:Value->Shared->Prop}(ft:TypeCalled T newId "object.__init__")(hk:kw≠[])
  (hne:(some newId != some "object.__new__")=true) (hct:checkTypeCall T ⟨args,kw⟩=pure ()) (hcn:checkBuiltinCall newId ⟨.type T::args,kw⟩=pure ())
  (hok:∀obj,argsOk "object.__init__" ⟨obj::args,kw⟩) (entryN:entryFor table newId=some Bn) (g:Meets (Bn ⟨.type T::args,kw⟩) S)
  (h:S A.in1 (wants (λobj s₁=>s₁.TypeIs obj T/\Q obj s₁) E) s):wpAny (model prog w) A (call (.type T) args kw) Q E s:=by
 obtain⟨c,tl,hmro⟩:=ft.mro
 have hmade:=ft.made
 have hsub:=ft.sub
 refine wpAny_call (codeAny_of_tree ?_)
 refine wpAny_pure ⟨Code.quiet_builtin _ (by simp),codeAny_builtin F.entry_type_call ?_⟩
 have h1:=ft.notType
 have h2:=ft.canCreate
 repeat (any_goals (first | assumption | wp_step))
 refine codeAny_mono (codeAny_call_builtin ft.plain entryN (wpAny_of_eq hcn (g prog w A.in1 _ s h))) λr s1 hr=>?_
 cases r with
 | error e=>exact hr
 | ok fl =>
  cases fl with
  | ret obj =>
   obtain⟨hT,hq⟩:=hr
   have hli:=ft.init.lookup
   have hbi:=ft.init.bind obj
   repeat (any_goals (first | assumption | wp_step))
   refine codeAny_mono (codeAny_call_builtin ft.init.plain F.entry_object_init (ft.init.check _ _ _ _ _ _ _ _ hT (hok obj) (oi_kw hli hmade hne hk prog w A.in1 (wants (λr s2=>r=.none/\Q obj s2) E) s1 ⟨hT,rfl,hq⟩))) λr2 s2 hr2=>?_
   cases r2 with
   | error e=>exact hr2
   | ok fl2 =>
    cases fl2 with
    | ret r =>
     obtain⟨rfl,hq⟩:=hr2
     repeat (any_goals (first | assumption | wp_step))
    | _=>assumption
  | _=>assumption
end
end L2
namespace L2
open PyProof.Rows
section
variable{Mo:Model}{A:Around}{E:Value->Shared->Prop}{s:Shared}{env:Env}
theorem pB{pos:Pos}{T:String}{e:Expr}{aB:List Expr}{kws:List Keyword}{Q:Value->Shared->Prop}
  (h:wpAny Mo A (spliced (backTo pos (starEach (e::aB) env))) (λvs s1=>wpAny Mo A (evalAll ((backToKw pos (keywordEach kws env)).map (·.2))) (λkvs s2=>wpAny Mo A (call (.type T) vs (((backToKw pos (keywordEach kws env)).filterMap (·.1)).zip kvs)) Q E s2) E s1) E s)
  (he:backTo pos (starEach (e::aB) env)=(false,eval e env)::backTo pos (starEach aB env)) (hp:(backTo pos (starEach (e::aB) env)).any (·.1)=false)
  (ha:(backToKw pos (keywordEach kws env)).all (·.1.isSome)=true) (hk:(backToKw pos (keywordEach kws env)).any (·.1.isNone)=false) :
  wpAny Mo A (callWith pos (.type T) [] (backTo pos (starEach (e::aB) env)) (backToKw pos (keywordEach kws env))) Q E s:=by
 rw[he] at h hp ⊢
 refine wpAny_bind (wpAny_holding (wpAny_mono (evalArgs_kwB (Q:=λa s1=>wpAny Mo A (call (.type T) a.pos a.kw) Q E s1) ha h) (λa s1 h1=>wpAny_bind (wpAny_standAt ?_)) λ_ _ z=>z))
 rw[hp,hk]
 refine wpAny_bind (wpAny_pure ?_)
 exact wpAny_bind (wpAny_mono h1 (λr s2 hr=>wpAny_bind (wpAny_holding (wpAny_point (wpAny_pure hr)))) λ_ _ z=>z)
end
section
theorem yo(a b:Value):checkTypeCall "enumerate" ⟨[a],[(Str.ofString "start",b)]⟩=pure ():=by kernel_rfl
theorem zR(a b:Value):checkBuiltinCall "enumerate.__new__" ⟨[.type "enumerate",a],[(Str.ofString "start",b)]⟩=pure ():=by kernel_rfl
theorem Ao(o a b:Value):argsOk "object.__init__" ⟨[o,a],[(Str.ofString "start",b)]⟩:=by
 kernel_rfl
end
theorem AY{prog:Program}{w:World}{A:Around}{it l:Addr}(hh:A.handled=none)(hne:l≠it){its:Array Value}{i:Nat} :
  Draws prog w A.in1 it [it,l] 0 (λ_ _=>False) (λ_ h=>h.IsListIter it l i/\h.IsList l its/\its[i]?=none) where
 live:=λ_ _ st=>let ⟨o,ho,_⟩:=st.1;⟨o,ho⟩
 frame:=λ_ _ _ st hk=>⟨st.1.at λo e=>hk it (by simp) o e,st.2.1.at λo e=>hk l (by simp) o e,st.2.2⟩
 item:=λi s Q E hi=>by omega
 done:=λs Q E st k=>wpAny_nextOf_list_end (A:=A.in1) hh st.1 st.2.1 st.2.2 k
section
end
end L2
namespace L2
open PyProof.Rows
section
end
end L2
namespace DL
open PyProof.Rows L2
section
noncomputable def truD:D->Option Bool
 | .bool b=>some b
 | .str z=>if aJ z.length then some ((z.length:Int) != 0) else none
 | .list xs=>some (!xs.isEmpty)
 | _=>none
noncomputable def dTr(f:DS->M D):DS->M Bool:=λδ=>(f δ).thn λd=>M.lift (truD d)
theorem pdt_tr(he:PD X G e f)(h1:∀whole,isTrue e X.env whole=(do let v <- whole;standAt e.pos;holding [v] (truthy v)):=by intro _;rfl):PDT X G e (dTr f):=by
 obtain⟨t,p,he⟩:=he
 refine⟨_,yP p h1,λδ O σ H Q E k=>?_⟩
 refine he δ O σ H _ E (ah (ao k) λd z v H' s r=>?_)
 obtain⟨b,hb,z⟩:=b5 z
 refine⟨b,?_,z H' s⟩
 unfold truD at hb
 split at hb
 ·cases hb
  rw[r.bool_inv]
  rfl
 ·split at hb
  ·rename_i hs
   cases hb
   rw[r.str_inv]
   exact⟨bt hs,rfl⟩
  simp_all
 ·rename_i xs
  cases hb
  obtain⟨l,us,rfl,h2,rx⟩:=r.lst_inv
  refine .inl ⟨us,h2,?_⟩
  have:=rx.length
  grind
 simp_all
end
end DL
namespace SL
open PyProof.Rows L2 DL
inductive Val where
 | d (x:D)
 | h (k:Nat)
 | t (xs:List Val)
inductive Ob where
 | lst (xs:List Val)
 | dct (es:List (Key×Val))
 | ins (c:Str) (fs:List (Str×Val))
 | gone
abbrev av:=List (Option Val)
abbrev Sto:=List Ob
abbrev R(β:Type):=Option (Except (XD×Sto) β)
section
noncomputable def R.ret(b:β):R β:=some (.ok b)
noncomputable def R.thn(r:R β)(f:β->R γ):R γ:=match r with
 | none=>none
 | some (.ok a)=>f a
 | some (.error x)=>some (.error x)
def okR(G:XD->Sto->Prop)(r:R β)(k:β->Prop):Prop:=match r with
 | none=>False
 | some (.ok a)=>k a
 | some (.error x)=>G x.1 x.2
theorem au(h:okR G r k)(f:∀a,k a->k' a):okR G r k':=by
 match r,h with
 | some (.ok a),h=>exact f a h
 | some (.error x),h=>exact h
theorem aY(h:okR G r k)(f:∀x μ,G x μ->G' x μ):okR G' r k:=by
 match r,h with
 | some (.ok a),h=>exact h
 | some (.error x),h=>exact f _ _ h
theorem aq(h:okR G (r.thn f) k):okR G r (λa=>okR G (f a) k):=by
 match r,h with
 | some (.ok a),h=>exact h
 | some (.error x),h=>exact h
theorem aQ(a:β)(f:β->R γ):(R.ret a).thn f=f a:=rfl
end
noncomputable def ofM(r:M β)(μ:Sto):R β:=match r with
 | none=>none
 | some (.ok a)=>some (.ok a)
 | some (.error x)=>some (.error (x,μ))
mutual
inductive VR(K:ε)(O:List Addr)(α:List (Option Addr))(H:Hp):V->Val->Prop
 | d {v:V} {x:D} (r:Rep K O H v x):VR K O α H v (.d x)
 | h {k:Nat} {a:Addr} (e:α[k]?=some (some a)):VR K O α H (.ref a) (.h k)
 | t {a:Addr} {vs:List V} {xs:List Val} (s:SqT K H a vs) (rs:VRs K O α H vs xs):VR K O α H (.ref a) (.t xs)
inductive VRs(K:ε)(O:List Addr)(α:List (Option Addr))(H:Hp):List V->List Val->Prop
 | nil:VRs K O α H [] []
 | cons {v:V} {x:Val} {vs:List V} {xs:List Val} (r:VR K O α H v x) (rs:VRs K O α H vs xs):VRs K O α H (v::vs) (x::xs)
end
theorem VR.dinv{K:ε}{O:List Addr}{α:List (Option Addr)}{H:Hp}{v:V}{x:D}(r:VR K O α H v (.d x)):Rep K O H v x:=by cases r;omega
theorem VR.hinv{K:ε}{O:List Addr}{α:List (Option Addr)}{H:Hp}{v:V}{k:Nat}(r:VR K O α H v (.h k)):∃a,α[k]?=some (some a)/\v=.ref a:=by
 cases r with
 | h e=>simp_all
theorem VR.tinv{K:ε}{O:List Addr}{α:List (Option Addr)}{H:Hp}{v:V}{xs:List Val}(r:VR K O α H v (.t xs)):∃a vs,v=.ref a/\SqT K H a vs/\VRs K O α H vs xs:=by
 cases r with
 | t s rs=>exact⟨_,_,rfl,s,rs⟩
def OR(K:ε)(mg:Str->Option Value)(R0 O:List Addr)(α:List (Option Addr))(H:Hp)(a:Addr):Ob->Prop
 | .lst xs=>a∈O/\a∉R0/\∃vs,H a=some (.lst vs)/\VRs K O α H vs xs
 | .dct es=>a∈O/\a∉R0/\∃kvs,H a=some (.dK kvs)/\kvs.map (·.1)=es.map (·.1)/\VRs K O α H (kvs.map (·.2)) (es.map (·.2))
 | .ins c fs=>a∈O/\a∉R0/\∃C dx vfs,Ξ K mainGlobals c=some (some (.ref C))/\H a=some (.ins C dx vfs)/\vfs.map (·.1)=fs.map (·.1)/\VRs K O α H (vfs.map (·.2)) (fs.map (·.2))
 | .gone=>False
structure SR(K:ε)(mg:Str->Option Value)(R0 O:List Addr)(α:List (Option Addr))(H:Hp)(μ:Sto):Prop where
 len:α.length=μ.length
 nd:∀(i j:Nat) (a:Addr),α[i]?=some (some a)->α[j]?=some (some a)->i=j
 oo:∀l∈O,Mu H l
 sub:∀l∈R0,l∈O
 at_:∀(k:Nat) (a:Addr),α[k]?=some (some a)->∃ob,μ[k]?=some ob/\OR K mg R0 O α H a ob
structure Go(O0:List Addr)(α0:List (Option Addr))(H0:Hp)(O:List Addr)(α:List (Option Addr))(H:Hp):Prop where
 keep:∀b o,(∀k:Nat,α0[k]? ≠ some (some b))->H0 b=some o->H b=some o
 ex:∀(k:Nat) (a:Addr),α0[k]?=some (some a)->α[k]?=some (some a)
 len:α0.length<=α.length
 new:∀(k:Nat) (b:Addr),α[k]?=some (some b)->(α0[k]?=some (some b))\/H0 b=none
 ol:∀l∈O,l∈O0\/H0 l=none
 live:∀b,H b=none->H0 b=none
section
variable{K:ε}{mg:Str->Option Value}{R0 O O' O1:List Addr}{α α' α1:List (Option Addr)}{H H' H1:Hp}{μ μ':Sto}
theorem Go.refl:Go O α H O α H:=⟨λ_ _ _ h=>h,λ_ _ h=>h,ξ _,λ_ _ h=>.inl h,λ_ h=>.inl h,λ_ h=>h⟩
theorem qa(s:aE H H')(h:H' b=none):H b=none:=by
 cases q:H b with
 | none=>rfl
 | some o=>rw[s b o q] at h;cases h
theorem Go.same(s:aE H H'):Go O α H O α H':=⟨λb o _ h=>s b o h,λ_ _ h=>h,ξ _,λ_ _ h=>.inl h,λ_ h=>.inl h,λ_ h=>qa s h⟩
theorem SR.tracked(S:SR K mg R0 O α H μ){k:Nat}{a:Addr}(h:α[k]?=some (some a)):∃o,H a=some o/\(∀xs,o≠.tup xs)/\(∀u xs,o≠.frz u (.tup xs))/\(∀u xs,o≠.frz u (.lst xs))/\(∀u xs,o≠.frz u (.dK xs))/\(((∃xs,o=.lst xs)\/(∃xs,o=.dK xs)\/∃C dx fs,o=.ins C dx fs)->a∈O):=by
 obtain⟨ob,_,h⟩:=S.at_ k a h
 cases ob with
 | lst xs =>
  obtain⟨h1,_,vs,h2,_⟩:=h
  simp_all
 | dct es =>
  obtain⟨h1,_,vs,h2,_⟩:=h
  simp_all
 | ins c fs =>
  obtain⟨h1,_,C,dx,vfs,_,h2,_⟩:=h
  simp_all
 | gone=>exact h.elim
theorem Go.to(S:SR K mg R0 O α H μ)(T:Go O α H O' α' H'):To O O' H H':=by
 have tr:∀{b:Addr} {u:HO},(Rd H b u)->((∃xs,u=.tup xs)\/(((∃xs,u=.lst xs)\/(∃xs,u=.dK xs))/\b∉O))->∀k:Nat,α[k]? ≠ some (some b):=λ{b u} h hu k e=>by
  obtain⟨o,h1,h2,h3,h4,h5,h6⟩:=S.tracked e
  rcases h with h | ⟨w,h⟩
  all_goals grind
 have mv:∀{b:Addr} {u:HO},Rd H b u->(∀k:Nat,α[k]? ≠ some (some b))->Rd H' b u:=λ{b u} h n=>by
  rcases h with h | ⟨w,h⟩
  ·exact .inl (T.keep _ _ n h)
  ·exact .inr ⟨w,T.keep _ _ n h⟩
 have no:∀{b:Addr} {u:HO},Rd H b u->b∉O->b∉O':=λ{b u} h n z=>by
  rcases T.ol b z with z | z
  ·exact n z
  ·rcases h with h | ⟨w,h⟩<;>(rw[z] at h;cases h)
 refine⟨λb xs h=>mv h (tr h (.inl ⟨xs,rfl⟩)),λb xs n h=>⟨no h n,mv h (tr h (.inr ⟨.inl ⟨xs,rfl⟩,n⟩))⟩,λb xs n h=>⟨no h n,mv h (tr h (.inr ⟨.inr ⟨xs,rfl⟩,n⟩))⟩,λb C dx fs n h=>⟨no (.inl h) n,T.keep _ _ (λk e=>?_) h⟩⟩
 obtain⟨o,h1,_,_,_,_,h6⟩:=S.tracked e
 simp_all
theorem Go.trans(T:Go O α H O1 α1 H1)(U:Go O1 α1 H1 O' α' H'):Go O α H O' α' H':=by
 refine⟨λb o n h=>U.keep b o (λk e=>?_) (T.keep b o n h),λk a h=>U.ex k a (T.ex k a h),X8 T.len U.len,λk b h=>?_,λl hl=>?_,λb h=>T.live b (U.live b h)⟩
 ·rcases T.new k b e with z | z
  all_goals simp_all
 ·rcases U.new k b h with z | z
  ·exact T.new k b z
  ·exact .inr (T.live b z)
 ·rcases U.ol l hl with z | z
  ·exact T.ol l z
  ·exact .inr (T.live l z)
mutual
theorem VR.to(T:To O O' H H')(e:∀(k:Nat) (a:Addr),α[k]?=some (some a)->α'[k]?=some (some a)):∀{v:V} {x:Val},VR K O α H v x->VR K O' α' H' v x
 | _,_,.d r=>.d (Rep.to T r)
 | _,_,.h h=>.h (e _ _ h)
 | _,_,.t s rs=>.t (T.sqT s) (VRs.to T e rs)
theorem VRs.to(T:To O O' H H')(e:∀(k:Nat) (a:Addr),α[k]?=some (some a)->α'[k]?=some (some a)):∀{vs:List V} {xs:List Val},VRs K O α H vs xs->VRs K O' α' H' vs xs
 | _,_,.nil=>.nil
 | _,_,.cons r rs=>.cons (VR.to T e r) (VRs.to T e rs)
end
theorem VRs.length:∀{vs:List V} {xs:List Val},VRs K O α H vs xs->vs.length=xs.length
 | _,_,.nil=>rfl
 | _,_,.cons _ rs=>congrArg (· + 1) (VRs.length rs)
theorem VRs.get:∀{vs:List V} {xs:List Val} {i:Nat} {x:Val},VRs K O α H vs xs->xs[i]?=some x->∃v,vs[i]?=some v/\VR K O α H v x
 | _,_,_,_,.nil,e=>by simp at e
 | _,_,0,_,.cons r _,e=>by simp_all
 | _,_,i+1,x,.cons _ rs,e=>by
  obtain⟨u,h1,h2⟩:=VRs.get rs (by assumption)
  simp_all
theorem VRs.set{v:V}{x:Val}(r:VR K O α H v x):∀{vs:List V} {xs:List Val} (i:Nat),VRs K O α H vs xs->VRs K O α H (vs.set i v) (xs.set i x)
 | _,_,_,.nil=>.nil
 | _,_,0,.cons _ rs=>.cons r rs
 | _,_,i+1,.cons q rs=>.cons q (VRs.set r i rs)
theorem VRs.append:∀{vs us:List V} {xs ys:List Val},VRs K O α H vs xs->VRs K O α H us ys->VRs K O α H (vs++us) (xs++ys)
 | _,_,_,_,.nil,s=>s
 | _,_,_,_,.cons r t,s=>.cons r (VRs.append t s)
theorem VRs.data:∀{vs:List V} {ds:List D},Reps K O H vs ds->VRs K O α H vs (ds.map Val.d)
 | _,_,.nil=>.nil
 | _,_,.cons r rs=>.cons (.d r) (VRs.data rs)
theorem VRs.undata:∀{ds:List D} {vs:List V},VRs K O α H vs (ds.map Val.d)->Reps K O H vs ds
 | [],_,.nil=>.nil
 | _::_,_,.cons r rs=>.cons r.dinv (VRs.undata rs)
theorem OR.to(T:To O O' H H')(e:∀(k:Nat) (a:Addr),α[k]?=some (some a)->α'[k]?=some (some a)){a:Addr}{ob:Ob}(ho:a∈O->a∈O')(hh:H' a=H a)(r:OR K mg R0 O α H a ob):OR K mg R0 O' α' H' a ob:=by
 cases ob with
 | lst xs=>obtain⟨h1,h2,vs,h3,h4⟩:=r;exact⟨ho h1,h2,vs,by simp_all,h4.to T e⟩
 | dct es=>obtain⟨h1,h2,vs,h3,h4,h5⟩:=r;exact⟨ho h1,h2,vs,by simp_all,h4,h5.to T e⟩
 | ins c fs=>obtain⟨h0,hr,C,dx,vfs,h1,h3,h4,h5⟩:=r;exact⟨ho h0,hr,C,dx,vfs,h1,by simp_all,h4,h5.to T e⟩
 | gone=>exact r
theorem SR.same(s:aE H H')(S:SR K mg R0 O α H μ):SR K mg R0 O α H' μ:=by
 refine⟨S.len,S.nd,λl hl=>(S.oo l hl).same s,S.sub,λk a h=>?_⟩
 obtain⟨ob,h1,h2⟩:=S.at_ k a h
 obtain⟨o,h3,_⟩:=S.tracked h
 exact⟨ob,h1,h2.to (To.same s) (λ_ _ h=>h) (λh=>h) (by rw[h3];exact s a o h3)⟩
theorem SR.newL(S:SR K mg R0 O α H μ){l:Addr}{vs:List V}{xs:List Val}(hl:H l=none)(r:VRs K O α H vs xs):SR K mg R0 (l::O) (α++[some l]) (upd H l (.lst vs)) (μ++[.lst xs]):=by
 have T:To O (l::O) H (upd H l (.lst vs)):=To.own hl
 walk_at "a"
 have ne:∀(k:Nat) (a:Addr),α[k]?=some (some a)->a≠l:=λk a h z=>by
  obtain⟨o,h3,_⟩:=S.tracked h
  rw[z,hl] at h3;cases h3
 refine⟨by rw[η,η,S.len];rfl,λi j a h1 h2=>?_,λb hb=>?_,λb hb=>θ _ (S.sub b hb),λk a h=>?_⟩
 ·rcases cs i a h1 with h1 | ⟨h1,z⟩<;>rcases cs j a h2 with h2 | ⟨h2,z2⟩
  ·exact S.nd i j a h1 h2
  ·exact absurd z2 (ne i a h1)
  ·exact absurd z (ne j a h2)
  ·omega
 ·rcases ψ.mp hb with rfl | hb
  ·exact .inl ⟨vs,aA⟩
  ·exact(S.oo b hb).new hl
 ·rcases cs k a h with h | ⟨rfl,rfl⟩
  ·obtain⟨ob,h1,h2⟩:=S.at_ k a h
   exact⟨ob,by rw[ι (ρ.mp h1).1];exact h1,h2.to T e (λz=>θ _ z) (upd_ne (ne k a h))⟩
  ·refine⟨.lst xs,by rw[S.len,ο (ξ _),Y4];rfl,υ,λz=>?_,vs,aA,r.to T e⟩
   obtain⟨o,ho⟩:=(S.oo a (S.sub a z)).some
   rw[hl] at ho;cases ho
theorem Go.newL(hl:H l=none):Go O α H (l::O) (α++[some l]) (upd H l o):=by
 refine⟨λb u _ h=>by rw[upd_ne (aC h hl)];exact h,λk a h=>by grind,by simp,λk b h=>?_,λb hb=>?_,λb h=>?_⟩
 ·grind
 ·grind
 ·by_cases e:b=l
  ·simp_all
  ·rw[upd_ne e] at h;exact h
theorem SR.setL(S:SR K mg R0 O α H μ){k:Nat}{a:Addr}{xs:List Val}{vs':List V}{xs':List Val}(h:α[k]?=some (some a))(hk:μ[k]?=some (.lst xs))(r:VRs K O α H vs' xs'):SR K mg R0 O α (upd H a (.lst vs')) (μ.set k (.lst xs')):=by
 obtain⟨ob,h1,h2⟩:=S.at_ k a h
 rw[hk] at h1
 cases h1
 obtain⟨ho,hn,vs,hv,_⟩:=h2
 have T:To O O H (upd H a (.lst vs')):=To.set hv ho
 refine⟨by rw[Λ];exact S.len,S.nd,λl hl=>?_,S.sub,λj b hj=>?_⟩
 ·by_cases e:l=a
  ·subst e;exact .inl ⟨vs',aA⟩
  ·exact(S.oo l hl).upd_ne e
 ·by_cases e:j=k
  ·subst e
   rw[h] at hj
   cases hj
   exact⟨.lst xs',by rw[aW,if_pos rfl,if_pos (ρ.mp hk).1],ho,hn,vs',aA,r.to T λ_ _ h=>h⟩
  ·obtain⟨ob,g1,g2⟩:=S.at_ j b hj
   have hb:b≠a:=λz=>e (S.nd j k a (z▸hj) h)
   exact⟨ob,by rw[aW,if_neg (λz=>e z.symm)];exact g1,g2.to T (λ_ _ h=>h) (λz=>z) (upd_ne hb)⟩
theorem Go.setL{k:Nat}{a:Addr}{o:HO}(h:α[k]?=some (some a)):Go O α H O α (upd H a o):=by
 refine⟨λb u n hb=>?_,λ_ _ h=>h,ξ _,λ_ _ h=>.inl h,λ_ h=>.inl h,λb hb=>?_⟩
 ·rw[upd_ne (λz:b=a=>n k (by simp_all))];exact hb
 ·by_cases e:b=a
  ·subst e;rw[aA] at hb;cases hb
  ·rw[upd_ne e] at hb;exact hb
end
end SL
namespace SL
open PyProof.Rows L2 DL
structure An where
 R0:List Addr
 O:List Addr
 α:List (Option Addr)
 H:Hp
structure SEv(K:ε)(mg:Str->Option Value)(A:An)(O:List Addr)(α:List (Option Addr))(H:Hp)(σ:L2.St)(δ:av)(μ:Sto):Prop where
 sr:SR K mg A.R0 O α H μ
 st:Go A.O A.α A.H O α H
 len:σ.length=δ.length
 at_:∀(i:Nat) (x:Val),δ[i]?=some (some x)->∃v,σ[i]?=some (some v)/\VR K O α H v x
def Er(K:ε)(mg:Str->Option Value)(G:XD->Hp->Prop)(R0 O:List Addr)(α:List (Option Addr))(H:Hp)(x:XD)(μ:Sto):Prop:=∀O' α' H',Go O α H O' α' H'->SR K mg R0 O' α' H' μ->G x H'
def SX(X:Cx)(G:XD->Hp->Prop)(e:Expr)(f:av->Sto->R (Val×Sto)):Prop :=
 ∃t,PE X e t/\∀(A:An) (δ:av) (μ:Sto) (O:List Addr) (α:List (Option Addr)) (σ:L2.St) (H:Hp) (Q:VK),SEv X.K X.mg A O α H σ δ μ->okR (Er X.K X.mg G A.R0 O α H) (f δ μ) (λr=>∀v O' α' H',Go O α H O' α' H'->SR X.K X.mg A.R0 O' α' H' r.2->VR X.K O' α' H' v r.1->Q v H')->t σ H Q
def SA(X:Cx)(G:XD->Hp->Prop)(es:List Expr)(f:av->Sto->R (List Val×Sto)):Prop :=
 (∀δ μ r,f δ μ=some (.ok r)->r.1.length=es.length)/\∃t,PA X es t/\∀(A:An) (δ:av) (μ:Sto) (O:List Addr) (α:List (Option Addr)) (σ:L2.St) (H:Hp) (Q:List V->Hp->Prop),SEv X.K X.mg A O α H σ δ μ->okR (Er X.K X.mg G A.R0 O α H) (f δ μ) (λr=>∀vs O' α' H',Go O α H O' α' H'->SR X.K X.mg A.R0 O' α' H' r.2->VRs X.K O' α' H' vs r.1->Q vs H')->t σ H Q
def ST(X:Cx)(G:XD->Hp->Prop)(e:Expr)(f:av->Sto->R (Bool×Sto)):Prop :=
 ∃t,PT X e t/\∀(A:An) (δ:av) (μ:Sto) (O:List Addr) (α:List (Option Addr)) (σ:L2.St) (H:Hp) (Q:Bool->Hp->Prop),SEv X.K X.mg A O α H σ δ μ->okR (Er X.K X.mg G A.R0 O α H) (f δ μ) (λr=>∀O' α' H',Go O α H O' α' H'->SR X.K X.mg A.R0 O' α' H' r.2->Q r.1 H')->t σ H Q
inductive OutS where
 | nx (δ:av) (μ:Sto)
 | rt (v:Val) (μ:Sto)
 | bk (δ:av) (μ:Sto)
 | ct (δ:av) (μ:Sto)
def kn(K:ε)(mg:Str->Option Value)(A:An)(O0:List Addr)(α0:List (Option Addr))(H0:Hp)(Dn:Ends):OutS->Prop
 | .nx δ μ=>∀O α σ H,SEv K mg A O α H σ δ μ->Go O0 α0 H0 O α H->Dn.nx σ H
 | .rt x μ=>∀v O α H,SR K mg A.R0 O α H μ->Go A.O A.α A.H O α H->VR K O α H v x->Dn.rt v H
 | .bk δ μ=>∀O α σ H,SEv K mg A O α H σ δ μ->Go O0 α0 H0 O α H->Dn.bk σ H
 | .ct δ μ=>∀O α σ H,SEv K mg A O α H σ δ μ->Go O0 α0 H0 O α H->Dn.ct σ H
theorem kn.go{K:ε}{mg:Str->Option Value}{A:An}{O0 O1:List Addr}{α0 α1:List (Option Addr)}{H0 H1:Hp}{Dn:Ends}{o:OutS}(T:Go O0 α0 H0 O1 α1 H1)(h:kn K mg A O0 α0 H0 Dn o):kn K mg A O1 α1 H1 Dn o:=by
 cases o with
 | nx δ μ=>exact λO α σ H E U=>h O α σ H E (T.trans U)
 | rt x μ=>exact h
 | bk δ μ=>exact λO α σ H E U=>h O α σ H E (T.trans U)
 | ct δ μ=>exact λO α σ H E U=>h O α σ H E (T.trans U)
abbrev SG:=Nat->av->Sto->R OutS
def SS(X:Cx)(G:XD->Hp->Prop)(st:Stmt)(g:SG):Prop :=
 ∃t,PS X st t/\∀(A:An) (δ:av) (μ:Sto) (O:List Addr) (α:List (Option Addr)) (σ:L2.St) (H:Hp) (Dn:Ends),SEv X.K X.mg A O α H σ δ μ->okR (Er X.K X.mg G A.R0 A.O A.α A.H) (g A.α.length δ μ) (kn X.K X.mg A O α H Dn)->t Dn σ H
def SSs(X:Cx)(G:XD->Hp->Prop)(sts:List Stmt)(g:SG):Prop :=
 ∃t,PSs X sts t/\∀(A:An) (δ:av) (μ:Sto) (O:List Addr) (α:List (Option Addr)) (σ:L2.St) (H:Hp) (Dn:Ends),SEv X.K X.mg A O α H σ δ μ->okR (Er X.K X.mg G A.R0 A.O A.α A.H) (g A.α.length δ μ) (kn X.K X.mg A O α H Dn)->t Dn σ H
section
variable{K:ε}{mg:Str->Option Value}{A:An}{R0 O O' O1:List Addr}{α α' α1:List (Option Addr)}{H H' H1:Hp}{μ μ':Sto}{σ:L2.St}{δ:av}{G:XD->Hp->Prop}
theorem SEv.go(E:SEv K mg A O α H σ δ μ)(T:Go O α H O' α' H')(S:SR K mg A.R0 O' α' H' μ'):SEv K mg A O' α' H' σ δ μ' :=
 ⟨S,E.st.trans T,E.len,λi x h=>let ⟨v,h1,h2⟩:=E.at_ i x h;⟨v,h1,h2.to (T.to E.sr) T.ex⟩⟩
theorem SEv.same(E:SEv K mg A O α H σ δ μ)(s:aE H H'):SEv K mg A O α H' σ δ μ:=E.go (Go.same s) (E.sr.same s)
theorem SEv.set{i:Nat}{v:V}{x:Val}(E:SEv K mg A O α H σ δ μ)(r:VR K O α H v x):SEv K mg A O α H (σ.set i (some v)) (δ.set i (some x)) μ:=by
 refine⟨E.sr,E.st,by rw[Λ,Λ,E.len],λj y h=>?_⟩
 rw[aW] at h
 by_cases hij:i=j
 ·subst hij
  rw[if_pos rfl] at h
  split at h
  ·cases h
   rename_i hl
   exact⟨v,by rw[aW,if_pos rfl,if_pos (by rw[E.len];exact hl)],r⟩
  simp_all
 ·rw[if_neg hij] at h
  obtain⟨w,h1,h2⟩:=E.at_ j y h
  simp_all
theorem Er.go{x:XD}(T:Go O α H O' α' H')(h:Er K mg G R0 O α H x μ):Er K mg G R0 O' α' H' x μ:=λO2 α2 H2 U S=>h O2 α2 H2 (T.trans U) S
noncomputable def v0:Option Val->Sl
 | some (.d x)=>.vl x
 | _=>.un
noncomputable def view(δ:av):DS:=δ.map v0
theorem sj{i:Nat}{s:Sl}(h:(view δ)[i]?=some s):(∃x,δ[i]?=some (some (.d x))/\s=.vl x)\/s=.un:=by
 unfold view at h
 rw[Γ] at h
 cases e:δ[i]? with
 | none=>simp_all
 | some o =>
  rw[e] at h
  cases o with
  | none=>cases h;exact .inr rfl
  | some x =>
   cases x with
   | d x=>cases h;exact .inl ⟨x,rfl,rfl⟩
   | h k=>cases h;exact .inr rfl
   | t xs=>cases h;exact .inr rfl
theorem SEv.view(E:SEv K mg A O α H σ δ μ):Ev K H O H σ (view δ):=by
 refine⟨aE.refl H,E.sr.oo,by unfold SL.view;rw[ς];exact E.len,λi s h=>?_,λi j l ds es hij h1=>?_⟩
 ·rcases sj h with ⟨x,h1,rfl⟩ | rfl
  ·obtain⟨v,g1,g2⟩:=E.at_ i _ h1
   exact⟨v,g1,g2.dinv⟩
  ·trivial
 ·rcases sj h1 with ⟨x,_,z⟩ | z<;>cases z
noncomputable def eS:List Val->Option (List D)
 | []=>some []
 | .d x::r=>(eS r).map (x :: ·)
 | _::_=>none
theorem gR:∀{xs:List Val} {ds:List D},eS xs=some ds->xs=ds.map Val.d
 | [],ds,h=>by cases h;rfl
 | .d x::r,ds,h=>by
  unfold eS at h
  cases e:eS r with
  | none=>simp_all
  | some q=>rw[e] at h;cases h;rw[gR e];rfl
theorem u7(ds:List D):eS (ds.map Val.d)=some ds:=by
 induction ds with
 | nil=>rfl
 | cons d r ih=>show(eS (r.map Val.d)).map (d :: ·)=_;simp_all
noncomputable def lv1(n:Nat)(μ:Sto):Val->Option D
 | .d x=>some x
 | .h k=>if n<=k then (match μ[k]? with
  | some (.lst xs)=>(eS xs).map Θ
  | _=>none) else none
 | .t _=>none
noncomputable def ly(n:Nat)(μ:Sto):List Val->Option (List D)
 | []=>some []
 | x::xs=>match lv1 n μ x,ly n μ xs with
  | some d,some ds=>some (d::ds)
  | _,_=>none
noncomputable def lv2(n:Nat)(μ:Sto):Val->Option D
 | .d x=>some x
 | .h k=>if n<=k then (match μ[k]? with
  | some (.lst xs)=>(ly n μ xs).map Θ
  | _=>none) else none
 | .t xs=>(ly n μ xs).map W9
noncomputable def v1(n:Nat)(μ:Sto):Option Val->Sl
 | some x=>match lv2 n μ x with
  | some d=>.vl d
  | none=>.un
 | none=>.un
noncomputable def viewL(n:Nat)(μ:Sto)(δ:av):DS:=δ.map (v1 n μ)
theorem xt(n:Nat)(μ:Sto)(ds:List D):ly n μ (ds.map Val.d)=some ds:=by
 induction ds with
 | nil=>rfl
 | cons d ds ih=>show(match lv1 n μ (.d d),ly n μ (ds.map Val.d) with | some d,some ds=>some (d::ds) | _,_=>none)=_;rw[ih];rfl
theorem v1_of(h:lv2 n μ x=some d):v1 n μ (some x)=.vl d:=by
 show(match lv2 n μ x with | some d=>Sl.vl d | none=>.un)=_
 rw[h]
theorem lv2_h(hn:n<=k)(h:μ[k]?=some (.lst xs))(hx:ly n μ xs=some ds):lv2 n μ (.h k)=some (.list ds):=by
 show(if n<=k then (match μ[k]? with | some (.lst xs)=>(ly n μ xs).map Θ | _=>none) else none)=_
 simp_all
theorem v1_h(hn:n<=k)(h:μ[k]?=some (.lst (ds.map Val.d))):v1 n μ (some (.h k))=.vl (.list ds):=v1_of (lv2_h hn h (xt n μ ds))
section
variable{n:Nat}
theorem C3(S:SR K mg R0 O α H μ)(T:To O O' H H)(hn:∀(k:Nat) (a:Addr) (xs:List Val),α[k]?=some (some a)->n<=k->μ[k]?=some (.lst xs)->a∉O'){v:V}{x:Val}{d:D}(r:VR K O α H v x)(h:lv1 n μ x=some d):Rep K O' H v d:=by
 cases x with
 | d x=>cases h;exact Rep.to T r.dinv
 | t xs=>cases h
 | h k =>
  obtain⟨a,ha,rfl⟩:=r.hinv
  have h:(if n<=k then (match μ[k]? with | some (.lst xs)=>(eS xs).map Θ | _=>none) else none)=some d:=h
  by_cases hk:n<=k
  ·rw[if_pos hk] at h
   obtain⟨ob,g1,g2⟩:=S.at_ k a ha
   rw[g1] at h
   cases ob with
   | lst xs =>
    have h:(eS xs).map Θ=some d:=h
    cases e:eS xs with
    | none=>simp_all
    | some ds =>
     rw[e] at h
     cases h
     obtain⟨_,_,vs,g5,g6⟩:=g2
     rw[gR e] at g6
     exact .lst (.inl g5) (hn k a xs ha hk g1) (g6.undata.to T)
   | dct es=>cases h
   | ins c fs=>cases h
   | gone=>cases h
  simp_all
theorem oO(S:SR K mg R0 O α H μ)(T:To O O' H H)(hn:∀(k:Nat) (a:Addr) (xs:List Val),α[k]?=some (some a)->n<=k->μ[k]?=some (.lst xs)->a∉O'):∀{xs:List Val} {vs:List V} {ds:List D},VRs K O α H vs xs->ly n μ xs=some ds->Reps K O' H vs ds
 | [],_,ds,.nil,h=>by cases h;exact .nil
 | x::xs,_,ds,.cons r rs,h=>by
  unfold ly at h
  split at h
  ·rename_i d ds' e1 e2
   cases h
   exact .cons (C3 S T hn r e1) (oO S T hn rs e2)
  simp_all
theorem C2(S:SR K mg R0 O α H μ)(T:To O O' H H)(hn:∀(k:Nat) (a:Addr) (xs:List Val),α[k]?=some (some a)->n<=k->μ[k]?=some (.lst xs)->a∉O')(r:VR K O α H v x)(h:lv2 n μ x=some d):Rep K O' H v d:=by
 cases x with
 | d x=>cases h;exact Rep.to T r.dinv
 | t xs =>
  obtain⟨a,vs,rfl,hs,rs⟩:=r.tinv
  have h:(ly n μ xs).map W9=some d:=h
  cases e:ly n μ xs with
  | none=>simp_all
  | some ds =>
   rw[e] at h
   cases h
   exact .tup hs (oO S T hn rs e)
 | h k =>
  obtain⟨a,ha,rfl⟩:=r.hinv
  have h:(if n<=k then (match μ[k]? with | some (.lst xs)=>(ly n μ xs).map Θ | _=>none) else none)=some d:=h
  by_cases hk:n<=k
  ·rw[if_pos hk] at h
   obtain⟨ob,g1,g2⟩:=S.at_ k a ha
   rw[g1] at h
   cases ob with
   | lst xs =>
    have h:(ly n μ xs).map Θ=some d:=h
    cases e:ly n μ xs with
    | none=>simp_all
    | some ds =>
     rw[e] at h
     cases h
     obtain⟨_,_,vs,g5,g6⟩:=g2
     exact .lst (.inl g5) (hn k a xs ha hk g1) (oO S T hn g6 e)
   | dct es=>cases h
   | ins c fs=>cases h
   | gone=>cases h
  simp_all
end
theorem pM{n i:Nat}{s:Sl}(h:(viewL n μ δ)[i]?=some s):(∃x d,δ[i]?=some (some x)/\lv2 n μ x=some d/\s=.vl d)\/s=.un:=by
 unfold viewL at h
 rw[Γ] at h
 cases e:δ[i]? with
 | none=>simp_all
 | some o =>
  rw[e] at h
  cases o with
  | none=>cases h;exact .inr rfl
  | some x =>
   have h:some (match lv2 n μ x with | some d=>Sl.vl d | none=>.un)=some s:=h
   grind
theorem SEv.viewL{n:Nat}(E:SEv K mg A O α H σ δ μ)(hs:∀l∈O',l∈O)(hn:∀(k:Nat) (a:Addr) (xs:List Val),α[k]?=some (some a)->n<=k->μ[k]?=some (.lst xs)->a∉O'):Ev K H O' H σ (SL.viewL n μ δ):=by
 have T:To O O' H H:=.less hs
 refine⟨aE.refl H,λl hl=>E.sr.oo l (hs l hl),by unfold SL.viewL;rw[ς];exact E.len,λi s h=>?_,λi j l ds es hij h1=>?_⟩
 ·rcases pM h with ⟨x,d,h1,h2,rfl⟩ | rfl
  ·obtain⟨v,g1,g2⟩:=E.at_ i _ h1
   exact⟨v,g1,C2 E.sr T hn g2 h2⟩
  ·trivial
 ·rcases pM h1 with ⟨x,d,_,_,z⟩ | z<;>cases z
end
section
variable{X:Cx}{G:XD->Hp->Prop}{a b c e:Expr}{es aB:List Expr}{pos pos':Pos}{st:Stmt}{sts sts':List Stmt}
noncomputable def bN(f:DS->M D):av->Sto->R (Val×Sto):=λδ μ=>(ofM (f (view δ)) μ).thn λd=>R.ret (.d d,μ)
theorem dQ{β:Type}{K:ε}{mg:Str->Option Value}{R0 O:List Addr}{α:List (Option Addr)}{H:Hp}{μ:Sto}{r:M β}{k:β->Prop}(S:SR K mg R0 O α H μ)(h:okR (Er K mg G R0 O α H) (ofM r μ) k):ok (GS G H) r k:=by
 match r,h with
 | some (.ok a),h=>exact h
 | some (.error x),h=>exact λH' s=>h O α H' (Go.same s) (S.same s)
theorem qK{f:DS->M D}(h:PD X G e f):SX X G e (bN f):=by
 obtain⟨t,p,h⟩:=h
 refine⟨t,p,λA δ μ O α σ H Q E k=>?_⟩
 refine h (view δ) O σ H Q E.view (ah (dQ E.sr (aq k)) λd z v H' s r=>z v O α H' (Go.same s) (E.sr.same s) (.d r))
noncomputable def sD(f:DS->M D):av->Sto->R (Val×Sto):=λδ μ=>(ofM (f (viewL 0 μ δ)) μ).thn λd=>if bA d=true then R.ret (.d d,μ) else none
theorem Bs{f:DS->M D}(h:PD X G e f):SX X G e (sD f):=by
 obtain⟨t,p,h⟩:=h
 refine⟨t,p,λA δ μ O α σ H Q E k=>?_⟩
 refine h (viewL 0 μ δ) A.R0 σ H Q (E.viewL E.sr.sub λk a xs ha _ hx=>?_) (ah (dQ E.sr (aq k)) λd z v H' s r=>?_)
 ·obtain⟨ob,h1,h2⟩:=E.sr.at_ k a ha
  rw[hx] at h1
  cases h1
  exact h2.2.1
 ·by_cases hf:bA d=true
  ·rw[if_pos hf] at z
   exact z v O α H' (Go.same s) (E.sr.same s) (.d (r.flat hf))
  ·rw[if_neg hf] at z;exact z.elim
end
end SL
namespace SL
open PyProof.Rows L2 DL
section
variable{X:Cx}{G:XD->Hp->Prop}{a b c e ix:Expr}{es aB:List Expr}{pos pos' tpos:Pos}{st:Stmt}{sts sts':List Stmt}
noncomputable def aI(i:Nat):av->Sto->R (Val×Sto):=λδ μ=>match δ[i]? with
 | some (some x)=>R.ret (x,μ)
 | _=>none
theorem mf(h:PE X e (ld i)):SX X G e (aI i):=by
 refine⟨_,h,λA δ μ O α σ H Q E k=>?_⟩
 unfold aI at k
 split at k
 ·rename_i x hx
  obtain⟨v,h1,h2⟩:=E.at_ i x hx
  exact⟨v,h1,k v O α H Go.refl E.sr h2⟩
 ·exact k.elim
noncomputable def iP:av->Sto->R (List Val×Sto):=λ_ μ=>R.ret ([],μ)
noncomputable def bZ(f:av->Sto->R (Val×Sto))(fa:av->Sto->R (List Val×Sto)):av->Sto->R (List Val×Sto):=λδ μ=>(f δ μ).thn λr=>(fa δ r.2).thn λq=>R.ret (r.1::q.1,q.2)
theorem sa_nil:SA X G [] iP:=by
 refine⟨λδ μ r h=>by cases h;rfl,_,iS,λA δ μ O α σ H Q E k=>k [] O α H Go.refl E.sr .nil⟩
theorem BM(ha:SX X G e f)(hr:SA X G es fa)(hs:`we:=by rfl):SA X G (e::es) (bZ f fa):=by
 obtain⟨t,p,ha⟩:=ha
 obtain⟨hl,u,q,hr⟩:=hr
 refine⟨λδ μ r h=>?_,_,e8 p q hs,λA δ μ O α σ H Q E k=>?_⟩
 ·unfold bZ at h
  cases e1:f δ μ with
  | none=>rw[e1] at h;cases h
  | some r1 =>
   rw[e1] at h
   cases r1 with
   | error x=>cases h
   | ok x =>
    have h:R.thn (fa δ x.2) _=_:=h
    cases e2:fa δ x.2 with
    | none=>rw[e2] at h;cases h
    | some r2 =>
     rw[e2] at h
     cases r2 with
     | error x=>cases h
     | ok xs =>
      cases h
      grind
 ·refine ha A δ μ O α σ H _ E (au (aq k) λr z v O1 α1 H1 T1 S1 r1=>?_)
  refine hr A δ r.2 O1 α1 σ H1 _ (E.go T1 S1) (au (aY (aq z) λx μ h=>Er.go T1 h) λq y vs O2 α2 H2 T2 S2 rs=>?_)
  exact y (v::vs) O2 α2 H2 (T1.trans T2) S2 (.cons (r1.to (T2.to S1) T2.ex) rs)
noncomputable def gK(fb:DS->M Bool):av->Sto->R (Bool×Sto):=λδ μ=>(ofM (fb (viewL 0 μ δ)) μ).thn λb=>R.ret (b,μ)
theorem Bx{fb:DS->M Bool}(h:PDT X G e fb):ST X G e (gK fb):=by
 obtain⟨t,p,h⟩:=h
 refine⟨t,p,λA δ μ O α σ H Q E k=>?_⟩
 refine h (viewL 0 μ δ) A.R0 σ H Q (E.viewL E.sr.sub λk a xs ha _ hx=>?_) (ah (dQ E.sr (aq k)) λd z H' s=>z O α H' (Go.same s) (E.sr.same s))
 obtain⟨ob,h1,h2⟩:=E.sr.at_ k a ha
 rw[hx] at h1
 cases h1
 exact h2.2.1
noncomputable def jv:SG:=λ_ δ μ=>R.ret (.nx δ μ)
noncomputable def bo(g h:SG):SG:=λn δ μ=>(g n δ μ).thn λo=>match o with
 | .nx δ' μ'=>h n δ' μ'
 | o=>R.ret o
theorem vx:SSs X G [] jv:=⟨_,qS,λA δ μ O α σ H Dn E k=>k O α σ H E Go.refl⟩
theorem qO{g:SG}(h:SS X G st g):SSs X G [st] g:=by
 obtain⟨t,p,h⟩:=h
 exact⟨_,ny p,h⟩
theorem aU{g h:SG}(h1:SS X G st g)(h2:SSs X G sts h):SSs X G (st::sts) (bo g h):=by
 obtain⟨t,p,h1⟩:=h1
 obtain⟨u,q,h2⟩:=h2
 refine⟨_,lj p q,λA δ μ O α σ H Dn E k=>?_⟩
 refine h1 A δ μ O α σ H _ E (au (aq k) λo z=>?_)
 cases o with
 | nx δ' μ'=>exact λO' α' σ' H' E' T=>h2 A δ' μ' O' α' σ' H' Dn E' (au z λo w=>w.go T)
 | rt v μ'=>exact z
 | bk δ' μ'=>exact z
 | ct δ' μ'=>exact z
noncomputable def sIf(c:av->Sto->R (Bool×Sto))(g h:SG):SG:=λn δ μ=>(c δ μ).thn λr=>if r.1=true then g n δ r.2 else h n δ r.2
theorem ss_if(hc:ST X G c fc)(h1:SSs X G sts g)(h2:SSs X G sts' h):SS X G (.If c sts sts' pos) (sIf fc g h):=by
 obtain⟨t,p,hc⟩:=hc
 obtain⟨u,q,h1⟩:=h1
 obtain⟨w,r,h2⟩:=h2
 refine⟨_,yR p q r,λA δ μ O α σ H Dn E k=>?_⟩
 refine hc A δ μ O α σ H _ E (au (aY (aq k) λx μ h=>Er.go E.st h) λr z O1 α1 H1 T1 S1=>?_)
 cases hb:r.1 with
 | true =>
  rw[hb,if_pos rfl] at z
  exact h1 A δ r.2 O1 α1 σ H1 Dn (E.go T1 S1) (au z λo w=>w.go T1)
 | false =>
  rw[hb,if_neg Z8] at z
  exact h2 A δ r.2 O1 α1 σ H1 Dn (E.go T1 S1) (au z λo w=>w.go T1)
noncomputable def cF(i:Nat)(f:av->Sto->R (Val×Sto)):SG:=λ_ δ μ=>(f δ μ).thn λr=>R.ret (.nx (δ.set i (some r.1)) r.2)
theorem uk(hN:X.N.Nodup)(hi:X.N[i]?=some x)(hx:Loc X.env.scope x)(he:SX X G e f)(hs:swapsWith e (some (.Name x pos')) pos.line X.env=pure false:=by rfl)(hf:X.fn x=true\/X.env.scope.names.lookup x=some .local:=by first | exact .inl rfl | exact .inr rfl | assumption) :
  SS X G (.Assign [.Name x pos'] e pos) (cF i f):=by
 obtain⟨t,p,he⟩:=he
 refine⟨_,mq hN hi hx p hs hf,λA δ μ O α σ H Dn E k=>?_⟩
 refine he A δ μ O α σ H _ E (au (aY (aq k) λx μ h=>Er.go E.st h) λr z v O1 α1 H1 T1 S1 r1=>?_)
 exact z O1 α1 _ H1 ((E.go T1 S1).set r1) T1
noncomputable def pU(i:Nat)(fn:DS->M (List D)):SG:=λ_ δ μ=>(ofM (fn (view δ)) μ).thn λds=>R.ret (.nx (δ.set i (some (.h μ.length))) (μ++[.lst (ds.map Val.d)]))
theorem BB{i:Nat}{x:Str}{fn:DS->M (List D)}(hN:X.N.Nodup)(hi:X.N[i]?=some x)(hx:Loc X.env.scope x)(he:PDN X G e fn)(hs:swapsWith e (some (.Name x pos')) pos.line X.env=pure false:=by rfl)(hf:X.fn x=true\/X.env.scope.names.lookup x=some .local:=by first | exact .inl rfl | exact .inr rfl | assumption) :
  SS X G (.Assign [.Name x pos'] e pos) (pU i fn):=by
 obtain⟨t,p,he⟩:=he
 refine⟨_,mq hN hi hx p hs hf,λA δ μ O α σ H Dn E k=>?_⟩
 refine he (view δ) O σ H _ E.view (ah (dQ E.sr (aY (aq k) λx μ h=>Er.go E.st h)) λds z l xs H1 s1 hl rx=>?_)
 have E1:=E.same s1
 have S1:=E1.sr.newL hl (VRs.data rx)
 refine z (l::O) (α++[some l]) _ _ ((E1.go (Go.newL hl) S1).set (.h ?_)) ((Go.same s1).trans (Go.newL hl))
 rw[<-E.sr.len,ο (ξ _),Y4]
 rfl
noncomputable def pS(i:Nat)(fi f:av->Sto->R (Val×Sto)):SG:=λ_ δ μ=>(f δ μ).thn λr=>(match δ[i]? with
 | some (some (.h k))=>(fi δ r.2).thn λq=>match q.1,q.2[k]? with
  | .d (.int n),some (.lst xs)=>match ixN xs.length n with
   | some j=>R.ret (.nx δ (q.2.set k (.lst (xs.set j r.1))))
   | none=>none
  | _,_=>none
 | _=>none)
theorem Bz(hv:PE X a (ld i))(hi:SX X G ix fi)(he:SX X G e f)
  (ha:∀v,assign (.Subscript a ix tpos) X.env v=(do
   let ov <- holding [v] (eval a X.env)
   let iv <- holding [v,ov] (eval ix X.env)
   standAt tpos
   holding [v,ov,iv] (setItem ov iv v)
   release [v,ov,iv] []):=by intro _;rfl)
  (hs:swapsWithSole [.Subscript a ix tpos] e pos.line X.env=pure false:=by rfl) (hw:swappedStores [.Subscript a ix tpos] e X.env=pure none:=by rfl)
  (h1:(assignEach [.Subscript a ix tpos] X.env).map (·.2)=[assign (.Subscript a ix tpos) X.env]:=by rfl):SS X G (.Assign [.Subscript a ix tpos] e pos) (pS i fi f):=by
 obtain⟨t,p,he⟩:=he
 obtain⟨u,q,hi⟩:=hi
 refine⟨_,uw p (yZ hv q n6 ha) hs hw h1,λA δ μ O α σ H Dn E k=>?_⟩
 refine he A δ μ O α σ H _ E (au (aY (aq k) λx μ h=>Er.go E.st h) λr z v O1 α1 H1 T1 S1 r1=>?_)
 have E1:=E.go T1 S1
 split at z
 ·rename_i kk hd
  obtain⟨w,q1,q2⟩:=E1.at_ i _ hd
  obtain⟨l,q3,rfl⟩:=q2.hinv
  refine⟨.ref l,q1,?_⟩
  refine hi A δ r.2 O1 α1 σ H1 _ E1 (au (aY (aq z) λx μ h=>Er.go E1.st h) λqq y kv O2 α2 H2 T2 S2 r2=>?_)
  split at y
  ·rename_i n xs hq hk
   rw[hq] at r2
   have hkv:=Rep.int_inv r2.dinv
   subst hkv
   have q3':=T2.ex _ _ q3
   obtain⟨ob,g1,g2⟩:=S2.at_ kk l q3'
   rw[hk] at g1
   cases g1
   obtain⟨g3,g4,vs,g5,g6⟩:=g2
   cases hj:ixN xs.length n with
   | none=>rw[hj] at y;exact y.elim
   | some j =>
    rw[hj] at y
    refine⟨l,vs,n,j,rfl,rfl,g5,by rw[g6.length];exact hj,?_⟩
    have r1':=r1.to (T2.to S1) T2.ex
    exact y O2 α2 σ _ (((E1.go T2 S2)).go (Go.setL q3') (S2.setL q3' hk (g6.set r1' j))) (T1.trans (T2.trans (Go.setL q3')))
  ·exact y.elim
 ·exact z.elim
noncomputable def sC(f:av->Sto->R (Val×Sto)):SG:=λ_ δ μ=>(f δ μ).thn λr=>R.ret (.rt r.1 r.2)
theorem ss_ret(he:SX X G e f):SS X G (.Return (some e) pos) (sC f):=by
 obtain⟨t,p,he⟩:=he
 refine⟨_,jx p,λA δ μ O α σ H Dn E k=>?_⟩
 exact he A δ μ O α σ H _ E (au (aY (aq k) λx μ h=>Er.go E.st h) λr z v O1 α1 H1 T1 S1 r1=>z v O1 α1 H1 S1 (E.st.trans T1) r1)
mutual
noncomputable def wG(n:Nat):Val->Bool
 | .d _=>true
 | .h k=>decide (k<n)
 | .t xs=>iG n xs
noncomputable def iG(n:Nat):List Val->Bool
 | []=>true
 | x::xs=>wG n x&&iG n xs
end
noncomputable def lY(n:Nat):Ob->Bool
 | .lst xs=>iG n xs
 | .dct es=>iG n (es.map (·.2))
 | .ins _ fs=>iG n (fs.map (·.2))
 | .gone=>true
noncomputable def oe(f:DS->M D):SG:=λn δ μ=>if (μ.take n).all (lY n)=true then (ofM (f (viewL n μ δ)) μ).thn λd=>R.ret (.rt (.d d) (μ.take n)) else none
section
variable{K:ε}{mg:Str->Option Value}{R0 O O':List Addr}{α α':List (Option Addr)}{H H':Hp}{μ:Sto}
mutual
theorem VR.cut{n:Nat}(T:To O O' H H'):∀{v:V} {x:Val},wG n x=true->VR K O α H v x->VR K O' (α.take n) H' v x
 | _,_,_,.d r=>.d (Rep.to T r)
 | _,.h k,hc,.h e=>by
  have hk:k<n:=of_decide_eq_true hc
  exact .h (by rw[T6,if_pos hk];exact e)
 | _,.t xs,hc,.t s rs=>.t (T.sqT s) (VRs.cut T hc rs)
theorem VRs.cut{n:Nat}(T:To O O' H H'):∀{vs:List V} {xs:List Val},iG n xs=true->VRs K O α H vs xs->VRs K O' (α.take n) H' vs xs
 | _,_,_,.nil=>.nil
 | _,_::_,hc,.cons r rs=>.cons (VR.cut T (Bool.and_eq_true_iff.mp hc).1 r) (VRs.cut T (Bool.and_eq_true_iff.mp hc).2 rs)
end
theorem SR.cut{n:Nat}(S:SR K mg R0 O α H μ)(hs:∀l∈O',l∈O)(hr:∀l∈R0,l∈O')(hk:∀(k:Nat) (a:Addr),k<n->α[k]?=some (some a)->a∈O->a∈O')(hc:(μ.take n).all (lY n)=true):SR K mg R0 O' (α.take n) H (μ.take n):=by
 have T:To O O' H H:=.less hs
 have gt:∀(k:Nat) (a:Addr),(α.take n)[k]?=some (some a)->k<n/\α[k]?=some (some a):=λk a h=>by
  rw[T6] at h
  split at h
  ·rename_i hk;exact⟨hk,h⟩
  ·cases h
 refine⟨by rw[List.length_take,List.length_take,S.len],λi j a h1 h2=>S.nd i j a (gt i a h1).2 (gt j a h2).2,λl hl=>S.oo l (hs l hl),hr,λk a h=>?_⟩
 obtain⟨h1,h2⟩:=gt k a h
 obtain⟨ob,g1,g2⟩:=S.at_ k a h2
 have gk:(μ.take n)[k]?=some ob:=by rw[T6,if_pos h1];exact g1
 have hco:lY n ob=true:=U6.mp hc ob (Z9 gk)
 refine⟨ob,gk,?_⟩
 cases ob with
 | lst xs=>obtain⟨p1,p2,vs,p3,p4⟩:=g2;exact⟨hk k a h1 h2 p1,p2,vs,p3,p4.cut T hco⟩
 | dct es =>
  obtain⟨p1,p2,kvs,p3,p4,p5⟩:=g2
  exact⟨hk k a h1 h2 p1,p2,kvs,p3,p4,p5.cut T hco⟩
 | ins c fs =>
  obtain⟨p1,pr,C,dx,vfs,p2,p3,p4,p5⟩:=g2
  exact⟨hk k a h1 h2 p1,pr,C,dx,vfs,p2,p3,p4,p5.cut T hco⟩
 | gone=>exact g2
end
theorem vy(h:PD X G e f):SS X G (.Return (some e) pos) (oe f):=by
 obtain⟨t,p,h⟩:=h
 refine⟨_,jx p,λA δ μ O α σ H Dn E k=>?_⟩
 unfold oe at k
 by_cases hc:(μ.take A.α.length).all (lY A.α.length)=true
 ·rw[if_pos hc] at k
  obtain⟨O',hO'⟩:∃O':List Addr,∀l,l∈O'↔l∈O/\∀k:Nat,A.α.length<=k->α[k]? ≠ some (some l):=by
   refine⟨O.filter λl=>decide ((some l)∉α.drop A.α.length),λl=>?_⟩
   rw[Y6,decide_eq_true_eq]
   refine and_congr Iff.rfl ⟨λhn k hk he=>hn (List.mem_iff_getElem?.mpr ⟨k-A.α.length,by simp_all⟩),λhn hm=>?_⟩
   obtain⟨j,hj⟩:=List.mem_iff_getElem?.mp hm
   simp_all
  have hs:∀l∈O',l∈O:=λl hl=>((hO' l).mp hl).1
  refine h (viewL A.α.length μ δ) O' σ H _ (E.viewL hs λk a xs ha hk _ hm=>((hO' a).mp hm).2 k hk ha) (ah (dQ E.sr (aY (aq k) λx μ h=>Er.go E.st h)) λd z v H' s r=>?_)
  have E':=E.same s
  have hlt:∀(k:Nat) (a:Addr),k<A.α.length->α[k]?=some (some a)->a∈O->a∈O':=λk a hk ha ho=>(hO' a).mpr ⟨ho,λj hj hz=>by
   have:=E.sr.nd k j a ha hz
   omega⟩
  refine z v O' (α.take A.α.length) H' (E'.sr.cut hs (λl hl=>(hO' l).mpr ⟨E.sr.sub l hl,λk _ hz=>?_⟩) hlt hc) ?_ (.d r)
  ·obtain⟨ob,g1,g2⟩:=E.sr.at_ k l hz
   cases ob with
   | lst xs=>exact g2.2.1 hl
   | dct es=>exact g2.2.1 hl
   | ins c fs=>exact g2.2.1 hl
   | gone=>exact g2
  ·have g:=E'.st
   refine⟨g.keep,λk a hk=>?_,?_,λk b hk=>?_,λl hl=>g.ol l (hs l hl),g.live⟩
   ·rw[T6,if_pos (ρ.mp hk).1];exact g.ex k a hk
   ·rw[List.length_take];have:=g.len;omega
   ·rw[T6] at hk
    split at hk
    ·exact g.new k b hk
    simp_all
 ·rw[if_neg hc] at k;exact k.elim
noncomputable def il(f:av->Sto->R (Val×Sto)):SG:=λ_ δ μ=>(f δ μ).thn λr=>R.ret (.nx δ r.2)
theorem BD(he:SX X G e f)(hs:swapsWith e none pos.line X.env=pure false:=by rfl):SS X G (.Expr e pos) (il f):=by
 obtain⟨t,p,he⟩:=he
 refine⟨_,qT p hs,λA δ μ O α σ H Dn E k=>?_⟩
 exact he A δ μ O α σ H _ E (au (aY (aq k) λx μ h=>Er.go E.st h) λr z v O1 α1 H1 T1 S1 r1=>z O1 α1 σ H1 (E.go T1 S1) T1)
def SGT(X:Cx)(tg:Expr)(g:D->av->Option av):Prop :=
 ∃t,PG X tg t/\∀(A:An) (δ δ':av) (d:D) (v:V) (O:List Addr) (α:List (Option Addr)) (σ:L2.St) (μ:Sto) (H:Hp) (Q:L2.St->Hp->Prop),SEv X.K X.mg A O α H σ δ μ->Rep X.K O H v d->g d δ=some δ'->(∀σ',SEv X.K X.mg A O α H σ' δ' μ->Q σ' H)->t v σ H Q
def vj(X:Cx)(ts:List Expr)(g:List D->av->Option av):Prop :=
 ∃t,PGs X ts t/\∀(A:An) (δ δ':av) (ds:List D) (vs:List V) (O:List Addr) (α:List (Option Addr)) (σ:L2.St) (μ:Sto) (H:Hp) (Q:L2.St->Hp->Prop),SEv X.K X.mg A O α H σ δ μ->Reps X.K O H vs ds->g ds δ=some δ'->(∀σ',SEv X.K X.mg A O α H σ' δ' μ->Q σ' H)->t vs σ H Q
noncomputable def agN(i:Nat):D->av->Option av:=λd δ=>some (δ.set i (some (.d d)))
theorem BJ(h:PG X e (wa i)):SGT X e (agN i):=by
 refine⟨_,h,λA δ δ' d v O α σ μ H Q E r e k=>?_⟩
 cases e
 exact k _ (E.set (.d r))
noncomputable def mX:List D->av->Option av:=λds δ=>match ds with
 | []=>some δ
 | _=>none
noncomputable def et(t:D->av->Option av)(u:List D->av->Option av):List D->av->Option av:=λds δ=>match ds with
 | d::r=>(t d δ).bind (u r)
 | []=>none
theorem BI:vj X [] mX:=by
 refine⟨_,vL,λA δ δ' ds vs O α σ μ H Q E r e k=>?_⟩
 cases ds with
 | nil=>cases r;cases e;exact⟨rfl,k σ E⟩
 | cons d ds=>cases e
theorem yE(h1:SGT X e t)(h2:vj X es u)
  (hs:(assignEach (e::es) X.env).map (·.2)=assign e X.env::(assignEach es X.env).map (·.2):=by rfl):vj X (e::es) (et t u):=by
 obtain⟨t1,p1,h1⟩:=h1
 obtain⟨t2,p2,h2⟩:=h2
 refine⟨_,sL p1 p2 hs,λA δ δ' ds vs O α σ μ H Q E r e k=>?_⟩
 cases ds with
 | nil=>cases e
 | cons d ds =>
  cases r with
  | @cons v _ vs _ r rs =>
   have e:(t d δ).bind (u ds)=some δ':=e
   cases e1:t d δ with
   | none=>rw[e1] at e;cases e
   | some δ1 =>
    rw[e1] at e
    refine⟨v,vs,rfl,h1 A δ δ1 d v O α σ μ H _ E r e1 λσ1 E1=>?_⟩
    exact h2 A δ1 δ' ds vs O α σ1 μ H Q E1 rs e k
noncomputable def mW(n:Nat)(u:List D->av->Option av):D->av->Option av:=λd δ=>match d with
 | .tuple ds=>if ds.length=n then u ds δ else none
 | _=>none
theorem sg_tup(hc:X.calm=true)(h:vj X es u)
  (hn:(assignEach es X.env).length=n:=by rfl) (hst:(assignEach es X.env).findIdx? (·.1)=none:=by rfl):SGT X (.Tuple es k pos) (mW n u):=by
 obtain⟨t,p,h⟩:=h
 refine⟨_,yY hc p hn hst,λA δ δ' d v O α σ μ H Q E r e k=>?_⟩
 cases d with
 | tuple ds =>
  have e:(if ds.length=n then u ds δ else none)=some δ':=e
  by_cases hl:ds.length=n
  ·rw[if_pos hl] at e
   obtain⟨a,xs,rfl,h1,rs⟩:=r.tup_inv
   exact⟨a,xs,rfl,h1,by rw[rs.length];exact hl,h A δ δ' ds xs O α σ μ H Q E rs e k⟩
  simp_all
 | _=>cases e
noncomputable def hJ(t:D->av->Option av)(g:av->Sto->R OutS):List D->av->Sto->R OutS
 | [],δ,μ=>R.ret (.nx δ μ)
 | d::ds,δ,μ=>match t d δ with
  | none=>none
  | some δ1=>(g δ1 μ).thn λo=>match o with
   | .nx δ' μ'=>hJ t g ds δ' μ'
   | .ct δ' μ'=>hJ t g ds δ' μ'
   | .bk δ' μ'=>R.ret (.nx δ' μ')
   | .rt v μ'=>R.ret (.rt v μ')
noncomputable def wX(fi:DS->M (List D))(t:D->av->Option av)(g:SG):SG:=λn δ μ=>(ofM (fi (view δ)) μ).thn λds=>hJ t (g n) ds δ μ
theorem yz{tg iter:Expr}{body:List Stmt}{t:D->av->Option av}{fi:DS->M (List D)}{g:SG}(hp:PassesOwn `DW X.A X.env X.xe)(hc:X.calm=true)(hi:PDI X G tg iter fi)(hg:SGT X tg t)(hb:SSs X G body g)
  (hs:∀x,foldedSetIterable iter X.env x=pure x:=by intro _;rfl):SS X G (.For tg iter body [] pos) (wX fi t g):=by
 obtain⟨wi,pi,hi⟩:=hi
 obtain⟨tgt,pt,hg⟩:=hg
 obtain⟨tb,pb,hb⟩:=hb
 refine⟨_,oy hp hc pi pt pb hs,λA δ μ O α σ H Dn E k=>?_⟩
 refine hi (view δ) O σ H _ E.view (ah (dQ E.sr (aY (aq k) λx μ h=>Er.go E.st h)) λds z J H1 s1 Y=>?_)
 have E1:=E.same s1
 refine⟨λi m σ2 H2=>m=ds.length-i/\i<=ds.length/\∃δ2 μ2 O2 α2,SEv X.K X.mg A O2 α2 H2 σ2 δ2 μ2/\Go O α H1 O2 α2 H2/\okR (Er X.K X.mg G A.R0 A.O A.α A.H) (hJ t (g A.α.length) (ds.drop i) δ2 μ2) (kn X.K X.mg A O α H Dn),⟨_,rfl,Y5 _,δ,μ,O,α,E1,Go.refl,z⟩,?_⟩
 rintro i m σ2 H2 ⟨rfl,hi,δ2,μ2,O2,α2,E2,T,k2⟩
 have TT:=T.to E1.sr
 by_cases hlt:i<ds.length
 ·right
  have hd:= Δ hlt
  obtain⟨go,yl⟩:=Y.step O2 H2 TT i _ hd
  refine⟨go,λσ' H'=>∃δ2 μ2 O2 α2,SEv X.K X.mg A O2 α2 H' σ' δ2 μ2/\Go O α H1 O2 α2 H'/\okR (Er X.K X.mg G A.R0 A.O A.α A.H) (hJ t (g A.α.length) (ds.drop (i+1)) δ2 μ2) (kn X.K X.mg A O α H Dn),λσ' H' h=>⟨_,by omega,rfl,hlt,h⟩,λx H3 y=>?_⟩
  obtain⟨s3,rx⟩:=yl x H3 y
  rw[jS hd] at k2
  have E3:=E2.same s3
  have T3:=T.trans (Go.same s3)
  unfold hJ at k2
  cases h3:t ds[i] δ2 with
  | none=>rw[h3] at k2;exact k2.elim
  | some δ3 =>
   rw[h3] at k2
   refine hg A δ2 δ3 ds[i] x O2 α2 σ2 μ2 H3 _ E3 rx h3 λσ4 E4=>?_
   refine hb A δ3 μ2 O2 α2 σ4 H3 _ E4 (au (aq k2) λo z=>?_)
   cases o with
   | nx δ5 μ5=>exact λO5 α5 σ5 H5 E5 T5=>⟨δ5,μ5,O5,α5,E5,T3.trans T5,z⟩
   | ct δ5 μ5=>exact λO5 α5 σ5 H5 E5 T5=>⟨δ5,μ5,O5,α5,E5,T3.trans T5,z⟩
   | bk δ5 μ5=>exact λO5 α5 σ5 H5 E5 T5=>z O5 α5 σ5 H5 E5 ((Go.same s1).trans (T3.trans T5))
   | rt v μ5=>exact z
 ·left
  have e:i=ds.length:=by omega
  subst e
  rw[V2] at k2
  exact⟨Y.stop O2 H2 TT,k2 O2 α2 σ2 H2 E2 ((Go.same s1).trans T)⟩
noncomputable def dI(c:av->Sto->R (Bool×Sto))(g:av->Sto->R OutS):Nat->av->Sto->R OutS
 | 0,_,_=>none
 | n+1,δ,μ=>(c δ μ).thn λr=>if r.1=true then (g δ r.2).thn λo=>match o with
   | .nx δ' μ'=>dI c g n δ' μ'
   | .ct δ' μ'=>dI c g n δ' μ'
   | .bk δ' μ'=>R.ret (.nx δ' μ')
   | .rt v μ'=>R.ret (.rt v μ')
  else R.ret (.nx δ r.2)
theorem gJ{c:av->Sto->R (Bool×Sto)}{g:av->Sto->R OutS}:∀{n:Nat} {δ:av} {μ:Sto} {r:Except (XD×Sto) OutS} (k:Nat),dI c g n δ μ=some r->dI c g (n+k) δ μ=some r
 | 0,_,_,_,_,h=>by cases h
 | n+1,δ,μ,r,k,h=>by
  have e:n+1+k=(n+k)+1:=by omega
  rw[e]
  unfold dI at h ⊢
  match hc:c δ μ,h with
  | some (.ok (true,μ1)),h =>
   have h:R.thn (g δ μ1) _=_:=h
   show R.thn (g δ μ1) _=_
   match hg:g δ μ1,h with
   | some (.ok (.nx δ' μ')),h=>exact gJ k h
   | some (.ok (.ct δ' μ')),h=>exact gJ k h
   | some (.ok (.bk δ' μ')),h=>exact h
   | some (.ok (.rt v μ')),h=>exact h
   | some (.error x),h=>exact h
  | some (.ok (false,μ1)),h=>exact h
  | some (.error x),h=>exact h
noncomputable def df(c:av->Sto->R (Bool×Sto))(g:SG):SG:=λm δ μ =>
 open Classical in if h:∃n r,dI c (g m) n δ μ=some r then dI c (g m) (Classical.choose h) δ μ else none
theorem mH{c:av->Sto->R (Bool×Sto)}{g:SG}{m n:Nat}{δ:av}{μ:Sto}{r:Except (XD×Sto) OutS}(h:dI c (g m) n δ μ=some r):df c g m δ μ=some r:=by
 have hx:∃n r,dI c (g m) n δ μ=some r:=⟨n,r,h⟩
 unfold df
 rw[dif_pos hx]
 obtain⟨r',hr⟩:=Classical.choose_spec hx
 have h1:=gJ (Classical.choose hx) h
 have h2:=gJ n hr
 rw[Nat.add_comm] at h2
 rw[h2] at h1
 rw[hr,h1]
theorem n9{c:av->Sto->R (Bool×Sto)}{g:SG}{m:Nat}{δ:av}{μ:Sto}{r:Except (XD×Sto) OutS}(h:df c g m δ μ=some r):∃n,dI c (g m) n δ μ=some r:=by
 unfold df at h
 split at h
 ·exact⟨_,h⟩
 ·cases h
theorem yv(hp:PassesOwn `DW X.A X.env X.xe)(hc:ST X G c fc)(hb:SSs X G body g):SS X G (.While c body [] pos) (df fc g):=by
 obtain⟨tc,pc,hc⟩:=hc
 obtain⟨tb,pb,hb⟩:=hb
 refine⟨_,sI hp pc pb,λA δ μ O α σ H Dn E k=>?_⟩
 obtain⟨n,hn⟩:∃n,okR (Er X.K X.mg G A.R0 A.O A.α A.H) (dI fc (g A.α.length) n δ μ) (kn X.K X.mg A O α H Dn):=by
  cases e:df fc g A.α.length δ μ with
  | none=>rw[e] at k;exact k.elim
  | some r =>
   obtain⟨n,hn⟩:=n9 e
   grind
 refine⟨λm σ2 H2=>∃δ2 μ2 O2 α2,SEv X.K X.mg A O2 α2 H2 σ2 δ2 μ2/\Go O α H O2 α2 H2/\okR (Er X.K X.mg G A.R0 A.O A.α A.H) (dI fc (g A.α.length) m δ2 μ2) (kn X.K X.mg A O α H Dn),⟨n,δ,μ,O,α,E,Go.refl,hn⟩,λm σ2 H2 hw=>?_⟩
 obtain⟨δ2,μ2,O2,α2,E2,T2,k2⟩:=hw
 cases m with
 | zero=>exact k2.elim
 | succ m =>
  refine hc A δ2 μ2 O2 α2 σ2 H2 _ E2 (au (aY (aq k2) λx μ h=>Er.go E2.st h) λr z O3 α3 H3 T3 S3=>?_)
  have E3:=E2.go T3 S3
  cases hb':r.1 with
  | false =>
   rw[hb',if_neg Z8] at z
   exact z O3 α3 σ2 H3 E3 (T2.trans T3)
  | true =>
   rw[hb',if_pos rfl] at z
   refine⟨λσ' H'=>∃δ2 μ2 O2 α2,SEv X.K X.mg A O2 α2 H' σ' δ2 μ2/\Go O α H O2 α2 H'/\okR (Er X.K X.mg G A.R0 A.O A.α A.H) (dI fc (g A.α.length) m δ2 μ2) (kn X.K X.mg A O α H Dn),λσ' H' hN=>⟨m,Nat.lt_succ_self m,hN⟩,?_⟩
   refine hb A δ2 r.2 O3 α3 σ2 H3 _ E3 (au (aq z) λo q=>?_)
   cases o with
   | nx δ' μ'=>exact λO' α' σ' H' E' T'=>⟨δ',μ',O',α',E',T2.trans (T3.trans T'),q⟩
   | ct δ' μ'=>exact λO' α' σ' H' E' T'=>⟨δ',μ',O',α',E',T2.trans (T3.trans T'),q⟩
   | bk δ' μ'=>exact λO' α' σ' H' E' T'=>q O' α' σ' H' E' (T2.trans (T3.trans T'))
   | rt v μ'=>exact q
end
end SL
namespace SL
open PyProof.Rows L2 DL
noncomputable def spS(K:ε)(mg:Str->Option Value)(n:Nat)(F:List Val->Sto->R (Val×Sto)):Sp:=λvs H Q _=>∃R0 O α μ xs,vs.length=n/\SR K mg R0 O α H μ/\VRs K O α H vs xs/\okR (λ_ _=>False) (F xs μ) (λr=>∀v O' α' H',Go O α H O' α' H'->SR K mg R0 O' α' H' r.2->VR K O' α' H' v r.1->Q v H')
structure DefS(P:Program)(w:World)(K:ε)(mg:Str->Option Value)(base:Heap)(k:Nat)(x:Str)(n:Nat)(F:List Val->Sto->R (Val×Sto)):Prop where
 ex:∃(f:Addr) (fd:FuncData) (ps:List Str),FnOk P w K mg base CX0 k f fd ps (spS K mg n F)/\mg x=some (.ref f)/\Y7 K (.ref f)=true/\cM K fd ps []
noncomputable def zO(r:R β):R β:=match r with
 | some (.error _)=>none
 | r=>r
theorem nE(h:okR G (zO r) k):okR (λ_ _=>False) r k:=by
 match r,h with
 | some (.ok a),h=>exact h
noncomputable def og(F:List Val->Sto->R (Val×Sto))(fa:av->Sto->R (List Val×Sto)):av->Sto->R (Val×Sto):=λδ μ=>(fa δ μ).thn λr=>zO (F r.1 r.2)
section
theorem Bt(h:DefS X.prog X.w X.K X.mg X.base k x n F)(hr:Room k X.A)(hg:Gl X x)(hn:(e::es).length=n)(ha:SA X G (e::es) fa)
  (hdb:(x==("__debug__" : Str))=false:=by decide) (he:`we:=by rfl) (hpl:(backTo pos (starEach es X.env)).any (·.1)=false:=by rfl) :
  SX X G (.Call (.Name x p) (e::es) [] pos) (og F fa):=by
 obtain⟨f,fd,ps,F1,hm,hk,hb⟩:=h.ex
 obtain⟨hl,t,pa,ha⟩:=ha
 refine⟨_,nz F1 hr hg hm hk hb .nil kr pa hdb he hpl,λA δ μ O α σ H Q E k=>?_⟩
 have k1:=aq k
 refine ha A δ μ O α σ H _ E ?_
 cases e1:fa δ μ with
 | none=>rw[e1] at k1;assumption
 | some r =>
  rw[e1] at k1
  cases r with
  | error x=>exact k1
  | ok r =>
   refine λvs O1 α1 H1 T1 S1 rs=>?_
   refine⟨A.R0,O1,α1,r.2,r.1,?_,S1,?_,au (nE k1) λq z v O2 α2 H2 T2 S2 rv=>z v O2 α2 H2 (T1.trans T2) S2 rv⟩
   ·rw[Z3,rs.length,hl δ μ r e1];exact hn
   simp_all
end
noncomputable def iM(n:Nat)(xs:List Val):av:=xs.map some++χ (n-xs.length) none
noncomputable def endS(o:OutS):R (Val×Sto):=match o with
 | .rt v μ=>R.ret (v,μ)
 | .nx _ μ=>R.ret (.d .none,μ)
 | _=>none
noncomputable def kK(n:Nat)(g:SG)(xs:List Val)(μ:Sto):R (Val×Sto):=(g μ.length (iM n xs) μ).thn endS
section
variable{P:Program}{w:World}{K:ε}{mg:Str->Option Value}{base:Heap}
theorem xG{R0 O:List Addr}{α:List (Option Addr)}{H:Hp}{μ:Sto}{vs:List V}{xs:List Val}(N:List Str)(S:SR K mg R0 O α H μ)(r:VRs K O α H vs xs):SEv K mg ⟨R0,O,α,H⟩ O α H (L2.start N vs) (iM N.length xs) μ:=by
 refine⟨S,Go.refl,?_,λi x h=>?_⟩
 ·unfold L2.start iM
  simp [r.length]
 ·unfold iM at h
  by_cases hi:i<xs.length
  ·rw[ι (by simpa using hi),Γ] at h
   cases e:xs[i]? with
   | none=>rw[e] at h;cases h
   | some y =>
    rw[e] at h
    cases h
    obtain⟨v,hv,rv⟩:=r.get e
    refine⟨v,?_,rv⟩
    unfold L2.start
    have hi:i<vs.length:=(ρ.mp hv).1
    rw[ι (by simpa using hi),Γ,hv]
    rfl
  ·rw[ο (by simpa using hi),V3] at h
   split at h<;>cases h
theorem uU{x qual:Str}{st:Stmt}{f:Addr}{fd:FuncData}{N ps:List Str}{k:Nat}{g:SG}(F0:Fun K x qual st f fd)(S:FnScope N ps (ai st))
  (hbody:∀(cdv:Value) (A:Around) (outer:List PySem.Env) (s:Shared) (H:Hp) (E:XK),Room k (A.deeper (envOfC qual (ai st) s.heap.objs.size f cdv)) ->
   SSs (kX CX0 P w K mg base N qual (ai st) f cdv A outer s H E).nox (λ_ _=>False) (bC st) g):FnOk P w K mg base CX0 (k+1) f fd ps (spS K mg ps.length (kK N.length g)):=by
 refine F0.ok S (λvs H Q E h=>?_) (λcdv A outer s H vs Q E hr h=>?_)
 ·obtain⟨R0,O,α,μ,xs,hl,_⟩:=h
  exact hl
 ·obtain⟨R0,O,α,μ,xs,hl,S0,r,q⟩:=h
  obtain⟨t,p,hB⟩:=hbody cdv A outer s H E hr
  refine⟨t,p,hB ⟨R0,O,α,H⟩ (iM N.length xs) μ O α (L2.start N vs) H _ (xG N S0 r) ?_⟩
  have q1:=aq (show okR _ ((g μ.length (iM N.length xs) μ).thn endS) _ from q)
  rw[<-S0.len] at q1
  refine au (aY q1 λx μ h=>h.elim) λo z=>?_
  cases o with
  | rt v μ'=>exact λu O' α' H' S' G' r'=>z u O' α' H' G' S' r'
  | nx δ μ'=>exact λO' α' σ' H' E' G'=>z .non O' α' H' G' E'.sr (.d .non)
  | bk δ μ'=>exact z.elim
  | ct δ μ'=>exact z.elim
theorem DG{x qual:Str}{st:Stmt}{f:Addr}{fd:FuncData}{N ps:List Str}{k:Nat}{g:SG}(F0:Fun K x qual st f fd)(S:FnScope N ps (ai st))(hm:mg x=some (.ref f))(hb:cM K fd ps [])
  (hbody:∀(cdv:Value) (A:Around) (outer:List PySem.Env) (s:Shared) (H:Hp) (E:XK),Room k (A.deeper (envOfC qual (ai st) s.heap.objs.size f cdv)) ->
   SSs (kX CX0 P w K mg base N qual (ai st) f cdv A outer s H E).nox (λ_ _=>False) (bC st) g):DefS P w K mg base (k+1) x ps.length (kK N.length g) :=
 ⟨f,fd,ps,uU F0 S hbody,hm,F0.kp,hb⟩
noncomputable def asD(F:List Val->Sto->R (Val×Sto)):List D->M D:=λds=>match F (ds.map Val.d) [] with
 | some (.ok (.d x,_))=>M.ret x
 | _=>none
theorem DefS.toD{k n:Nat}{x:Str}{F:List Val->Sto->R (Val×Sto)}(h:DefS P w K mg base k x n F):Def P w K mg base k x n (asD F):=by
 obtain⟨f,fd,ps,F1,hm,hk,hb⟩:=h.ex
 refine⟨f,fd,ps,F1.imp λvs H Q E q=>?_,hm,hk,hb⟩
 obtain⟨O,ds,hl,oo,rs,q⟩:=q
 refine⟨O,O,[],[],ds.map Val.d,hl,⟨rfl,λi j a h=>(by simp at h),oo,λ_ h=>h,λk a h=>(by simp at h)⟩,VRs.data rs,?_⟩
 unfold asD at q
 match hF:F (ds.map Val.d) [],q with
 | some (.ok (.d x,μ')),q =>
  refine λv O' α' H' T S r=>q v H' (λb o h=>T.keep b o (λk=>by simp) h) ?_
  exact Rep.to (To.less S.sub) r.dinv
end
section
theorem aL{i:Nat}(h:δ[i]?=some (some v)):aI i δ μ=R.ret (v,μ):=by unfold aI;rw[h]
theorem bL{f:DS->M D}{d:D}(h:f (view δ)=M.ret d):bN f δ μ=R.ret (.d d,μ):=by unfold bN;rw[h];rfl
theorem DA{f:DS->M D}{d:D}(h:f (viewL 0 μ δ)=M.ret d)(hf:bA d=true):sD f δ μ=R.ret (.d d,μ):=by
 unfold sD;rw[h];show(if bA d=true then _ else _)=_;simp_all
theorem gE:iP δ μ=R.ret ([],μ):=rfl
theorem cf{xs:List Val}(h1:f δ μ=R.ret (v,μ1))(h2:fa δ μ1=R.ret (xs,μ')):bZ f fa δ μ=R.ret (v::xs,μ'):=by unfold bZ;rw[h1];show R.thn (fa δ μ1) _=_;rw[h2];rfl
theorem rR{F:List Val->Sto->R (Val×Sto)}{xs:List Val}(h1:fa δ μ=R.ret (xs,μ1))(h2:F xs μ1=R.ret (v,μ')):og F fa δ μ=R.ret (v,μ'):=by unfold og;rw[h1];show zO (F xs μ1)=_;rw[h2];rfl
theorem az(h1:g n δ μ=R.ret (.nx δ' μ'))(h2:h n δ' μ'=r):bo g h n δ μ=r:=by unfold bo;rw[h1];exact h2
theorem rP(h1:g n δ μ=R.ret (.rt v μ')):bo g h n δ μ=R.ret (.rt v μ'):=by unfold bo;rw[h1];rfl
theorem bz{i:Nat}(h:f δ μ=R.ret (v,μ')):cF i f n δ μ=R.ret (.nx (δ.set i (some v)) μ'):=by unfold cF;rw[h];rfl
theorem wv(h:fn (view δ)=M.ret ds):pU i fn n δ μ=R.ret (.nx (δ.set i (some (.h μ.length))) (μ++[.lst (ds.map Val.d)])):=by unfold pU;rw[h];rfl
theorem wt{i k j:Nat}{m:Int}{xs:List Val}(h1:f δ μ=R.ret (v,μ1))(h0:δ[i]?=some (some (.h k)))(h2:fi δ μ1=R.ret (.d (.int m),μ'))(h3:μ'[k]?=some (.lst xs))(h4:ixN xs.length m=some j):pS i fi f n δ μ=R.ret (.nx δ (μ'.set k (.lst (xs.set j v)))):=by
 unfold pS
 rw[h1]
 rw[h0]
 show R.thn (fi δ μ1) _=_
 rw[h2,aQ]
 simp_all
theorem AS(h:f δ μ=R.ret (v,μ')):sC f n δ μ=R.ret (.rt v μ'):=by unfold sC;rw[h];rfl
theorem wu{f:DS->M D}{d:D}(hc:(μ.take n).all (lY n)=true)(h:f (viewL n μ δ)=M.ret d):oe f n δ μ=R.ret (.rt (.d d) (μ.take n)):=by unfold oe;rw[if_pos hc,h];rfl
theorem jl{b:Bool}(h1:fc δ μ=R.ret (b,μ1))(h2:(if b=true then g n δ μ1 else h n δ μ1)=r):sIf fc g h n δ μ=r:=by unfold sIf;rw[h1];exact h2
theorem fg{fb:DS->M Bool}{b:Bool}(h:fb (viewL 0 μ δ)=M.ret b):gK fb δ μ=R.ret (b,μ):=by unfold gK;rw[h];rfl
theorem AU(h1:fi (view δ)=M.ret ds)(h2:hJ t (g n) ds δ μ=r):wX fi t g n δ μ=r:=by unfold wX;rw[h1];exact h2
theorem mD{t:D->av->Option av}{g:av->Sto->R OutS}{d:D}{ds:List D}{δ1:av}(h1:t d δ=some δ1)(h2:g δ1 μ=R.ret (.nx δ' μ'))(h3:hJ t g ds δ' μ'=r):hJ t g (d::ds) δ μ=r:=by
 unfold hJ;rw[h1];show(g δ1 μ).thn _=_;rw[h2];exact h3
theorem tV{t:D->av->Option av}{g:av->Sto->R OutS}{d:D}{ds:List D}{δ1:av}(h1:t d δ=some δ1)(h2:g δ1 μ=R.ret (.rt v μ')):hJ t g (d::ds) δ μ=R.ret (.rt v μ'):=by
 unfold hJ;rw[h1];show(g δ1 μ).thn _=_;rw[h2];rfl
theorem o6(h:g μ.length (iM k xs) μ=R.ret (.rt v μ')):kK k g xs μ=R.ret (v,μ'):=by unfold kK;rw[h];rfl
end
end SL
namespace SL
open PyProof.Rows L2 DL
section
variable{K:ε}{mg:Str->Option Value}{R0 O O':List Addr}{α α':List (Option Addr)}{H H':Hp}{μ μ':Sto}
theorem SR.adopt(S:SR K mg R0 O α H μ){l:Addr}{vs:List V}{ds:List D}(s:aE H H')(hl:H l=none)(hx:H' l=some (.lst vs))(r:Reps K [] H' vs ds)(hf:aD ds=true):SR K mg R0 (l::O) (α++[some l]) H' (μ++[.lst (ds.map Val.d)]):=by
 have T1:To O O H H':=To.same s
 have ne:∀(k:Nat) (a:Addr),α[k]?=some (some a)->a≠l:=λk a h z=>by
  obtain⟨o,h3,_⟩:=S.tracked h
  rw[z,hl] at h3;cases h3
 have hlO:l∉O:=λz=>by
  obtain⟨o,ho⟩:=(S.oo l z).some
  rw[hl] at ho;cases ho
 have T:To O (l::O) H H':=by
  refine⟨λb xs h=>aE.rd s h,λb xs n h=>⟨λz=>?_,aE.rd s h⟩,λb xs n h=>⟨λz=>?_,aE.rd s h⟩,λb C dx fs n h=>⟨λz=>?_,s _ _ h⟩⟩
  ·rcases ψ.mp z with z | z
   ·exact Rd.ne_new h hl z
   ·exact n z
  ·rcases ψ.mp z with z | z
   ·exact Rd.ne_new h hl z
   ·exact n z
  ·rcases ψ.mp z with z | z
   ·exact aC h hl z
   ·exact n z
 walk_at "a"
 refine⟨by rw[η,η,S.len];rfl,λi j a h1 h2=>?_,λb hb=>?_,λb hb=>θ _ (S.sub b hb),λk a h=>?_⟩
 ·rcases cs i a h1 with h1 | ⟨h1,z⟩<;>rcases cs j a h2 with h2 | ⟨h2,z2⟩
  ·exact S.nd i j a h1 h2
  ·exact absurd z2 (ne i a h1)
  ·exact absurd z (ne j a h2)
  ·omega
 ·rcases ψ.mp hb with rfl | hb
  ·exact .inl ⟨vs,hx⟩
  ·exact(S.oo b hb).same s
 ·rcases cs k a h with h | ⟨rfl,rfl⟩
  ·obtain⟨ob,h1,h2⟩:=S.at_ k a h
   obtain⟨o,h3,_⟩:=S.tracked h
   exact⟨ob,by rw[ι (ρ.mp h1).1];exact h1,h2.to T e (λz=>θ _ z) (by rw[h3];exact s a o h3)⟩
  ·refine⟨.lst (ds.map Val.d),by rw[S.len,ο (ξ _),Y4];rfl,υ,λz=>?_,vs,hx,VRs.data (r.flat hf)⟩
   exact hlO (S.sub a z)
theorem Go.adopt(s:aE H H')(hl:H l=none):Go O α H (l::O) (α++[some l]) H':=by
 refine⟨λb u _ h=>s b u h,λk a h=>by grind,by simp,λk b h=>?_,λb hb=>?_,λb h=>qa s h⟩
 all_goals grind
theorem SR.at_new(S:SR K mg R0 O α H μ){l:Addr}:(α++[some l])[μ.length]?=some (some l):=by
 rw[<-S.len,ο (ξ _),Y4];rfl
theorem VRs.atI{vs:List V}{xs:List Val}{i:Int}{x:Val}(r:VRs K O α H vs xs)(h:L2.atI xs i=some x):∃v,L2.atI vs i=some v/\VR K O α H v x:=by
 unfold L2.atI at h ⊢
 rw[r.length]
 cases e:ixN xs.length i with
 | none=>simp_all
 | some j =>
  rw[e] at h
  exact r.get h
end
section
variable{X:Cx}{G:XD->Hp->Prop}{a b c e ix o:Expr}{es:List Expr}{pos pos' tpos apos cpos:Pos}{f fi fo:av->Sto->R (Val×Sto)}{fa:av->Sto->R (List Val×Sto)}
noncomputable def wW(fa:av->Sto->R (List Val×Sto)):av->Sto->R (Val×Sto):=λδ μ=>(fa δ μ).thn λr=>if aJ r.1.length=true then R.ret (.h r.2.length,r.2++[.lst r.1]) else none
theorem sx_lst(h:SA X G es fa):SX X G (.List es pos) (wW fa):=by
 obtain⟨_,t,p,h⟩:=h
 refine⟨_,uz p,λA δ μ O α σ H Q E k=>?_⟩
 refine h A δ μ O α σ H _ E (au (aq k) λr z vs O1 α1 H1 T1 S1 rs=>?_)
 by_cases hz:aJ r.1.length=true
 ·rw[if_pos hz] at z
  exact⟨by rw[rs.length];exact bt hz,λp hp=>z _ (p::O1) (α1++[some p]) _ (T1.trans (Go.newL hp)) (S1.newL hp rs) (.h S1.at_new)⟩
 ·rw[if_neg hz] at z;exact z.elim
noncomputable def sIx(fo fi:av->Sto->R (Val×Sto)):av->Sto->R (Val×Sto):=λδ μ=>(fo δ μ).thn λr=>(fi δ r.2).thn λq=>match q.1 with
 | .d (.int i)=>match r.1 with
  | .h k=>match q.2[k]? with
   | some (.lst xs)=>match L2.atI xs i with
    | some x=>R.ret (x,q.2)
    | none=>none
   | _=>none
  | .t xs=>match L2.atI xs i with
   | some x=>R.ret (x,q.2)
   | none=>none
  | .d (.tuple ds)=>match L2.atI ds i with
   | some d=>R.ret (.d d,q.2)
   | none=>none
  | .d (.list ds)=>match L2.atI ds i with
   | some d=>R.ret (.d d,q.2)
   | none=>none
  | _=>none
 | _=>none
theorem sx_ix(ha:SX X G a fo)(hb:SX X G b fi)(hs:se b):SX X G (.Subscript a b pos) (sIx fo fi):=by
 obtain⟨ta,pa,ha⟩:=ha
 obtain⟨tb,pb,hb⟩:=hb
 refine⟨_,pe_ix Ak pa pb hs,λA δ μ O α σ H Q E k=>?_⟩
 refine ha A δ μ O α σ H _ E (au (aq k) λr z v O1 α1 H1 T1 S1 r1=>?_)
 refine hb A δ r.2 O1 α1 σ H1 _ (E.go T1 S1) (au (aY (aq z) λx μ h=>Er.go T1 h) λq y w O2 α2 H2 T2 S2 r2=>?_)
 have T:=T1.trans T2
 obtain⟨q1,q2⟩:=q
 obtain⟨p1,p2⟩:=r
 match q1,y,r2 with
 | .d (.int i),y,r2 =>
  have hw:=Rep.int_inv r2.dinv
  subst hw
  match p1,y,r1 with
  | .h k,y,r1 =>
   obtain⟨l,hl,rfl⟩:=r1.hinv
   have hl2:=T2.ex _ _ hl
   obtain⟨ob,g1,g2⟩:=S2.at_ k l hl2
   dsimp only at y
   rw[g1] at y
   cases ob with
   | lst xs =>
    obtain⟨_,_,vs,g3,g4⟩:=g2
    dsimp only at y
    cases hx:L2.atI xs i with
    | none=>rw[hx] at y;exact y.elim
    | some x =>
     rw[hx] at y
     obtain⟨u,hu,ru⟩:=g4.atI hx
     exact .inl ⟨l,vs,i,u,rfl,rfl,.inl (.inl g3),hu,y u O2 α2 H2 T S2 ru⟩
   | _=>exact y.elim
  | .t xs,y,r1 =>
   obtain⟨p,vs,rfl,h1,rs⟩:=(r1.to (T2.to S1) T2.ex).tinv
   dsimp only at y
   cases hx:L2.atI xs i with
   | none=>rw[hx] at y;exact y.elim
   | some x =>
    rw[hx] at y
    obtain⟨u,hu,ru⟩:=rs.atI hx
    exact .inr (.inl ⟨p,vs,i,u,rfl,rfl,h1,hu,y u O2 α2 H2 T S2 ru⟩)
  | .d (.tuple ds),y,r1 =>
   have rx:=(r1.to (T2.to S1) T2.ex).dinv
   dsimp only at y
   cases hx:L2.atI ds i with
   | none=>rw[hx] at y;exact y.elim
   | some x =>
    rw[hx] at y
    obtain⟨p,vs,rfl,h1,r3⟩:=rx.tup_inv
    obtain⟨u,hu,ru⟩:=r3.atI hx
    exact .inr (.inl ⟨p,vs,i,u,rfl,rfl,h1,hu,y u O2 α2 H2 T S2 (.d ru)⟩)
  | .d (.list ds),y,r1 =>
   have rx:=(r1.to (T2.to S1) T2.ex).dinv
   dsimp only at y
   cases hx:L2.atI ds i with
   | none=>rw[hx] at y;exact y.elim
   | some x =>
    rw[hx] at y
    obtain⟨p,vs,rfl,h1,r3⟩:=rx.lst_inv
    obtain⟨u,hu,ru⟩:=r3.atI hx
    exact .inl ⟨p,vs,i,u,rfl,rfl,h1,hu,y u O2 α2 H2 T S2 (.d ru)⟩
noncomputable def wY(fo f:av->Sto->R (Val×Sto)):av->Sto->R (Val×Sto):=λδ μ=>(fo δ μ).thn λr=>match r.1 with
 | .h k=>match r.2[k]? with
  | some (.lst _)=>(f δ r.2).thn λq=>match q.2[k]? with
   | some (.lst xs)=>if aJ (xs.length+1)=true then R.ret (.d .none,q.2.set k (.lst (xs++[q.1]))) else none
   | _=>none
  | _=>none
 | _=>none
theorem sx_app(ho:SX X G o fo)(he:SX X G e f)
  (hst:starEach [e] X.env=(false,eval e X.env)::starEach [] X.env:=by rfl)
  (hbase:attributeBase o "append" X.env (eval o X.env)=eval o X.env:=by rfl)
  (hfew:((backTo cpos (starEach [e] X.env)).all (λx=>!x.1)&&(backToKw cpos (keywordEach [] X.env)).all (λx=>x.1.isSome)
   && decide ([e].length+([]:List Keyword).length+(if ([]:List Keyword).isEmpty then 0 else 1)<30))=true:=by rfl)
  (hline:(apos.endLine==cpos.line)=true:=by rfl) (hplain:(backTo cpos (starEach [] X.env)).any (·.1)=false:=by rfl) :
  SX X G (.Call (.Attribute o "append" apos) [e] [] cpos) (wY fo f):=by
 obtain⟨t,p,ho⟩:=ho
 obtain⟨u,q,he⟩:=he
 refine⟨_,sP PySem.F.plainAttrs_list PySem.F.slot_list_append PySem.F.type_list_append ms p (e8 q iS hst) hbase hfew hline hst hplain,λA δ μ O α σ H Q E k=>?_⟩
 walk_at "d"
 match p1,z,r1 with
 | .h k,z,r1 =>
  obtain⟨l,hl,rfl⟩:=r1.hinv
  obtain⟨ob,g1,g2⟩:=S1.at_ k l hl
  dsimp only at z
  rw[g1] at z
  match ob,z,g2 with
  | .lst xs0,z,g2 =>
  refine⟨.inl ⟨rfl,_,.inl (.inl g2.2.2.choose_spec.1)⟩,?_⟩
  refine he A δ p2 O1 α1 σ H1 _ (E.go T1 S1) (au (aY (aq z) λx μ h=>Er.go T1 h) λq y w O2 α2 H2 T2 S2 r2=>?_)
  obtain⟨q1,q2⟩:=q
  have hl2:=T2.ex _ _ hl
  obtain⟨ob,g1,g2⟩:=S2.at_ k l hl2
  rw[g1] at y
  match ob,y,g2,g1 with
  | .lst xs,y,g2,g1 =>
   obtain⟨_,_,vs,g3,g4⟩:=g2
   dsimp only at y
   by_cases hz:aJ (xs.length+1)=true
   ·rw[if_pos hz] at y
    exact⟨l,vs,w,rfl,rfl,g3,by rw[g4.length];exact sA hz,y .non O2 α2 _ (T1.trans (T2.trans (Go.setL hl2))) (S2.setL hl2 g1 (g4.append (.cons r2 .nil))) (.d .non)⟩
   ·rw[if_neg hz] at y;exact y.elim
end
end SL
namespace SL
open PyProof.Rows L2 DL
section
open Classical in
noncomputable def forT(i k:Nat)(xs:List Val)(g:av->Sto->R OutS):List Val->av->Sto->R OutS
 | [],δ,μ=>if μ[k]?=some (.lst xs) then R.ret (.nx δ μ) else none
 | v::vs,δ,μ=>if μ[k]?=some (.lst xs) then (g (δ.set i (some v)) μ).thn λo=>match o with
   | .nx δ' μ'=>forT i k xs g vs δ' μ'
   | .ct δ' μ'=>forT i k xs g vs δ' μ'
   | .bk δ' μ'=>R.ret (.nx δ' μ')
   | .rt v μ'=>R.ret (.rt v μ') else none
noncomputable def ju(fo fi f:av->Sto->R (Val×Sto)):SG:=λ_ δ μ=>(f δ μ).thn λr=>(fo δ r.2).thn λp=>match p.1 with
 | .h k=>(fi δ p.2).thn λq=>match q.1,q.2[k]? with
  | .d (.int n),some (.lst xs)=>match ixN xs.length n with
   | some j=>R.ret (.nx δ (q.2.set k (.lst (xs.set j r.1))))
   | none=>none
  | _,_=>none
 | _=>none
theorem By(ho:SX X G a fo)(hi:SX X G ix fi)(he:SX X G e f)
  (ha:∀v,assign (.Subscript a ix tpos) X.env v=(do
   let ov <- holding [v] (eval a X.env)
   let iv <- holding [v,ov] (eval ix X.env)
   standAt tpos
   holding [v,ov,iv] (setItem ov iv v)
   release [v,ov,iv] []):=by intro _;rfl)
  (hs:swapsWithSole [.Subscript a ix tpos] e pos.line X.env=pure false:=by rfl) (hw:swappedStores [.Subscript a ix tpos] e X.env=pure none:=by rfl)
  (h1:(assignEach [.Subscript a ix tpos] X.env).map (·.2)=[assign (.Subscript a ix tpos) X.env]:=by rfl):SS X G (.Assign [.Subscript a ix tpos] e pos) (ju fo fi f):=by
 obtain⟨t,p,he⟩:=he
 obtain⟨u,q,hi⟩:=hi
 obtain⟨w,pw,ho⟩:=ho
 refine⟨_,uw p (yZ pw q n6 ha) hs hw h1,λA δ μ O α σ H Dn E k=>?_⟩
 refine he A δ μ O α σ H _ E (au (aY (aq k) λx μ h=>Er.go E.st h) λr z v O1 α1 H1 T1 S1 r1=>?_)
 have E1:=E.go T1 S1
 refine ho A δ r.2 O1 α1 σ H1 _ E1 (au (aY (aq z) λx μ h=>Er.go E1.st h) λpp y ov O2 α2 H2 T2 S2 r2=>?_)
 have E2:=E1.go T2 S2
 obtain⟨pv,pμ⟩:=pp
 cases pv with
 | h kk =>
  obtain⟨l,q3,rfl⟩:=r2.hinv
  refine hi A δ pμ O2 α2 σ H2 _ E2 (au (aY (aq y) λx μ h=>Er.go E2.st h) λqq y kv O3 α3 H3 T3 S3 r3=>?_)
  split at y
  ·rename_i n xs hq hk
   rw[hq] at r3
   have hkv:=Rep.int_inv r3.dinv
   subst hkv
   have q3':=T3.ex _ _ q3
   obtain⟨ob,g1,g2⟩:=S3.at_ kk l q3'
   rw[hk] at g1
   cases g1
   obtain⟨g3,g4,vs,g5,g6⟩:=g2
   cases hj:ixN xs.length n with
   | none=>rw[hj] at y;exact y.elim
   | some j =>
    rw[hj] at y
    refine⟨l,vs,n,j,rfl,rfl,g5,by rw[g6.length];exact hj,?_⟩
    have r1':=(r1.to (T2.to S1) T2.ex).to (T3.to S2) T3.ex
    exact y O3 α3 σ _ ((E2.go T3 S3).go (Go.setL q3') (S3.setL q3' hk (g6.set r1' j))) (T1.trans (T2.trans (T3.trans (Go.setL q3'))))
  ·exact y.elim
 | _=>exact y.elim
theorem Dx(h1:f δ μ=R.ret (v,μ1))(h2:fo δ μ1=R.ret (.h k,μ2))(h3:fi δ μ2=R.ret (.d (.int i),μ3))(h4:μ3[k]?=some (.lst xs))(h5:ixN xs.length i=some j):ju fo fi f n δ μ=R.ret (.nx δ (μ3.set k (.lst (xs.set j v)))):=by
 unfold ju
 rw[h1,aQ,h2,aQ]
 dsimp only
 rw[h3,aQ]
 simp_all
end
end SL
namespace SL
open PyProof.Rows L2 DL
section
variable{X:Cx}{G:XD->Hp->Prop}{pos:Pos}
noncomputable def nD(K:ε)(f:DS->M (List D)):TE:=λσ H Q=>∃Hr δ O,Ev K Hr O H σ δ/\ok (GS (λ_ _=>False) Hr) (f δ) (λds=>∀l xs H1,aE H H1->H1 l=none->Reps K O H1 xs ds->Q (.ref l) (upd H1 l (.lst xs)))
theorem PDN.can(h:PDN X (λ_ _=>False) e f):PE X e (nD X.K f):=by
 obtain⟨t,p,h⟩:=h
 intro pins s σ H Q I hw
 obtain⟨Hr,δ,O,E,k⟩:=hw
 exact p pins s σ H Q I (h δ O σ H Q E k)
theorem vP(q:okR g (ofM (r.thn h) μ) k):okR g (ofM r μ) (λa=>okR g (ofM (h a) μ) k):=by
 match r,q with
 | some (.ok a),q=>exact q
 | some (.error x),q=>exact q
noncomputable def pq(f:DS->M (List D)):List D->M (List (List D))
 | []=>M.ret []
 | d::ds=>(nX f [.vl d]).thn λr=>if aD r=true then (pq f ds).thn λaB=>M.ret (r::aB) else none
noncomputable def dF(k:Nat):List (List D)->List Val->Sto->Sto
 | [],_,μ=>μ
 | r::rs,hs,μ=>dF k rs (hs++[Val.h μ.length]) ((μ++[Ob.lst (r.map Val.d)]).set k (Ob.lst (hs++[Val.h μ.length])))
noncomputable def ml(fi:DS->M (List D))(f:DS->M (List D)):av->Sto->R (Val×Sto):=λδ μ=>(ofM (fi (viewL 0 μ δ)) μ).thn λds=>if aJ ds.length=true then (ofM (pq f ds) μ).thn λrows=>R.ret (.h μ.length,dF μ.length rows [] (μ++[.lst []])) else none
theorem xU{wi:TI}{fi:DS->M (List D)}{f:DS->M (List D)}(hi:∀{Hr:Hp} (δ:DS) (O:List Addr) (σ:DL.St) (H:Hp) (R:It->Hp->Prop),Ev X.K Hr O H σ δ->ok (GS G Hr) (fi δ) (λds=>∀J H1,aE H H1->Yl X.K J O H1 ds->R J H1)->wi σ H R)
  (A:An) (δ:av) (μ:Sto) (O:List Addr) (α:List (Option Addr)) (σ:L2.St) (H:Hp) (Q:VK) (E:SEv X.K X.mg A O α H σ δ μ) (k:okR (Er X.K X.mg G A.R0 O α H) (ml fi f δ μ) (λr=>∀v O' α' H',Go O α H O' α' H'->SR X.K X.mg A.R0 O' α' H' r.2->VR X.K O' α' H' v r.1->Q v H')) :
  kJ 1 [] wi (gD X.K (tgN 0)) (cD X.K eU) (nD X.K f) σ H Q:=by
 have hv:=E.viewL (n:=0) (O':=A.R0) E.sr.sub λk a xs ha _ hx=>by
  obtain⟨ob,h1,h2⟩:=E.sr.at_ k a ha
  rw[hx] at h1
  cases h1
  exact h2.2.1
 refine hi (viewL 0 μ δ) A.R0 σ H _ hv (ah (dQ E.sr (aq k)) λds z J H1 s1 Y=>?_)
 by_cases hsz:aJ ds.length=true
 case neg =>
  rw[if_neg hsz] at z
  exact z.elim
 rw[if_pos hsz] at z
 intro l hl
 have E1:=E.same s1
 have hv1:=hv.same s1
 have S0:=E1.sr.newL hl (VRs.nil)
 have z:=aq z
 refine⟨λi m τ xs H2=>m=ds.length-i/\i<=ds.length/\xs.length<=i/\H2 l=some (.lst xs)/\∃δc hs μ2 O2 α2,EC X.K A.R0 H1 l H2 τ δc/\δc.length=1/\SR X.K X.mg A.R0 O2 α2 H2 μ2/\Go O α H O2 α2 H2/\α2[μ.length]?=some (some l)/\μ2[μ.length]?=some (.lst hs) /\
  okR (Er X.K X.mg G A.R0 O α H) (ofM (pq f (ds.drop i)) μ) (λrows=>∀v O' α' H',Go O α H O' α' H'->SR X.K X.mg A.R0 O' α' H' (dF μ.length rows hs μ2)->VR X.K O' α' H' v (.h μ.length)->Q v H'),?_,?_⟩
 ·refine⟨_,rfl,Y5 _,ξ _,aA,_,[],_,_,_,vA hv1 1 hl,rfl,S0,(Go.same s1).trans (Go.newL hl),E.sr.at_new,by simp,?_⟩
  assumption
 rintro i m τ xs H2 ⟨rfl,hi',hx,h2,δc,hs2,μ2,O2,α2,Ec,hδ,S2,T2,a2,m2,kc⟩
 have kp:Kp l H1 H2:=λb o hb e=>Ec.keep b o hb e
 refine⟨h2,?_⟩
 have T:To A.R0 (l::A.R0) H1 H2:=kp.to hl
 by_cases hlt:i<ds.length
 ·right
  have hd:= Δ hlt
  obtain⟨go,yl⟩:=Y.step (l::A.R0) H2 T i _ hd
  refine⟨go,Nat.lt_of_le_of_lt hx (Ω hlt (bt hsz)),λy H3 hy=>?_⟩
  obtain⟨s3,rx⟩:=yl y H3 hy
  rw[jS hd] at kc
  obtain⟨s0,rfl⟩:∃s0,δc=[s0]:=by
   match δc,hδ with
   | [s0],_=>simp
  have kc:=vP (show okR _ (ofM ((nX f [.vl ds[i]]).thn _) μ) _ from kc)
  refine⟨_,_,_,_,[s0],[.vl ds[i]],ds[i],l::A.R0,Ec.same s3,rx,rfl,λτ' H4 E4 s4=>?_⟩
  refine⟨_,[.vl ds[i]],l::A.R0,E4.ev,λH5 s5=>?_⟩
  dsimp only
  have E5:=E4.same s5
  have s25:=(s3.trans s4).trans s5
  refine⟨_,[.vl ds[i]],l::A.R0,E5.ev,?_⟩
  cases hf1:f [.vl ds[i]] with
  | none =>
   have:nX f [.vl ds[i]]=none:=by unfold nX;rw[hf1];rfl
   rw[this] at kc
   assumption
  | some rr =>
   cases rr with
   | error y =>
    have:nX f [.vl ds[i]]=none:=by unfold nX;rw[hf1];rfl
    rw[this] at kc
    exact kc.elim
   | ok row =>
    have en:nX f [.vl ds[i]]=some (.ok row):=by unfold nX;rw[hf1];rfl
    rw[en] at kc
    have kc:okR (Er X.K X.mg G A.R0 O α H) (ofM (if aD row=true then (pq f (ds.drop (i+1))).thn λaB=>M.ret (row::aB) else none) μ) _:=kc
    by_cases hf:aD row=true
    case neg =>
     rw[if_neg hf] at kc
     exact kc.elim
    rw[if_pos hf] at kc
    have kc:=vP kc
    intro l' xs' H6 s6 hl' rs
    have h6:= s6 _ _ (s25 _ _ h2)
    have hne:l≠l':=λz=>by simp_all
    have h7:(upd H6 l' (.lst xs')) l=some (.lst xs):=by rw[upd_ne hne];exact h6
    have S6:=S2.same (s25.trans s6)
    have rs':VRs X.K O2 α2 H6 xs' (row.map Val.d):=VRs.data (rs.flat hf)
    have S7:=S6.newL hl' rs'
    have a7:(α2++[some l'])[μ.length]?=some (some l):=by
     grind
    have m7:(μ2++[Ob.lst (row.map Val.d)])[μ.length]?=some (.lst hs2):=by
     grind
    obtain⟨ob,g1,g2⟩:=S7.at_ μ.length l a7
    rw[m7] at g1
    cases g1
    obtain⟨g3,g4,vs,g5,g6⟩:=g2
    rw[h7] at g5
    cases g5
    have rn:=g6.append (VRs.cons (VR.h S6.at_new) VRs.nil)
    refine⟨h7,ds.length-(i+1),by omega,rfl,hlt,by simp_all,aA,[.vl ds[i]],_,_,_,_,EC.put ((E5.same s6).same (aK hl')) h7,rfl,S7.setL a7 m7 rn,((T2.trans (Go.same (s25.trans s6))).trans (Go.newL hl')).trans (Go.setL a7),a7,by rw[List.getElem?_set_self (by grind)],?_⟩
    assumption
 ·left
  have e:i=ds.length:=by omega
  subst e
  rw[V2] at kc
  exact⟨Y.stop (l::A.R0) H2 T,kc (.ref l) O2 α2 H2 T2 S2 (.h a2)⟩
theorem yr(hc:X.calm=true)
  (hkind:scope.kind=.function) (hcell:∀y∈scope.names,y.2≠.cell) (hclos:closureFor scope X.env=pure cl) (hsub:∀y c,cl.lookup y=some c->X.env.cells.lookup y=some c)
  (hhas:∀y∈(relabel scope X.env).names,(y.2=.cell\/y.2=.free)->∃c,cl.lookup y.1=some c) (hnames:∀y∈scope.names,y.2=.local->scope.names.lookup y.1=some .local)
  (hi:PDI X G tg iter fi) (hg:∀C s3 H3 fp,PDG (aP X scope cl [] [x] C s3 H3 fp) tg (tgN 0)) (hcs:∀C s3 H3 fp,pJ (aP X scope cl [] [x] C s3 H3 fp) [] eU) (he:∀C s3 H3 fp,PDN (aP X scope cl [] [x] C s3 H3 fp) (λ_ _=>False) elt f) (hs:∀x,foldedSetIterable iter X.env x=pure x:=by intro _;rfl) :
  SX X G (.ListComp elt [⟨tg,iter,[],0⟩] scope pos) (ml fi f):=by
 obtain⟨wi,pi,hi⟩:=hi
 refine⟨_,oA (fr:=[]) (tn:=[x]) (g:=gD X.K (tgN 0)) (tc:=cD X.K eU) (te:=nD X.K f) hc hkind hcell hclos hsub hhas (λp hp=>nomatch hp) hnames pi (λC s3 H3 fp=>(hg C s3 H3 fp).can) (λC s3 H3 fp=>(hcs C s3 H3 fp).can) (λC s3 H3 fp=>PDN.can (he C s3 H3 fp)) hs,λA δ μ O α σ H Q E k=>xU hi A δ μ O α σ H Q E k⟩
open Classical in
noncomputable def cQ(k:Nat)(xs:List Val)(t:D->av->Option av)(g:av->Sto->R OutS):List D->av->Sto->R OutS
 | [],δ,μ=>if μ[k]?=some (.lst xs) then R.ret (.nx δ μ) else none
 | d::ds,δ,μ=>if μ[k]?=some (.lst xs) then (match t d δ with
  | none=>none
  | some δ1=>(g δ1 μ).thn λo=>match o with
   | .nx δ' μ'=>cQ k xs t g ds δ' μ'
   | .ct δ' μ'=>cQ k xs t g ds δ' μ'
   | .bk δ' μ'=>R.ret (.nx δ' μ')
   | .rt v μ'=>R.ret (.rt v μ')) else none
noncomputable def gX(en:Bool)(t:D->av->Option av)(f:av->Sto->R (Val×Sto))(g:SG):SG:=λn δ μ=>(f δ μ).thn λr=>match r.1 with
 | .h k=>match r.2[k]? with
  | some (.lst xs)=>match eS xs with
   | some ds=>cQ k xs t (g n) (if en then bH 0 ds else ds) δ r.2
   | none=>none
  | _=>none
 | _=>none
theorem yx(hp:PassesOwn `DW X.A X.env X.xe)(hc:X.calm=true)(hi:SX X G iter f)(hg:SGT X tg t)(hb:SSs X G body g)
  (hs:∀x,foldedSetIterable iter X.env x=pure x:=by intro _;rfl):SS X G (.For tg iter body [] pos) (gX false t f g):=by
 obtain⟨ti,p,hi⟩:=hi
 obtain⟨tgt,pt,hg⟩:=hg
 obtain⟨tb,pb,hb⟩:=hb
 refine⟨_,oy hp hc (B9 p) pt pb hs,λA δ μ O α σ H Dn E k=>?_⟩
 refine hi A δ μ O α σ H _ E (au (aY (aq k) λx μ h=>Er.go E.st h) λr z v O1 α1 H1 T1 S1 r1=>?_)
 have E1:=E.go T1 S1
 obtain⟨rv,rμ⟩:=r
 cases rv with
 | h kk =>
  obtain⟨l,hl,rfl⟩:=r1.hinv
  dsimp only at z
  obtain⟨ob,g1,g2⟩:=S1.at_ kk l hl
  rw[g1] at z
  cases ob with
  | lst xs =>
   dsimp only at z
   cases hdo:eS xs with
   | none=>rw[hdo] at z;exact z.elim
   | some ds =>
    rw[hdo] at z
    have hxs:=gR hdo
    subst hxs
    dsimp only at z
    obtain⟨g3,g4,vs,g5,g6⟩:=g2
    refine⟨l,rfl,⟨vs,.inl (.inl g5)⟩,?_⟩
    refine⟨λi' m σ2 H2=>m=ds.length-i'/\i'<=ds.length/\∃δ2 μ2 O2 α2,SEv X.K X.mg A O2 α2 H2 σ2 δ2 μ2/\Go O α H O2 α2 H2/\α2[kk]?=some (some l)/\okR (Er X.K X.mg G A.R0 A.O A.α A.H) (cQ kk (ds.map Val.d) t (g A.α.length) (ds.drop i') δ2 μ2) (kn X.K X.mg A O α H Dn),⟨_,rfl,Y5 _,δ,rμ,O1,α1,E1,T1,hl,z⟩,?_⟩
    rintro i' m σ2 H2 ⟨rfl,hi',δ2,μ2,O2,α2,E2,T,hl2,k2⟩
    by_cases hlt:i'<ds.length
    ·right
     have hd:(ds.map Val.d)[i']?=some (.d ds[i']):=by simp
     have hdrop:= U9 hlt
     rw[hdrop] at k2
     unfold cQ at k2
     by_cases hm:μ2[kk]?=some (.lst (ds.map Val.d))
     ·rw[if_pos hm] at k2
      obtain⟨ob2,u1,u2⟩:=E2.sr.at_ kk l hl2
      rw[hm] at u1
      cases u1
      obtain⟨u3,u4,vs2,u5,u6⟩:=u2
      obtain⟨x,hx,rx⟩:=u6.get hd
      refine⟨⟨vs2,x,.inl (.inl u5),hx⟩,λσ' H'=>∃δ2 μ2 O2 α2,SEv X.K X.mg A O2 α2 H' σ' δ2 μ2/\Go O α H O2 α2 H'/\α2[kk]?=some (some l)/\okR (Er X.K X.mg G A.R0 A.O A.α A.H) (cQ kk (ds.map Val.d) t (g A.α.length) (ds.drop (i'+1)) δ2 μ2) (kn X.K X.mg A O α H Dn),λσ' H' h=>⟨_,by omega,rfl,hlt,h⟩,λy H3 hy=>?_⟩
      obtain⟨rfl,hy⟩:=hy
      have ey:=hy vs2 (.inl (.inl u5))
      rw[hx] at ey
      cases ey
      cases h3:t ds[i'] δ2 with
      | none=>rw[h3] at k2;exact k2.elim
      | some δ3 =>
       rw[h3] at k2
       refine hg A δ2 δ3 ds[i'] _ O2 α2 σ2 μ2 _ _ E2 rx.dinv h3 λσ4 E4=>?_
       refine hb A δ3 μ2 O2 α2 σ4 _ _ E4 (au (aq k2) λo z=>?_)
       cases o with
       | nx δ5 μ5=>exact λO5 α5 σ5 H5 E5 T5=>⟨δ5,μ5,O5,α5,E5,T.trans T5,T5.ex _ _ hl2,z⟩
       | ct δ5 μ5=>exact λO5 α5 σ5 H5 E5 T5=>⟨δ5,μ5,O5,α5,E5,T.trans T5,T5.ex _ _ hl2,z⟩
       | bk δ5 μ5=>exact λO5 α5 σ5 H5 E5 T5=>z O5 α5 σ5 H5 E5 (T.trans T5)
       | rt v μ5=>exact z
     ·rw[if_neg hm] at k2;exact k2.elim
    ·left
     have e:i'=ds.length:=by omega
     subst e
     rw[V2] at k2
     unfold cQ at k2
     by_cases hm:μ2[kk]?=some (.lst (ds.map Val.d))
     ·rw[if_pos hm] at k2
      obtain⟨ob2,u1,u2⟩:=E2.sr.at_ kk l hl2
      rw[hm] at u1
      cases u1
      obtain⟨u3,u4,vs2,u5,u6⟩:=u2
      exact⟨⟨vs2,.inl (.inl u5),by rw[u6.length,ς];assumption⟩,k2 O2 α2 σ2 H2 E2 T⟩
     ·rw[if_neg hm] at k2;exact k2.elim
  | _=>exact z.elim
 | _=>exact z.elim
theorem yw(hp:PassesOwn `DW X.A X.env X.xe)(hc:X.calm=true)(hgl:Gl X "enumerate")(hmg:X.mg "enumerate" = none)(hi:SX X G a f)(hg:SGT X (.Tuple elts x1 tpos) t)(hb:SSs X G body g)
  (hs:∀x,foldedSetIterable (.Call (.Name "enumerate" p) [a] [] ipos) X.env x=pure x:=by intro _;rfl) (hst:starEach [a] X.env=(false,eval a X.env)::starEach [] X.env:=by rfl) (hst1:starEach [a] X.env=[(false,eval a X.env)]:=by rfl):SS X G (.For (.Tuple elts x1 tpos) (.Call (.Name "enumerate" p) [a] [] ipos) body [] pos) (gX true t f g):=by
 obtain⟨ti,pe,hi⟩:=hi
 obtain⟨tgt,pt,hg⟩:=hg
 obtain⟨tb,pb,hb⟩:=hb
 refine⟨_,oy hp hc (vK hgl hmg (e8 pe iS hst) hst1) pt pb hs,λA δ μ O α σ H Dn E k=>?_⟩
 refine hi A δ μ O α σ H _ E (au (aY (aq k) λx μ h=>Er.go E.st h) λr z v O1 α1 H1 T1 S1 r1=>?_)
 have E1:=E.go T1 S1
 obtain⟨rv,rμ⟩:=r
 cases rv with
 | h kk =>
  obtain⟨l,hl,rfl⟩:=r1.hinv
  dsimp only at z
  obtain⟨ob,g1,g2⟩:=S1.at_ kk l hl
  rw[g1] at z
  cases ob with
  | lst xs =>
   dsimp only at z
   cases hdo:eS xs with
   | none=>rw[hdo] at z;exact z.elim
   | some ds =>
    rw[hdo] at z
    have hxs:=gR hdo
    subst hxs
    dsimp only at z
    obtain⟨g3,g4,vs,g5,g6⟩:=g2
    have hel:= j9 0 ds
    refine⟨l,rfl,⟨vs,.inl (.inl g5)⟩,?_⟩
    refine⟨λi' m σ2 H2=>m=ds.length-i'/\i'<=ds.length/\∃δ2 μ2 O2 α2,SEv X.K X.mg A O2 α2 H2 σ2 δ2 μ2/\Go O α H O2 α2 H2/\α2[kk]?=some (some l)/\okR (Er X.K X.mg G A.R0 A.O A.α A.H) (cQ kk (ds.map Val.d) t (g A.α.length) ((bH 0 ds).drop i') δ2 μ2) (kn X.K X.mg A O α H Dn),⟨_,rfl,Y5 _,δ,rμ,O1,α1,E1,T1,hl,z⟩,?_⟩
    rintro i' m σ2 H2 ⟨rfl,hi',δ2,μ2,O2,α2,E2,T,hl2,k2⟩
    by_cases hlt:i'<ds.length
    ·right
     have hd:(ds.map Val.d)[i']?=some (.d ds[i']):=by simp
     have hlt2:i'<(bH 0 ds).length:=by omega
     obtain⟨w,hw,ew⟩:=iD (Δ hlt2)
     rw[Δ hlt] at hw
     cases hw
     rw[W1] at ew
     have hdrop:(bH 0 ds).drop i'=.tuple [.int (i':Int),ds[i']]::(bH 0 ds).drop (i'+1):=by rw[<-ew];simp
     rw[hdrop] at k2
     unfold cQ at k2
     by_cases hm:μ2[kk]?=some (.lst (ds.map Val.d))
     ·rw[if_pos hm] at k2
      obtain⟨ob2,u1,u2⟩:=E2.sr.at_ kk l hl2
      rw[hm] at u1
      cases u1
      obtain⟨u3,u4,vs2,u5,u6⟩:=u2
      obtain⟨x,hx,rx⟩:=u6.get hd
      refine⟨⟨vs2,x,.inl (.inl u5),hx⟩,λσ' H'=>∃δ2 μ2 O2 α2,SEv X.K X.mg A O2 α2 H' σ' δ2 μ2/\Go O α H O2 α2 H'/\α2[kk]?=some (some l)/\okR (Er X.K X.mg G A.R0 A.O A.α A.H) (cQ kk (ds.map Val.d) t (g A.α.length) ((bH 0 ds).drop (i'+1)) δ2 μ2) (kn X.K X.mg A O α H Dn),λσ' H' h=>⟨_,by omega,rfl,hlt,h⟩,λy H3 hy=>?_⟩
      obtain⟨T',rfl,hT',hy⟩:=hy
      have e3:=hy vs2 x (.inl (.inl u5)) hx
      subst e3
      have E3:=E2.same (aK (o:=.tup [.int (i':Int),x]) hT')
      have T3:=T.trans (Go.same (aK (o:=.tup [.int (i':Int),x]) hT'))
      have rt:Rep X.K O2 (upd H2 T' (.tup [.int (i':Int),x])) (.ref T') (.tuple [.int (i':Int),ds[i']]):=im hT' (.cons (.int _) (.cons rx.dinv .nil))
      cases h3:t (.tuple [.int (i':Int),ds[i']]) δ2 with
      | none=>rw[h3] at k2;exact k2.elim
      | some δ3 =>
       rw[h3] at k2
       refine hg A δ2 δ3 _ _ O2 α2 σ2 μ2 _ _ E3 rt h3 λσ4 E4=>?_
       refine hb A δ3 μ2 O2 α2 σ4 _ _ E4 (au (aq k2) λo z=>?_)
       cases o with
       | nx δ5 μ5=>exact λO5 α5 σ5 H5 E5 T5=>⟨δ5,μ5,O5,α5,E5,T3.trans T5,T5.ex _ _ hl2,z⟩
       | ct δ5 μ5=>exact λO5 α5 σ5 H5 E5 T5=>⟨δ5,μ5,O5,α5,E5,T3.trans T5,T5.ex _ _ hl2,z⟩
       | bk δ5 μ5=>exact λO5 α5 σ5 H5 E5 T5=>z O5 α5 σ5 H5 E5 (T3.trans T5)
       | rt v μ5=>exact z
     ·rw[if_neg hm] at k2;exact k2.elim
    ·left
     have e:i'=ds.length:=by omega
     subst e
     rw[<-hel,V2] at k2
     unfold cQ at k2
     by_cases hm:μ2[kk]?=some (.lst (ds.map Val.d))
     ·rw[if_pos hm] at k2
      obtain⟨ob2,u1,u2⟩:=E2.sr.at_ kk l hl2
      rw[hm] at u1
      cases u1
      obtain⟨u3,u4,vs2,u5,u6⟩:=u2
      exact⟨⟨vs2,.inl (.inl u5),by rw[u6.length,ς];assumption⟩,k2 O2 α2 σ2 H2 E2 T⟩
     ·rw[if_neg hm] at k2;exact k2.elim
  | _=>exact z.elim
 | _=>exact z.elim
theorem lP(h1:f δ μ=R.ret (.h k,μ'))(h2:μ'[k]?=some (.lst (ds.map Val.d)))(h3:cQ k (ds.map Val.d) t (g n) (if en then bH 0 ds else ds) δ μ'=r):gX en t f g n δ μ=r:=by
 unfold gX
 rw[h1,aQ]
 dsimp only
 rw[h2]
 dsimp only
 rw[u7]
 exact h3
theorem j4(h:μ[k]?=some (.lst xs)):cQ k xs t g [] δ μ=R.ret (.nx δ μ):=by
 unfold cQ
 simp_all
theorem eQ(h:μ[k]?=some (.lst xs))(ht:t d δ=some δ1)(h1:g δ1 μ=R.ret (.nx δ' μ'))(h2:cQ k xs t g ds δ' μ'=r):cQ k xs t g (d::ds) δ μ=r:=by
 unfold cQ
 rw[if_pos h,ht]
 dsimp only
 rw[h1]
 exact h2
theorem AV(h1:fi (viewL 0 μ δ)=M.ret ds)(hz:aJ ds.length=true)(h2:pq fn ds=M.ret rows):ml fi fn δ μ=R.ret (.h μ.length,dF μ.length rows [] (μ++[.lst []])):=by
 unfold ml
 rw[h1]
 show(if aJ ds.length=true then _ else _)=_
 rw[if_pos hz,h2]
 rfl
end
end SL
namespace DL
open PyProof.Rows L2
section
end
end DL
namespace SL
open PyProof.Rows L2 DL
noncomputable def cH:List (Option D)->Option (List D)
 | []=>some []
 | some d::r=>(cH r).map (d :: ·)
 | none::_=>none
noncomputable def lvN:Nat->Sto->Val->Option D
 | 0=>λ_ v=>match v with
  | .d x=>some x
  | _=>none
 | f+1=>λμ v=>match v with
  | .d x=>some x
  | .h k=>match μ[k]? with
   | some (.lst xs)=>(cH (xs.map (lvN f μ))).map Θ
   | some (.ins c fs)=>(cH ((fs.map (·.2)).map (lvN f μ))).map λds=>iY c ((fs.map (·.1)).zip ds)
   | _=>none
  | .t xs=>(cH (xs.map (lvN f μ))).map W9
theorem ud:∀{l:List (Option D)} {ds:List D},cH l=some ds->ds.length=l.length
 | [],ds,h=>by cases h;rfl
 | none::r,ds,h=>by cases h
 | some d::r,ds,h=>by
  have h:(cH r).map (d :: ·)=some ds:=h
  cases e:cH r with
  | none=>simp_all
  | some q=>rw[e] at h;cases h;rw[Φ,Φ,ud e]
section
variable{K:ε}{mg:Str->Option Value}{A:An}{R0 O O':List Addr}{α:List (Option Addr)}{H:Hp}{μ:Sto}{σ:L2.St}{δ:av}
theorem lx{f:Nat}(ih:∀{v:V} {x:Val} {d:D},VR K O α H v x->lvN f μ x=some d->Rep K O' H v d):∀{xs:List Val} {vs:List V} {ds:List D},VRs K O α H vs xs->cH (xs.map (lvN f μ))=some ds->Reps K O' H vs ds
 | [],_,ds,.nil,h=>by cases h;exact .nil
 | x::xs,_,ds,.cons r rs,h=>by
  rw[ω] at h
  cases e:lvN f μ x with
  | none=>rw[e] at h;cases h
  | some d =>
   rw[e] at h
   have h:(cH (xs.map (lvN f μ))).map (d :: ·)=some ds:=h
   cases e2:cH (xs.map (lvN f μ)) with
   | none=>simp_all
   | some q=>rw[e2] at h;cases h;exact .cons (ih r e) (lx ih rs e2)
theorem vT(S:SR K mg R0 O α H μ)(T:To O O' H H)(hn:∀(k:Nat) (a:Addr),α[k]?=some (some a)->a∉O'):∀(f:Nat) {v:V} {x:Val} {d:D},VR K O α H v x->lvN f μ x=some d->Rep K O' H v d
 | 0,v,x,d,r,h=>by
  cases x with
  | d x=>cases h;exact Rep.to T r.dinv
  | h k=>cases h
  | t xs=>cases h
 | f+1,v,x,d,r,h=>by
  have ih:∀{v:V} {x:Val} {d:D},VR K O α H v x->lvN f μ x=some d->Rep K O' H v d:=λ{v x d}=>vT S T hn f
  cases x with
  | d x=>cases h;exact Rep.to T r.dinv
  | t xs =>
   obtain⟨a,vs,rfl,hs,rs⟩:=r.tinv
   have h:(cH (xs.map (lvN f μ))).map W9=some d:=h
   cases e:cH (xs.map (lvN f μ)) with
   | none=>simp_all
   | some ds=>rw[e] at h;cases h;exact .tup hs (lx ih rs e)
  | h k =>
   obtain⟨a,ha,rfl⟩:=r.hinv
   obtain⟨ob,g1,g2⟩:=S.at_ k a ha
   have h:(match μ[k]? with
    | some (.lst xs)=>(cH (xs.map (lvN f μ))).map Θ
    | some (.ins c fs)=>(cH ((fs.map (·.2)).map (lvN f μ))).map λds=>iY c ((fs.map (·.1)).zip ds)
    | _=>none)=some d:=h
   rw[g1] at h
   cases ob with
   | lst xs =>
    have h:(cH (xs.map (lvN f μ))).map Θ=some d:=h
    obtain⟨_,_,vs,g5,g6⟩:=g2
    cases e:cH (xs.map (lvN f μ)) with
    | none=>simp_all
    | some ds=>rw[e] at h;cases h;exact .lst (.inl g5) (hn k a ha) (lx ih g6 e)
   | ins c fs =>
    have h:(cH ((fs.map (·.2)).map (lvN f μ))).map (λds=>iY c ((fs.map (·.1)).zip ds))=some d:=h
    obtain⟨_,_,C,dx,vfs,g3,g4,g5,g6⟩:=g2
    cases e:cH ((fs.map (·.2)).map (lvN f μ)) with
    | none=>simp_all
    | some ds =>
     rw[e] at h
     cases h
     have hl:ds.length=fs.length:=by have:=ud e;simp_all
     have e1:((fs.map (·.1)).zip ds).map (·.1)=fs.map (·.1):=List.map_fst_zip (by simp_all)
     have e2:((fs.map (·.1)).zip ds).map (·.2)=ds:=List.map_snd_zip (by simp_all)
     exact .ins g3 g4 (hn k a ha) (by simp_all) (by rw[e2];exact lx ih g6 e)
   | dct es=>cases h
   | gone=>cases h
noncomputable def v1N(f:Nat)(μ:Sto):Option Val->Sl
 | some x=>match lvN f μ x with
  | some d=>.vl d
  | none=>.un
 | none=>.un
noncomputable def viewN(f:Nat)(μ:Sto)(δ:av):DS:=δ.map (v1N f μ)
theorem pL{f i:Nat}{s:Sl}(h:(viewN f μ δ)[i]?=some s):(∃x d,δ[i]?=some (some x)/\lvN f μ x=some d/\s=.vl d)\/s=.un:=by
 unfold viewN at h
 rw[Γ] at h
 cases e:δ[i]? with
 | none=>simp_all
 | some o =>
  rw[e] at h
  cases o with
  | none=>cases h;exact .inr rfl
  | some x =>
   have h:some (match lvN f μ x with | some d=>Sl.vl d | none=>.un)=some s:=h
   grind
theorem SR.apart(S:SR K mg R0 O α H μ){k:Nat}{a:Addr}(h:α[k]?=some (some a)):a∉R0:=by
 obtain⟨ob,_,g⟩:=S.at_ k a h
 cases ob with
 | lst xs=>exact g.2.1
 | dct es=>exact g.2.1
 | ins c fs=>exact g.2.1
 | gone=>exact g.elim
theorem SEv.viewN{f:Nat}(E:SEv K mg A O α H σ δ μ):Ev K H A.R0 H σ (SL.viewN f μ δ):=by
 have T:To O A.R0 H H:=.less E.sr.sub
 refine⟨aE.refl H,λl hl=>E.sr.oo l (E.sr.sub l hl),by unfold SL.viewN;rw[ς];exact E.len,λi s h=>?_,λi j l ds es hij h1=>?_⟩
 ·rcases pL h with ⟨x,d,h1,h2,rfl⟩ | rfl
  ·obtain⟨v,g1,g2⟩:=E.at_ i _ h1
   exact⟨v,g1,vT E.sr T (λk a h=>E.sr.apart h) f g2 h2⟩
  ·trivial
 ·rcases pL h1 with ⟨x,d,_,_,z⟩ | z<;>cases z
end
section
noncomputable def br(f:DS->M D):av->Sto->R (Val×Sto):=λδ μ=>(ofM (f (viewN 4 μ δ)) μ).thn λd=>if bA d=true then R.ret (.d d,μ) else none
theorem yq(h:PD X G e f):SX X G e (br f):=by
 obtain⟨t,p,h⟩:=h
 refine⟨t,p,λA δ μ O α σ H Q E k=>?_⟩
 refine h (viewN 4 μ δ) A.R0 σ H Q E.viewN (ah (dQ E.sr (aq k)) λd z v H' s r=>?_)
 by_cases hf:bA d=true
 ·rw[if_pos hf] at z
  exact z v O α H' (Go.same s) (E.sr.same s) (.d (r.flat hf))
 ·rw[if_neg hf] at z;exact z.elim
noncomputable def iO(fb:DS->M Bool):av->Sto->R (Bool×Sto):=λδ μ=>(ofM (fb (viewN 4 μ δ)) μ).thn λb=>R.ret (b,μ)
theorem yu(h:PDT X G e fb):ST X G e (iO fb):=by
 obtain⟨t,p,h⟩:=h
 refine⟨t,p,λA δ μ O α σ H Q E k=>?_⟩
 exact h (viewN 4 μ δ) A.R0 σ H Q E.viewN (ah (dQ E.sr (aq k)) λb z H' s=>z O α H' (Go.same s) (E.sr.same s))
noncomputable def gl(fn:DS->M (List D)):av->Sto->R (Val×Sto):=λδ μ=>(ofM (fn (viewN 4 μ δ)) μ).thn λds=>if aD ds=true then R.ret (.h μ.length,μ++[.lst (ds.map Val.d)]) else none
theorem qL(he:PDN X G e fn):SX X G e (gl fn):=by
 obtain⟨t,p,he⟩:=he
 refine⟨t,p,λA δ μ O α σ H Q E k=>?_⟩
 refine he (viewN 4 μ δ) A.R0 σ H _ E.viewN (ah (dQ E.sr (aq k)) λds z l xs H1 s1 hl rx=>?_)
 by_cases hf:aD ds=true
 ·rw[if_pos hf] at z
  have E1:=E.same s1
  exact z _ (l::O) (α++[some l]) _ ((Go.same s1).trans (Go.newL hl)) (E1.sr.newL hl (VRs.data (rx.flat hf))) (.h E.sr.at_new)
 ·rw[if_neg hf] at z;exact z.elim
noncomputable def gW(f:DS->M D):av->Sto->R (Val×Sto):=λδ μ=>(ofM (f (viewN 4 μ δ)) μ).thn λd=>match d with
 | .list ds=>if aD ds=true then R.ret (.h μ.length,μ++[.lst (ds.map Val.d)]) else none
 | _=>none
theorem nU(he:PDF X G e f):SX X G e (gW f):=by
 obtain⟨t,p,he⟩:=he
 refine⟨t,p,λA δ μ O α σ H Q E k=>?_⟩
 refine he (viewN 4 μ δ) A.R0 σ H _ E.viewN (ah (dQ E.sr (aq k)) λd z=>?_)
 match d,z with
 | .list ds,z =>
  dsimp only at z
  by_cases hf:aD ds=true
  ·rw[if_pos hf] at z
   exact⟨ds,rfl,hf,λl xs H' s hl hx rx=>z _ (l::O) (α++[some l]) H' (Go.adopt s hl) (E.sr.adopt s hl hx rx hf) (.h E.sr.at_new)⟩
  ·rw[if_neg hf] at z;exact z.elim
end
end SL
namespace SL
open PyProof.Rows L2 DL
section
variable{K:ε}{mg:Str->Option Value}{A:An}{R0 O O':List Addr}{α:List (Option Addr)}{H:Hp}{μ:Sto}
theorem VRs.look{f:Str}{x:Val}:∀{vfs:List (Str×V)} {fs:List (Str×Val)},vfs.map (·.1)=fs.map (·.1)->VRs K O α H (vfs.map (·.2)) (fs.map (·.2))->fs.lookup f=some x->∃v,vfs.lookup f=some v/\VR K O α H v x
 | [],[],_,_,h=>by cases h
 | [],_::_,hk,_,_=>by cases hk
 | _::_,[],hk,_,_=>by cases hk
 | (g,v)::vfs,(g2,y)::fs,hk,r,h=>by
  simp only[ω,List.cons.injEq] at hk
  obtain⟨rfl,hk⟩:=hk
  cases r with
  | cons r rs =>
   cases hb:(f==g) with
   | true =>
    simp_all
   | false =>
    simp only[List.lookup,hb] at h ⊢
    exact VRs.look hk rs h
theorem mt:∀{vfs:List (Str×V)} {fs:List (Str×Val)},vfs.map (·.1)=fs.map (·.1)->fs.lookup f=none->vfs.lookup f=none
 | [],[],_,_=>rfl
 | [],_::_,hk,_=>by cases hk
 | _::_,[],hk,_=>by cases hk
 | (g,v)::vfs,(g2,y)::fs,hk,h=>by
  simp only[ω,List.cons.injEq] at hk
  obtain⟨rfl,hk⟩:=hk
  cases hb:(f==g) with
  | true=>simp_all
  | false =>
   simp only[List.lookup,hb] at h ⊢
   exact mt hk h
noncomputable def fK(f:Str)(v:Val):List (Str×Val)->List (Str×Val)
 | []=>[(f,v)]
 | (g,x)::r=>if g=f then (g,v)::r else (g,x)::fK f v r
theorem sH{f:Str}{v:V}{x:Val}(rv:VR K O α H v x):∀{vfs:List (Str×V)} {fs:List (Str×Val)},vfs.map (·.1)=fs.map (·.1)->VRs K O α H (vfs.map (·.2)) (fs.map (·.2))->(io f v vfs).map (·.1)=(fK f x fs).map (·.1)/\VRs K O α H ((io f v vfs).map (·.2)) ((fK f x fs).map (·.2))
 | [],[],_,_=>⟨rfl,.cons rv .nil⟩
 | [],_::_,hk,_=>by cases hk
 | _::_,[],hk,_=>by cases hk
 | (g,v')::vfs,(g2,y)::fs,hk,r=>by
  simp only[ω,List.cons.injEq] at hk
  obtain⟨rfl,hk⟩:=hk
  cases r with
  | cons r rs =>
   by_cases hg:g=f
   ·rw[io,fK,if_pos hg,if_pos hg]
    exact⟨by simp [hk],.cons rv rs⟩
   ·rw[io,fK,if_neg hg,if_neg hg]
    obtain⟨i1,i2⟩:=sH rv hk rs
    exact⟨by simp [i1],.cons r i2⟩
theorem Aj{vfs:List (Str×V)}{fs:List (Str×Val)}(h:vfs.map (·.1)=fs.map (·.1)):vfs.length=fs.length:=by
 have:=congrArg V5 h
 grind
theorem To.setI(hl:H l=some (.ins C dx fs))(ho:l∈O):To O O H (upd H l (.ins C dx ys)):=by
 have keep:∀{b:Addr} {o:HO},b≠l->Rd H b o->Rd (upd H l (.ins C dx ys)) b o:=λ{b o} hb h=>by
  rcases h with h | ⟨u,h⟩
  ·exact .inl (by rw[upd_ne hb];exact h)
  ·exact .inr ⟨u,by rw[upd_ne hb];exact h⟩
 walk_at "e"
theorem SR.setI(S:SR K mg R0 O α H μ){k:Nat}{a C dx:Addr}{c:Str}{fs fs':List (Str×Val)}{vfs vfs':List (Str×V)}(h:α[k]?=some (some a))(hk:μ[k]?=some (.ins c fs))(hH:H a=some (.ins C dx vfs))(hk':vfs'.map (·.1)=fs'.map (·.1))(r:VRs K O α H (vfs'.map (·.2)) (fs'.map (·.2))):SR K mg R0 O α (upd H a (.ins C dx vfs')) (μ.set k (.ins c fs')):=by
 obtain⟨ob,h1,h2⟩:=S.at_ k a h
 rw[hk] at h1
 cases h1
 obtain⟨ho,hn,C',dx',w,hN,hv,_⟩:=h2
 rw[hH] at hv
 cases hv
 have T:To O O H (upd H a (.ins C dx vfs')):=To.setI hH ho
 refine⟨by rw[Λ];exact S.len,S.nd,λl hl=>?_,S.sub,λj b hj=>?_⟩
 ·by_cases e:l=a
  ·subst e;exact .inr (.inr ⟨C,dx,vfs',aA⟩)
  ·exact(S.oo l hl).upd_ne e
 ·by_cases e:j=k
  ·subst e
   rw[h] at hj
   cases hj
   exact⟨.ins c fs',by rw[aW,if_pos rfl,if_pos (ρ.mp hk).1],ho,hn,C,dx,vfs',hN,aA,hk',r.to T λ_ _ h=>h⟩
  ·obtain⟨ob,g1,g2⟩:=S.at_ j b hj
   have hb:b≠a:=λz=>e (S.nd j k a (z▸hj) h)
   exact⟨ob,by rw[aW,if_neg (λz=>e z.symm)];exact g1,g2.to T (λ_ _ h=>h) (λz=>z) (upd_ne hb)⟩
theorem SR.newI(S:SR K mg R0 O α H μ){l C dx:Addr}{c:Str}(hN:Ξ K mainGlobals c=some (some (.ref C)))(hl:H l=none):SR K mg R0 (l::O) (α++[some l]) (upd H l (.ins C dx [])) (μ++[.ins c []]):=by
 have T:To O (l::O) H (upd H l (.ins C dx [])):=To.own hl
 walk_at "a"
 have ne:∀(k:Nat) (a:Addr),α[k]?=some (some a)->a≠l:=λk a h z=>by
  obtain⟨o,h3,_⟩:=S.tracked h
  rw[z,hl] at h3;cases h3
 refine⟨by rw[η,η,S.len];rfl,λi j a h1 h2=>?_,λb hb=>?_,λb hb=>θ _ (S.sub b hb),λk a h=>?_⟩
 ·rcases cs i a h1 with h1 | ⟨h1,z⟩<;>rcases cs j a h2 with h2 | ⟨h2,z2⟩
  ·exact S.nd i j a h1 h2
  ·exact absurd z2 (ne i a h1)
  ·exact absurd z (ne j a h2)
  ·omega
 ·rcases ψ.mp hb with rfl | hb
  ·exact .inr (.inr ⟨C,dx,[],aA⟩)
  ·exact(S.oo b hb).new hl
 ·rcases cs k a h with h | ⟨rfl,rfl⟩
  ·obtain⟨ob,h1,h2⟩:=S.at_ k a h
   exact⟨ob,by rw[ι (ρ.mp h1).1];exact h1,h2.to T e (λz=>θ _ z) (upd_ne (ne k a h))⟩
  ·refine⟨.ins c [],by rw[S.len,ο (ξ _),Y4];rfl,υ,λz=>?_,C,dx,[],hN,aA,rfl,.nil⟩
   obtain⟨o,ho⟩:=(S.oo a (S.sub a z)).some
   rw[hl] at ho;cases ho
end
section
variable{X:Cx}{G:XD->Hp->Prop}{o e:Expr}{es:List Expr}{pos pos' apos cpos p:Pos}{fo fe:av->Sto->R (Val×Sto)}{fa:av->Sto->R (List Val×Sto)}{C:Addr}{c f:Str}
noncomputable def sAt(c f:Str)(fo:av->Sto->R (Val×Sto)):av->Sto->R (Val×Sto):=λδ μ=>(fo δ μ).thn λr=>match r.1 with
 | .h k=>match r.2[k]? with
  | some (.ins c' fs)=>if c'=c then (match fs.lookup f with
   | some v=>R.ret (v,r.2)
   | none=>none) else none
  | _=>none
 | _=>none
theorem sx_at(ho:SX X G o fo)(hN:Ξ X.K mainGlobals c=some (some (.ref C)))(hc:Cls X.K C)(hn:jg X.K C f)(hb:attributeBase o f X.env (eval o X.env)=eval o X.env:=by rfl):SX X G (.Attribute o f pos) (sAt c f fo):=by
 obtain⟨t,p,ho⟩:=ho
 refine⟨_,zc p hb,λA δ μ O α σ H Q E k=>?_⟩
 walk_at "d"
 cases p1 with
 | h k =>
  obtain⟨l,hl,rfl⟩:=r1.hinv
  obtain⟨ob,g1,g2⟩:=S1.at_ k l hl
  dsimp only at z
  rw[g1] at z
  cases ob with
  | ins c' fs =>
   obtain⟨_,_,C',dx,vfs,hN',g4,g5,g6⟩:=g2
   dsimp only at z
   by_cases hcc:c'=c
   ·rw[if_pos hcc] at z
    have zz:=z
    subst hcc
    have hC:C'=C:=by
     simp_all
    subst hC
    cases hlk:fs.lookup f with
    | none=>rw[hlk] at zz;exact zz.elim
    | some x =>
     rw[hlk] at zz
     obtain⟨u,q1,q2⟩:=VRs.look g5 g6 hlk
     exact⟨l,C',dx,vfs,u,rfl,g4,hc,hn,q1,zz u O1 α1 H1 T1 S1 q2⟩
   ·rw[if_neg hcc] at z;exact z.elim
  | _=>exact z.elim
 | _=>exact z.elim
noncomputable def dL(c f:Str)(fo fe:av->Sto->R (Val×Sto)):SG:=λ_ δ μ=>(fe δ μ).thn λr=>(fo δ r.2).thn λq=>match q.1 with
 | .h k=>match q.2[k]? with
  | some (.ins c' fs)=>if c'=c/\fs.length<1000 then R.ret (.nx δ (q.2.set k (.ins c (fK f r.1 fs)))) else none
  | _=>none
 | _=>none
theorem ik(ho:SX X G o fo)(he:SX X G e fe)(hN:Ξ X.K mainGlobals c=some (some (.ref C)))(hc:Cls X.K C)(hn:jg X.K C f)(hs:swapsWith e (some (.Attribute o f pos')) pos.line X.env=pure false:=by rfl):SS X G (.Assign [.Attribute o f pos'] e pos) (dL c f fo fe):=by
 obtain⟨t,p,ho⟩:=ho
 obtain⟨u,q,he⟩:=he
 refine⟨_,ps_fld p q hs,λA δ μ O α σ H Dn E k=>?_⟩
 refine he A δ μ O α σ H _ E (au (aY (aq k) λx μ h=>Er.go E.st h) λr z v O1 α1 H1 T1 S1 r1=>?_)
 have E1:=E.go T1 S1
 refine ho A δ r.2 O1 α1 σ H1 _ E1 (au (aY (aq z) λx μ h=>Er.go E1.st h) λy w u' O2 α2 H2 T2 S2 r2=>?_)
 obtain⟨y1,y2⟩:=y
 cases y1 with
 | h k =>
  obtain⟨l,hl,rfl⟩:=r2.hinv
  obtain⟨ob,g1,g2⟩:=S2.at_ k l hl
  dsimp only at w
  rw[g1] at w
  cases ob with
  | ins c' fs =>
   obtain⟨_,_,C',dx,vfs,hN',g4,g5,g6⟩:=g2
   dsimp only at w
   by_cases hcc:c'=c/\fs.length<1000
   ·rw[if_pos hcc] at w
    have ww:=w
    obtain⟨rfl,hlen⟩:=hcc
    have hC:C'=C:=by
     simp_all
    subst hC
    have rv:= r1.to (Go.to S1 T2) T2.ex
    obtain⟨i1,i2⟩:=sH rv g5 g6
    have S3:=S2.setI hl g1 g4 i1 i2
    have T3:Go O2 α2 H2 O2 α2 (upd H2 l (.ins C' dx (io f v vfs))):=Go.setL hl
    exact⟨l,C',dx,vfs,rfl,g4,hc,hn,by rw[Aj g5];omega,ww O2 α2 σ _ ((E1.go T2 S2).go T3 S3) (T1.trans (T2.trans T3))⟩
   ·rw[if_neg hcc] at w;exact w.elim
  | _=>exact w.elim
 | _=>exact w.elim
structure DefSM(P:Program)(w:World)(K:ε)(mg:Str->Option Value)(base:Heap)(k:Nat)(c m:Str)(n:Nat)(F:List Val->Sto->R (Val×Sto)):Prop where
 ex:∃(C f:Addr) (fd:FuncData) (ps:List Str),Ξ K mainGlobals c=some (some (.ref C))/\Cls K C/\Meth K C m f/\FnOk P w K mg base CX0 k f fd ps (spS K mg n F)/\cM K fd ps []
noncomputable def lf(c m:Str)(F:List Val->Sto->R (Val×Sto))(fo:av->Sto->R (Val×Sto))(fa:av->Sto->R (List Val×Sto)):av->Sto->R (Val×Sto):=λδ μ=>(fo δ μ).thn λr=>match r.1 with
 | .h k=>match r.2[k]? with
  | some (.ins c' fs)=>if c'=c/\fs.lookup m=none then (fa δ r.2).thn λq=>zO (F (.h k::q.1) q.2) else none
  | _=>none
 | _=>none
theorem sx_met(h:DefSM X.prog X.w X.K X.mg X.base k c m n F)(hr:Room k X.A)(hn:(e::es).length+1=n)(ho:SX X G o fo)(ha:SA X G (e::es) fa)
  (hst:`we:=by rfl) (hpl:(backTo pos (starEach es X.env)).any (·.1)=false:=by rfl)
  (ht:eval (.Call (.Attribute o m apos) (e::es) [] pos) X.env=(do
   let ov <- eval o X.env
   standAt apos.atName
   let (f,first) <- holding [ov] (getMethod ov m pl)
   callWith pos f first (backTo pos (starEach (e::es) X.env)) (backToKw pos (keywordEach [] X.env))):=by rfl) :
  SX X G (.Call (.Attribute o m apos) (e::es) [] pos) (lf c m F fo fa):=by
 obtain⟨C,f0,fd,ps,hN,hc,hm,F1,hb⟩:=h.ex
 obtain⟨t,p,ho⟩:=ho
 obtain⟨hl,ta,pa,ha⟩:=ha
 refine⟨_,qU p hc hm F1 hr hb .nil kr pa hst hpl ht,λA δ μ O α σ H Q E k=>?_⟩
 walk_at "d"
 cases p1 with
 | h kk =>
  obtain⟨l,hl',rfl⟩:=r1.hinv
  obtain⟨ob,g1,g2⟩:=S1.at_ kk l hl'
  dsimp only at z
  rw[g1] at z
  cases ob with
  | ins c' fs =>
   obtain⟨_,_,C',dx,vfs,hN',g4,g5,g6⟩:=g2
   dsimp only at z
   by_cases hcc:c'=c/\fs.lookup m=none
   ·rw[if_pos hcc] at z
    have zz:=z
    obtain⟨rfl,hlk⟩:=hcc
    have hC:C'=C:=by
     simp_all
    subst hC
    refine⟨l,dx,vfs,rfl,g4,mt g5 hlk,?_⟩
    have E1:=E.go T1 S1
    have k1:=aq zz
    refine ha A δ p2 O1 α1 σ H1 _ E1 ?_
    cases e1:fa δ p2 with
    | none=>rw[e1] at k1;assumption
    | some r =>
     rw[e1] at k1
     cases r with
     | error x=>exact Er.go T1 k1
     | ok r =>
      refine λvs O2 α2 H2 T2 S2 rs=>?_
      refine⟨A.R0,O2,α2,r.2,.h kk::r.1,?_,S2,?_,au (nE k1) λq y v O3 α3 H3 T3 S3 rv=>y v O3 α3 H3 (T1.trans (T2.trans T3)) S3 rv⟩
      ·rw[Z3,Φ,rs.length,hl δ p2 r e1];exact hn
      ·rw[Z3];exact .cons (.h (T2.ex _ _ hl')) rs
   ·rw[if_neg hcc] at z;exact z.elim
  | _=>exact z.elim
 | _=>exact z.elim
theorem Br(h:DefSM X.prog X.w X.K X.mg X.base k c m 1 F)(hr:Room k X.A)(ho:SX X G o fo)
  (ht:eval (.Call (.Attribute o m apos) [] [] pos) X.env=(do
   let ov <- eval o X.env
   standAt apos.atName
   let (f,first) <- holding [ov] (getMethod ov m pl)
   callWith pos f first (backTo pos (starEach [] X.env)) (backToKw pos (keywordEach [] X.env))):=by rfl) :
  SX X G (.Call (.Attribute o m apos) [] [] pos) (lf c m F fo iP):=by
 obtain⟨C,f0,fd,ps,hN,hc,hm,F1,hb⟩:=h.ex
 obtain⟨t,p,ho⟩:=ho
 refine⟨_,sN p hc hm F1 hr hb .nil kr ht,λA δ μ O α σ H Q E k=>?_⟩
 walk_at "d"
 cases p1 with
 | h kk =>
  obtain⟨l,hl',rfl⟩:=r1.hinv
  obtain⟨ob,g1,g2⟩:=S1.at_ kk l hl'
  dsimp only at z
  rw[g1] at z
  cases ob with
  | ins c' fs =>
   obtain⟨_,_,C',dx,vfs,hN',g4,g5,g6⟩:=g2
   dsimp only at z
   by_cases hcc:c'=c/\fs.lookup m=none
   ·rw[if_pos hcc] at z
    have zz:=z
    obtain⟨rfl,hlk⟩:=hcc
    have hC:C'=C:=by
     simp_all
    subst hC
    refine⟨l,dx,vfs,rfl,g4,mt g5 hlk,?_⟩
    have z2:= zz
    exact⟨A.R0,O1,α1,p2,[.h kk],rfl,S1,.cons (.h hl') .nil,au (nE z2) λq y v O3 α3 H3 T3 S3 rv=>y v O3 α3 H3 (T1.trans T3) S3 rv⟩
   ·rw[if_neg hcc] at z;exact z.elim
  | _=>exact z.elim
 | _=>exact z.elim
structure MkS(P:Program)(w:World)(K:ε)(mg:Str->Option Value)(base:Heap)(k:Nat)(c:Str)(n:Nat)(F:List Val->Sto->R (Val×Sto)):Prop where
 ex:∃(C f:Addr) (fd:FuncData) (ps:List Str),Ξ K mainGlobals c=some (some (.ref C))/\mg c=some (.ref C)/\Mk K C f/\FnOk P w K mg base CX0 k f fd ps (spS K mg n F)/\cM K fd ps []
noncomputable def sMk(c:Str)(F:List Val->Sto->R (Val×Sto))(fa:av->Sto->R (List Val×Sto)):av->Sto->R (Val×Sto):=λδ μ=>(fa δ μ).thn λr=>(zO (F (.h r.2.length::r.1) (r.2++[.ins c []]))).thn λq=>match q.1 with
 | .d .none=>R.ret (.h r.2.length,q.2)
 | _=>none
theorem sx_mk{k n:Nat}{F:List Val->Sto->R (Val×Sto)}(h:MkS X.prog X.w X.K X.mg X.base k c n F)(hr:Room (k+1) X.A)(hg:Gl X c)(hn:(e::es).length+1=n)(ha:SA X G (e::es) fa)
  (hdb:(c==("__debug__" : Str))=false:=by decide) (he:`we:=by rfl) (hpl:(backTo pos (starEach es X.env)).any (·.1)=false:=by rfl) :
  SX X G (.Call (.Name c p) (e::es) [] pos) (sMk c F fa):=by
 obtain⟨C,f0,fd,ps,hN,hm,M,F1,hb⟩:=h.ex
 obtain⟨hl,t,pa,ha⟩:=ha
 refine⟨_,Ca M F1 hr hg hm hb .nil kr pa hdb he hpl,λA δ μ O α σ H Q E k=>?_⟩
 have k1:=aq k
 refine ha A δ μ O α σ H _ E ?_
 cases e1:fa δ μ with
 | none=>rw[e1] at k1;assumption
 | some r =>
  rw[e1] at k1
  cases r with
  | error x=>exact k1
  | ok r =>
   refine λvs O1 α1 H1 T1 S1 rs x dx hx hd hne=>?_
   have s1:aE H1 (upd H1 dx (.own x)):=aK hd
   have hx2:upd H1 dx (.own x) x=none:=by rw[upd_ne (Ne.symm hne)];exact hx
   have S2:=(S1.same s1).newI (dx:=dx) hN hx2
   have T2:Go O1 α1 H1 (x::O1) (α1++[some x]) (upd (upd H1 dx (.own x)) x (.ins C dx [])):=(Go.same s1).trans (Go.newL hx2)
   have k2:=nE (aq k1)
   refine⟨A.R0,x::O1,α1++[some x],r.2++[.ins c []],.h r.2.length::r.1,?_,S2,?_,au k2 λq y v O3 α3 H3 T3 S3 rv=>?_⟩
   ·rw[Z3,Φ,rs.length,hl δ μ r e1];exact hn
   ·rw[Z3];exact .cons (.h (by rw[<-S1.len,ο (ξ _),Y4];rfl)) (rs.to (Go.to S1 T2) T2.ex)
   ·obtain⟨q1,q2⟩:=q
    match q1,y,rv with
    | .d .none,y,rv =>
     have hv:v=.non:=by
      have:=rv.dinv
      cases this
      rfl
     refine⟨hv,y (.ref x) O3 α3 H3 (T1.trans (T2.trans T3)) S3 (.h (T3.ex _ _ ?_))⟩
     rw[<-S1.len,ο (ξ _),Y4]
     rfl
end
end SL
namespace L2
open PyProof.Rows PySem.W
theorem aM.erase:∀{xs:List V} {its:List Value} (j:Nat),aM xs its->aM (xs.eraseIdx j) (its.eraseIdx j)
 | [],[],_,.nil=>.nil
 | _::_,_::_,0,.cons _ r=>r
 | _::_,_::_,j+1,.cons h r=>.cons h (aM.erase j r)
theorem qf(f:α->β):∀(l:List α) (j:Nat),(l.eraseIdx j).map f=(l.map f).eraseIdx j
 | [],_=>rfl
 | _::_,0=>rfl
 | a::l,j+1=>by
  show f a::(l.eraseIdx j).map f=f a::(l.map f).eraseIdx j
  rw[qf f l j]
theorem qm(k:Int):∀(is:List Int) (i:Nat),i<is.idxOf k->is[i]? ≠ some k
 | [],i,h,z=>by cases z
 | a::is,i,h,z=>by
  rw[List.idxOf_cons] at h
  by_cases e:a=k
  ·simp_all
  ·rw[show(a==k)=false from beq_eq_false_iff_ne.mpr e] at h
   have h:i<is.idxOf k+1:=h
   cases i with
   | zero=>simp_all
   | succ i=>exact qm k is i `am z
def BT:V->List V->Hp->VK->Prop:=λx vs H Q=>∃(l:Addr) (is:List Int) (k:Int),x=.ref l/\vs=[.int k]/\H l=some (.lst (is.map V.int))/\k∈is/\Q .non (upd H l (.lst ((is.eraseIdx (is.idxOf k)).map V.int)))
section
theorem lz:∀{is:List Int} {its:List Value},aM (is.map V.int) its->kf_ints its=true/\its.length=is.length/\∀(i:Nat) (k:Int),is[i]?=some k->∃t,its[i]?=some (.int k t)
 | [],_,.nil=>⟨rfl,rfl,λi k h=>by cases h⟩
 | i::is,_,.cons h r=>by
  obtain⟨t,rfl⟩:=h
  obtain⟨h1,h2,h3⟩:=lz r
  refine⟨h1,by simp_all,λj k h=>?_⟩
  cases j with
  | zero=>simp_all
  | succ j=>simp_all
theorem xr:MtM X "list.remove" BT:=by
 intro pins s σ H x vs v us Q I rx rv h
 obtain⟨l,is,k,rfl,rfl,hH,hm,q⟩:=h
 cases rx
 obtain⟨u,rfl,ru⟩:=rv.one
 obtain⟨t,rfl⟩:=ru
 obtain⟨z,its,n,r,hl,e⟩:=I.lstM hH
 obtain⟨h1,h2,h3⟩:=lz r
 have hj:= List.idxOf_lt_length_of_mem hm
 have hji:is.idxOf k<its.length:=by omega
 have at_:∀(i:Nat) (hi:i<its.length),∃t,its[i]=.int (is[i]'(by omega)) t:=λi hi=>by
  obtain⟨t,ht⟩:=h3 i _ (Δ `am)
  grind
 refine call_meets F.slot_list_remove ⟨_,e,rfl⟩ F.entry_list_remove (F.args_list_remove_2 _ _)
  (MeetsSeq.list_remove l its.toArray n (.int k t) (isInt k) (λy hy=>kf_eq h1 y (by simp_all)) (is.idxOf k) (by exact hji) ?_ ?_ (by simp_all)) ⟨e,?_⟩
 ·obtain⟨t',ht⟩:=at_ (is.idxOf k) hji
  show isInt k its[is.idxOf k]=true
  rw[ht,List.getElem_idxOf hj]
  simp [isInt]
 ·intro i hi hlt
  have hi2:i<its.length:=by exact hi
  obtain⟨t',ht⟩:=at_ i hi2
  show isInt k its[i]=false
  rw[ht]
  have:is[i]'(by omega)≠k:=λz=>qm k is i hlt (by simp_all)
  simp [isInt,this]
 ·refine⟨.non,_,I.lset hH e ?_ (by rw[qf];exact r.erase _) ?_,rfl,q⟩
  all_goals grind
end
end L2
namespace SL
open PyProof.Rows L2 DL
noncomputable def mN:List Val->Option (List Int)
 | []=>some []
 | .d (.int i)::r=>(mN r).map (i :: ·)
 | _=>none
section
variable{K:ε}{O:List Addr}{α:List (Option Addr)}{H:Hp}
theorem oS:∀{xs:List Val} {is:List Int} {vs:List V},mN xs=some is->VRs K O α H vs xs->vs=is.map V.int
 | [],is,_,h,.nil=>by cases h;rfl
 | x::xs,is,_,h,.cons r rs=>by
  match x,h,r with
  | .d (.int i),h,r =>
   have h:(mN xs).map (i :: ·)=some is:=h
   cases e:mN xs with
   | none=>simp_all
   | some q =>
    rw[e] at h
    cases h
    rw[oS e rs,r.dinv.int_inv]
    rfl
theorem ql:∀(is:List Int),mN (is.map λi=>Val.d (.int i))=some is
 | []=>rfl
 | i::is=>by
  show(mN (is.map λi=>Val.d (.int i))).map (i :: ·)=_
  rw[ql is]
  rfl
theorem si:∀(is:List Int),VRs K O α H (is.map V.int) (is.map λi=>Val.d (.int i))
 | []=>.nil
 | i::is=>.cons (.d (.int i)) (si is)
theorem VRs.dropLast:∀{vs:List V} {xs:List Val},VRs K O α H vs xs->VRs K O α H vs.dropLast xs.dropLast
 | _,_,.nil=>.nil
 | _,_,.cons r .nil=>.nil
 | _,_,.cons r (.cons r2 rs)=>.cons r (VRs.dropLast (.cons r2 rs))
end
section
variable{X:Cx}{G:XD->Hp->Prop}{a b o e ix tg:Expr}{es:List Expr}{pos pos' apos cpos p tpos:Pos}{fo fi f fe:av->Sto->R (Val×Sto)}{fa:av->Sto->R (List Val×Sto)}
noncomputable def wU(fo f:av->Sto->R (Val×Sto)):av->Sto->R (Val×Sto):=λδ μ=>(fo δ μ).thn λr=>match r.1 with
 | .h k=>match r.2[k]? with
  | some (.lst _)=>(f δ r.2).thn λq=>match q.1,q.2[k]? with
   | .d (.int n),some (.lst xs)=>match mN xs with
    | some is=>if n∈is then R.ret (.d .none,q.2.set k (.lst ((is.eraseIdx (is.idxOf n)).map λi=>Val.d (.int i)))) else none
    | none=>none
   | _,_=>none
  | _=>none
 | _=>none
theorem sx_rem(ho:SX X G o fo)(he:SX X G e f)
  (hst:starEach [e] X.env=(false,eval e X.env)::starEach [] X.env:=by rfl)
  (hbase:attributeBase o "remove" X.env (eval o X.env)=eval o X.env:=by rfl)
  (hfew:((backTo cpos (starEach [e] X.env)).all (λx=>!x.1)&&(backToKw cpos (keywordEach [] X.env)).all (λx=>x.1.isSome)
   && decide ([e].length+([]:List Keyword).length+(if ([]:List Keyword).isEmpty then 0 else 1)<30))=true:=by rfl)
  (hline:(apos.endLine==cpos.line)=true:=by rfl) (hplain:(backTo cpos (starEach [] X.env)).any (·.1)=false:=by rfl) :
  SX X G (.Call (.Attribute o "remove" apos) [e] [] cpos) (wU fo f):=by
 obtain⟨t,p,ho⟩:=ho
 obtain⟨u,q,he⟩:=he
 refine⟨_,sP PySem.F.plainAttrs_list PySem.F.slot_list_remove PySem.F.type_list_remove xr p (e8 q iS hst) hbase hfew hline hst hplain,λA δ μ O α σ H Q E k=>?_⟩
 walk_at "d"
 match p1,z,r1 with
 | .h k,z,r1 =>
  obtain⟨l,hl,rfl⟩:=r1.hinv
  obtain⟨ob,g1,g2⟩:=S1.at_ k l hl
  dsimp only at z
  rw[g1] at z
  match ob,z,g2 with
  | .lst xs0,z,g2 =>
  refine⟨.inl ⟨rfl,_,.inl (.inl g2.2.2.choose_spec.1)⟩,?_⟩
  have z:okR _ ((f δ p2).thn _) _:=z
  refine he A δ p2 O1 α1 σ H1 _ (E.go T1 S1) (au (aY (aq z) λx μ h=>Er.go T1 h) λq y w O2 α2 H2 T2 S2 r2=>?_)
  obtain⟨q1,q2⟩:=q
  have hl2:=T2.ex _ _ hl
  obtain⟨ob,g1,g2⟩:=S2.at_ k l hl2
  dsimp only at y
  rw[g1] at y
  match q1,ob,y,g2,g1,r2 with
  | .d (.int n),.lst xs,y,g2,g1,r2 =>
   obtain⟨_,_,vs,g3,g4⟩:=g2
   dsimp only at y
   cases hi:mN xs with
   | none=>rw[hi] at y;exact y.elim
   | some is =>
    rw[hi] at y
    dsimp only at y
    by_cases hm:n∈is
    ·rw[if_pos hm] at y
     have hvs:=oS hi g4
     subst hvs
     have hw:=r2.dinv.int_inv
     subst hw
     exact⟨l,is,n,rfl,rfl,g3,hm,y .non O2 α2 _ (T1.trans (T2.trans (Go.setL hl2))) (S2.setL hl2 g1 (si _)) (.d .non)⟩
    ·rw[if_neg hm] at y;exact y.elim
noncomputable def wV(fo:av->Sto->R (Val×Sto)):av->Sto->R (Val×Sto):=λδ μ=>(fo δ μ).thn λr=>match r.1 with
 | .h k=>match r.2[k]? with
  | some (.lst xs)=>match xs[xs.length-1]? with
   | some x=>R.ret (x,r.2.set k (.lst xs.dropLast))
   | none=>none
  | _=>none
 | _=>none
theorem sx_pop(ho:SX X G o fo)(hbase:attributeBase o "pop" X.env (eval o X.env)=eval o X.env:=by rfl)(hline:(apos.endLine==cpos.line)=true:=by rfl):SX X G (.Call (.Attribute o "pop" apos) [] [] cpos) (wV fo):=by
 obtain⟨t,p,ho⟩:=ho
 refine⟨_,pe_bm0 PySem.F.plainAttrs_list PySem.F.slot_list_pop PySem.F.type_list_pop mt_pop p hbase hline,λA δ μ O α σ H Q E k=>?_⟩
 walk_at "d"
 cases p1 with
 | h k =>
  obtain⟨l,hl,rfl⟩:=r1.hinv
  obtain⟨ob,g1,g2⟩:=S1.at_ k l hl
  dsimp only at z
  rw[g1] at z
  cases ob with
  | lst xs =>
   obtain⟨_,_,vs,g3,g4⟩:=g2
   dsimp only at z
   cases hx:xs[xs.length-1]? with
   | none=>rw[hx] at z;exact z.elim
   | some x =>
    rw[hx] at z
    obtain⟨w,w1,w2⟩:=g4.get hx
    have S2:=S1.setL hl g1 g4.dropLast
    have T2:Go O1 α1 H1 O1 α1 (upd H1 l (.lst vs.dropLast)):=Go.setL hl
    exact⟨.inl ⟨rfl,vs,.inl (.inl g3)⟩,l,vs,w,rfl,rfl,g3,by rw[g4.length];exact w1,z w O1 α1 _ (T1.trans T2) S2 (w2.to (T2.to S1) T2.ex)⟩
  | _=>exact z.elim
 | _=>exact z.elim
noncomputable def yG(fo f:av->Sto->R (Val×Sto)):av->Sto->R (Val×Sto):=λδ μ=>(fo δ μ).thn λr=>match r.1 with
 | .h k=>match r.2[k]? with
  | some (.lst _)=>(f δ r.2).thn λq=>match q.1 with
   | .h j=>match q.2[k]?,q.2[j]? with
    | some (.lst xs),some (.lst zs)=>if aJ (xs.length+zs.length)=true then R.ret (.d .none,q.2.set k (.lst (xs++zs))) else none
    | _,_=>none
   | _=>none
  | _=>none
 | _=>none
theorem sx_ext(ho:SX X G o fo)(he:SX X G e f)
  (hst:starEach [e] X.env=(false,eval e X.env)::starEach [] X.env:=by rfl)
  (hbase:attributeBase o "extend" X.env (eval o X.env)=eval o X.env:=by rfl)
  (hfew:((backTo cpos (starEach [e] X.env)).all (λx=>!x.1)&&(backToKw cpos (keywordEach [] X.env)).all (λx=>x.1.isSome)
   && decide ([e].length+([]:List Keyword).length+(if ([]:List Keyword).isEmpty then 0 else 1)<30))=true:=by rfl)
  (hline:(apos.endLine==cpos.line)=true:=by rfl) (hplain:(backTo cpos (starEach [] X.env)).any (·.1)=false:=by rfl) :
  SX X G (.Call (.Attribute o "extend" apos) [e] [] cpos) (yG fo f):=by
 obtain⟨t,p,ho⟩:=ho
 obtain⟨u,q,he⟩:=he
 refine⟨_,sP PySem.F.plainAttrs_list PySem.F.slot_list_extend PySem.F.type_list_extend qd p (e8 q iS hst) hbase hfew hline hst hplain,λA δ μ O α σ H Q E k=>?_⟩
 walk_at "d"
 match p1,z,r1 with
 | .h k,z,r1 =>
  obtain⟨l,hl,rfl⟩:=r1.hinv
  obtain⟨ob,g1,g2⟩:=S1.at_ k l hl
  dsimp only at z
  rw[g1] at z
  match ob,z,g2 with
  | .lst xs0,z,g2 =>
  refine⟨.inl ⟨rfl,_,.inl (.inl g2.2.2.choose_spec.1)⟩,?_⟩
  refine he A δ p2 O1 α1 σ H1 _ (E.go T1 S1) (au (aY (aq z) λx μ h=>Er.go T1 h) λq y w O2 α2 H2 T2 S2 r2=>?_)
  obtain⟨q1,q2⟩:=q
  have hl2:=T2.ex _ _ hl
  match q1,y,r2 with
  | .h j,y,r2 =>
   obtain⟨l2,hj,rfl⟩:=r2.hinv
   obtain⟨ob1,g1,g2⟩:=S2.at_ k l hl2
   obtain⟨ob2,g3,g4⟩:=S2.at_ j l2 hj
   dsimp only at y
   rw[g1,g3] at y
   match ob1,ob2,y,g2,g4,g1 with
   | .lst xs,.lst zs,y,g2,g4,g1 =>
    obtain⟨_,_,vs,g5,g6⟩:=g2
    obtain⟨_,_,us,g7,g8⟩:=g4
    dsimp only at y
    by_cases hz:aJ (xs.length+zs.length)=true
    ·rw[if_pos hz] at y
     exact⟨l,l2,vs,us,rfl,rfl,g5,g7,by rw[g6.length,g8.length];exact bt hz,y .non O2 α2 _ (T1.trans (T2.trans (Go.setL hl2))) (S2.setL hl2 g1 (g6.append g8)) (.d .non)⟩
    ·rw[if_neg hz] at y;exact y.elim
noncomputable def BO(fo f:av->Sto->R (Val×Sto)):av->Sto->R (Val×Sto):=λδ μ=>(fo δ μ).thn λr=>(f δ r.2).thn λq=>match r.1,q.1 with
 | .h k,.h j=>match q.2[k]?,q.2[j]? with
  | some (.lst xs),some (.lst zs)=>if aJ (xs.length+zs.length)=true then R.ret (.h q.2.length,q.2++[.lst (xs++zs)]) else none
  | _,_=>none
 | _,_=>none
theorem sx_cat(ho:SX X G a fo)(he:SX X G b f):SX X G (.BinOp a .Add b pos) (BO fo f):=by
 obtain⟨t,p,ho⟩:=ho
 obtain⟨u,q,he⟩:=he
 refine⟨_,vM qZ p q,λA δ μ O α σ H Q E k=>?_⟩
 refine ho A δ μ O α σ H _ E (au (aq k) λr z v O1 α1 H1 T1 S1 r1=>?_)
 refine he A δ r.2 O1 α1 σ H1 _ (E.go T1 S1) (au (aY (aq z) λx μ h=>Er.go T1 h) λq y w O2 α2 H2 T2 S2 r2=>?_)
 obtain⟨p1,p2⟩:=r
 obtain⟨q1,q2⟩:=q
 match p1,q1,y,r1,r2 with
 | .h k,.h j,y,r1,r2 =>
  obtain⟨l,hl,rfl⟩:=r1.hinv
  obtain⟨l2,hj,rfl⟩:=r2.hinv
  have hl2:=T2.ex _ _ hl
  obtain⟨ob1,g1,g2⟩:=S2.at_ k l hl2
  obtain⟨ob2,g3,g4⟩:=S2.at_ j l2 hj
  dsimp only at y
  rw[g1,g3] at y
  match ob1,ob2,y,g2,g4 with
  | .lst xs,.lst zs,y,g2,g4 =>
   obtain⟨_,_,vs,g5,g6⟩:=g2
   obtain⟨_,_,us,g7,g8⟩:=g4
   dsimp only at y
   by_cases hz:aJ (xs.length+zs.length)=true
   ·rw[if_pos hz] at y
    exact⟨l,l2,vs,us,rfl,rfl,.inl (.inl g5),.inl (.inl g7),by rw[g6.length,g8.length];exact bt hz,λn hn=>y _ (n::O2) (α2++[some n]) _ (T1.trans (T2.trans (Go.newL hn))) (S2.newL hn (g6.append g8)) (.h S2.at_new)⟩
   ·rw[if_neg hz] at y;exact y.elim
noncomputable def oi(h:Int->Int->Int)(fo fi f:av->Sto->R (Val×Sto)):SG:=λ_ δ μ=>(fo δ μ).thn λr=>match r.1 with
 | .h k=>(fi δ r.2).thn λq=>match q.1,q.2[k]? with
  | .d (.int n),some (.lst xs)=>match L2.atI xs n with
   | some (.d (.int x))=>(f δ q.2).thn λy=>match y.1,y.2[k]? with
    | .d (.int m),some (.lst ys)=>match ixN ys.length n with
     | some j=>R.ret (.nx δ (y.2.set k (.lst (ys.set j (.d (.int (h x m)))))))
     | none=>none
    | _,_=>none
   | _=>none
  | _,_=>none
 | _=>none
theorem BF(hop:PIp X op (ipI h))(ho:SX X G a fo)(hi:SX X G ix fi)(he:SX X G e f)
  (ha:∀ov iv new,augStore ix ov iv new=(do holding [new,ov,iv] (setItem ov iv new);release [new,ov,iv] [];pure .next):=by intros;rfl):SS X G (.AugAssign (.Subscript a ix tpos) op e pos) (oi h fo fi f):=by
 obtain⟨t,p,he⟩:=he
 obtain⟨u,q,hi⟩:=hi
 obtain⟨w,pw,ho⟩:=ho
 refine⟨_,B5 pw q Au p hop n6 ha,λA δ μ O α σ H Dn E k=>?_⟩
 refine ho A δ μ O α σ H _ E (au (aY (aq k) λx μ h=>Er.go E.st h) λr z v O1 α1 H1 T1 S1 r1=>?_)
 obtain⟨p1,p2⟩:=r
 have E1:=E.go T1 S1
 match p1,z,r1 with
 | .h kk,z,r1 =>
  obtain⟨l,hl,rfl⟩:=r1.hinv
  have z:okR _ ((fi δ p2).thn _) _:=z
  refine hi A δ p2 O1 α1 σ H1 _ E1 (au (aY (aq z) λx μ h=>Er.go E1.st h) λqq y kv O2 α2 H2 T2 S2 r2=>?_)
  have E2:=E1.go T2 S2
  have hl2:=T2.ex _ _ hl
  obtain⟨q1,q2⟩:=qq
  obtain⟨ob,g1,g2⟩:=S2.at_ kk l hl2
  dsimp only at y
  rw[g1] at y
  match q1,ob,y,g2,r2 with
  | .d (.int n),.lst xs,y,g2,r2 =>
   obtain⟨_,_,vs,g3,g4⟩:=g2
   dsimp only at y
   have hkv:=r2.dinv.int_inv
   subst hkv
   cases hx:L2.atI xs n with
   | none=>rw[hx] at y;exact y.elim
   | some x =>
    rw[hx] at y
    match x,hx,y with
    | .d (.int x),hx,y =>
     obtain⟨xv,w1,w2⟩:=g4.atI hx
     refine⟨l,vs,n,xv,rfl,rfl,.inl (.inl g3),w1,?_⟩
     have y:okR _ ((f δ q2).thn _) _:=y
     refine he A δ q2 O2 α2 σ H2 _ E2 (au (aY (aq y) λx μ h=>Er.go E2.st h) λrr yy ev O3 α3 H3 T3 S3 r3=>?_)
     obtain⟨s1,s2⟩:=rr
     have hl3:=T3.ex _ _ hl2
     obtain⟨ob3,g5,g6⟩:=S3.at_ kk l hl3
     dsimp only at yy
     rw[g5] at yy
     match s1,ob3,yy,g6,r3,g5 with
     | .d (.int m),.lst ys,yy,g6,r3,g5 =>
      obtain⟨_,_,us,g7,g8⟩:=g6
      dsimp only at yy
      cases hj:ixN ys.length n with
      | none=>rw[hj] at yy;exact yy.elim
      | some j =>
       rw[hj] at yy
       have hev:=r3.dinv.int_inv
       subst hev
       have hxv:=w2.dinv.int_inv
       subst hxv
       refine⟨x,m,rfl,rfl,l,us,n,j,rfl,rfl,g7,by rw[g8.length];exact hj,?_⟩
       exact yy O3 α3 σ _ (((E2.go T3 S3)).go (Go.setL hl3) (S3.setL hl3 g5 (g8.set (.d (.int (h x m))) j))) (T1.trans (T2.trans (T3.trans (Go.setL hl3))))
end
end SL
namespace L2
open PyProof.Rows PySem.W
section
theorem vo:∀{vs:List V} {its:List Value},vs.length=its.length->(∀(i:Nat) (v:V) (u:Value),vs[i]?=some v->its[i]?=some u->bm v u)->aM vs its
 | [],[],_,_=>.nil
 | [],_::_,h,_=>by cases h
 | _::_,[],h,_=>by cases h
 | v::vs,u::its,h,k=>.cons (k 0 v u rfl rfl) (vo (by simp_all) λi=>k (i+1))
theorem pA(hc:X.calm=true):sh X (.type "list") (.type "range") (λxs H Q=>∃n:Nat,xs=[.int (n:Int)]/\n<=100000/\∀l,H l=none->Q (.ref l) (upd H l (.lst ((Ψ n).map λk:Nat=>V.int (k:Int))))):=by
 intro pins s σ H xs us Q I r h
 obtain⟨n,rfl,hn,q⟩:=h
 obtain⟨u,rfl,rx⟩:=k7 r
 obtain⟨t,rfl⟩:=rx
 have I1:Inv X pins σ H { s with heap:=s.heap.push { cls:=.type "range",data:=.fields #[.int 0 s.toks,.int (n:Int) t,.int 1 (s.toks+1)] },toks:=s.toks+1+1 }:=I.kept λb o e=>Heap.get?_push_of_some _ e
 refine call_range_1 ?_
 refine call_list_range (n:=n) (I.ok.hd hc) (IsRange.new ..) (small_one (by decide) (by decide) `am `am) (by rw[rangeSize_one];split<;>omega) `am λh' tk acc c kp e hy=>?_
 refine⟨.ref _,_,I1.laid (t':=tk) kp (ξ _) (show cK X.prog X.w _ h' _ (.lst ((Ψ n).map λk:Nat=>V.int (k:Int))) from⟨by rw[ς,W0,sizeLine_eq];omega,acc.toList,c,vo (by rw[ς,W0,Array.length_toList,hy.1]) (λi v u h1 h2=>?_),by simpa using e⟩),rfl,q _ (I1.hok.fresh (ξ _))⟩
 rw[Γ] at h1
 have hi:i<n:=by
  rcases Z6 i n with z | z
  ·exact z
  ·rw[S4 (by rw[W0];exact z)] at h1;cases h1
 rw[T4 hi] at h1
 cases h1
 obtain⟨t',rfl⟩:=hy.2 i u (by simpa using h2)
 exact⟨t',by simp⟩
end
end L2
namespace DL
open PyProof.Rows L2
section
noncomputable def kO(fa:DS->M (List D)):DS->M (List D):=λδ=>(fa δ).thn λds=>match ds with
 | [.int n]=>if 0<=n/\n<=100000 then M.ret ((Ψ n.toNat).map λk:Nat=>ζ (k:Int)) else none
 | _=>none
theorem xf(hx:x = "list")(hy:y = "range")(hcalm:X.calm=true)(hg:Gl X x)(hm:X.mg x=none)(hg2:Gl X y)(hm2:X.mg y=none)(ha:PDA X G [e] fa)(he:starEach [e] X.env=(false,eval e X.env)::starEach [] X.env:=by rfl) :
  PDN X G (.Call (.Name x p) [.Call (.Name y p') [e] [] pos'] [] pos) (kO fa):=by
 subst hx hy
 obtain⟨_,t,pa,ha⟩:=ha
 refine⟨_,sM (pA hcalm) hg hm PyProof.Rows.boot_list hg2 hm2 boot_range pa (by decide) (by decide) (by decide) (by decide) he,λδ O σ H Q E k=>?_⟩
 refine ha δ O σ H _ E (ah (ao k) λds z vs H1 s1 rs=>?_)
 match ds,z with
 | [.int n],z =>
  obtain⟨v,rfl,r⟩:=fE rs
  have z:ok _ (if 0<=n/\n<=100000 then M.ret ((Ψ n.toNat).map λk:Nat=>ζ (k:Int)) else none) _:=z
  by_cases hn:0<=n/\n<=100000
  ·rw[if_pos hn] at z
   refine⟨n.toNat,by rw[r.int_inv,Int.toNat_of_nonneg hn.1],by omega,λl hl=>z l _ H1 s1 hl ?_⟩
   have:∀(ks:List Nat),Reps X.K O H1 (ks.map λk:Nat=>V.int (k:Int)) (ks.map λk:Nat=>ζ (k:Int)):=by
    intro ks
    induction ks with
    | nil=>exact .nil
    | cons a ks ih=>exact .cons (.int _) ih
   simp_all
  ·rw[if_neg hn] at z;exact z.elim
structure DefFM(P:Program)(w:World)(K:ε)(mg:Str->Option Value)(base:Heap)(k:Nat)(nm m:Str)(n:Nat)(F:List D->M D):Prop where
 ex:∃(C f:Addr) (fd:FuncData) (ps:List Str),Ξ K mainGlobals nm=some (some (.ref C))/\Cls K C/\Meth K C m f/\FnOk P w K mg base CX0 k f fd ps (spDF K n F)/\cM K fd ps []
theorem xh(h:DefFM X.prog X.w X.K X.mg X.base k nm m n F)(hr:Room k X.A)(hn:(e::es).length+1=n)(ho:PD X G o f)(ha:PDA X G (e::es) fa)
  (hst:`we:=by rfl) (hpl:(backTo pos (starEach es X.env)).any (·.1)=false:=by rfl)
  (ht:eval (.Call (.Attribute o m apos) (e::es) [] pos) X.env=(do
   let ov <- eval o X.env
   standAt apos.atName
   let (f,first) <- holding [ov] (getMethod ov m pl)
   callWith pos f first (backTo pos (starEach (e::es) X.env)) (backToKw pos (keywordEach [] X.env))):=by rfl) :
  PDF X G (.Call (.Attribute o m apos) (e::es) [] pos) (dMe nm m (λds=>noX (F ds)) f fa):=by
 obtain⟨C,f0,fd,ps,hN,c,hm,F1,hb⟩:=h.ex
 obtain⟨t,p,ho⟩:=ho
 obtain⟨hl,ta,pa,ha⟩:=ha
 refine⟨_,qU p c hm F1 hr hb .nil kr pa hst hpl ht,λδ O σ H Q E k=>?_⟩
 refine ho δ O σ H _ E (ah (ao k) λx z v H1 s1 rx=>?_)
 cases hat:kH nm x with
 | none=>rw[hat] at z;exact z.elim
 | some r =>
  rw[hat] at z
  have z1:ok _ (if iz m r=true then (fa δ).thn λds=>noX (F (x::ds)) else none) _:=z
  by_cases hf:iz m r=true
  ·rw[if_pos hf] at z1
   obtain⟨a,C',dx,fs,es',rfl,rfl,hN',h1,hn1,hk,rr⟩:=kf rx hat
   have hC:C'=C:=by
    simp_all
   subst hC
   refine⟨a,dx,fs,rfl,h1,iT hk hf,?_⟩
   have k1:=ao z1
   refine ha δ O σ H1 _ (E.same s1) ?_
   cases e1:fa δ with
   | none=>rw[e1] at k1;assumption
   | some q =>
    rw[e1] at k1
    cases q with
    | error y=>exact k1
    | ok ds =>
     refine λvs H2 s2 rs=>?_
     refine⟨O,x::ds,?_,((E.same s1).same s2).oo,?_,ah (kM k1) λd z=>?_⟩
     ·show(vs++[]).length+1=n
      rw[Z3,rs.length,hl δ ds e1]
      exact hn
     ·rw[Z3]
      exact .cons (rx.same s2) rs
     ·obtain⟨ds',rfl,hfl,z⟩:=z
      refine⟨ds',rfl,hfl,λl xs H' s hl hx rx=>z l xs H' (s1.trans (s2.trans s)) ?_ hx rx⟩
      cases q:H l with
      | none=>rfl
      | some o=>rw[(s1.trans s2) l o q] at hl;cases hl
  ·rw[if_neg hf] at z1;exact z1.elim
end
end DL
namespace SL
open PyProof.Rows L2 DL
section
noncomputable def sE(fa:DS->M (List D))(t:D->av->Option av)(g:SG):SG:=λn δ μ=>(ofM (fa (viewN 4 μ δ)) μ).thn λxs=>match fJ xs with
 | some ds=>hJ t (g n) ds δ μ
 | none=>none
theorem BC(hp:PassesOwn `DW X.A X.env X.xe)(hc:X.calm=true)(hgl:Gl X "range")(hm:X.mg "range" = none)(ha:PDA X G [a] fa)(hg:SGT X tg t)(hb:SSs X G body g)
  (hs1:starEach [a] X.env=[(false,eval a X.env)]:=by rfl) (hs:∀x,foldedSetIterable (.Call (.Name "range" p) [a] [] ipos) X.env x=pure x:=by intro _;rfl):SS X G (.For tg (.Call (.Name "range" p) [a] [] ipos) body [] pos) (sE fa t g):=by
 obtain⟨_,ta,pa,ha⟩:=ha
 obtain⟨tgt,pt,hg⟩:=hg
 obtain⟨tb,pb,hb⟩:=hb
 refine⟨_,oy hp hc (pZ hgl hm pa hs1) pt pb hs,λA δ μ O α σ H Dn E k=>?_⟩
 refine ha (viewN 4 μ δ) A.R0 σ H _ E.viewN (ah (dQ E.sr (aY (aq k) λx μ h=>Er.go E.st h)) λxs zz vs H1 s1 rs=>?_)
 cases hd:fJ xs with
 | none=>rw[hd] at zz;exact zz.elim
 | some ds =>
  rw[hd] at zz
  have z:= zz
  have E1:=E.same s1
  unfold fJ at hd
  split at hd
  ·rename_i j
   by_cases hz:b62 j=true
   ·rw[if_pos hz] at hd
    cases hd
    obtain⟨v,rfl,r⟩:=fE rs
    obtain⟨z1,z2⟩:=r9 hz
    refine⟨j,by rw[r.int_inv],z1,z2,?_⟩
    have Y:Yl X.K (Itr 0 j.toNat) O H1 (bF 0 j.toNat):=nM
    generalize bF 0 j.toNat=ds at z Y
    refine⟨λi m σ2 H2=>m=ds.length-i/\i<=ds.length/\∃δ2 μ2 O2 α2,SEv X.K X.mg A O2 α2 H2 σ2 δ2 μ2/\Go O α H1 O2 α2 H2/\okR (Er X.K X.mg G A.R0 A.O A.α A.H) (hJ t (g A.α.length) (ds.drop i) δ2 μ2) (kn X.K X.mg A O α H Dn),⟨_,rfl,Y5 _,δ,μ,O,α,E1,Go.refl,z⟩,?_⟩
    rintro i m σ2 H2 ⟨rfl,hi,δ2,μ2,O2,α2,E2,T,k2⟩
    have TT:=T.to E1.sr
    by_cases hlt:i<ds.length
    ·right
     have hd:= Δ hlt
     obtain⟨go,yl⟩:=Y.step O2 H2 TT i _ hd
     refine⟨go,λσ' H'=>∃δ2 μ2 O2 α2,SEv X.K X.mg A O2 α2 H' σ' δ2 μ2/\Go O α H1 O2 α2 H'/\okR (Er X.K X.mg G A.R0 A.O A.α A.H) (hJ t (g A.α.length) (ds.drop (i+1)) δ2 μ2) (kn X.K X.mg A O α H Dn),λσ' H' h=>⟨_,by omega,rfl,hlt,h⟩,λx H3 y=>?_⟩
     obtain⟨s3,rx⟩:=yl x H3 y
     rw[jS hd] at k2
     have E3:=E2.same s3
     have T3:=T.trans (Go.same s3)
     unfold hJ at k2
     cases h3:t ds[i] δ2 with
     | none=>rw[h3] at k2;exact k2.elim
     | some δ3 =>
      rw[h3] at k2
      refine hg A δ2 δ3 ds[i] x O2 α2 σ2 μ2 H3 _ E3 rx h3 λσ4 E4=>?_
      refine hb A δ3 μ2 O2 α2 σ4 H3 _ E4 (au (aq k2) λo z=>?_)
      cases o with
      | nx δ5 μ5=>exact λO5 α5 σ5 H5 E5 T5=>⟨δ5,μ5,O5,α5,E5,T3.trans T5,z⟩
      | ct δ5 μ5=>exact λO5 α5 σ5 H5 E5 T5=>⟨δ5,μ5,O5,α5,E5,T3.trans T5,z⟩
      | bk δ5 μ5=>exact λO5 α5 σ5 H5 E5 T5=>z O5 α5 σ5 H5 E5 ((Go.same s1).trans (T3.trans T5))
      | rt v μ5=>exact z
    ·left
     have e:i=ds.length:=by omega
     subst e
     rw[V2] at k2
     exact⟨Y.stop O2 H2 TT,k2 O2 α2 σ2 H2 E2 ((Go.same s1).trans T)⟩
   simp_all
  simp_all
noncomputable def pT(f:DS->M D):SG:=λn δ μ=>if n=0 then (ofM (f (viewN 4 μ δ)) μ).thn λd=>R.ret (.rt (.d d) []) else none
theorem BA(h:PD X G e f):SS X G (.Return (some e) pos) (pT f):=by
 obtain⟨t,p,h⟩:=h
 refine⟨_,jx p,λA δ μ O α σ H Dn E k=>?_⟩
 unfold pT at k
 by_cases hn:A.α.length=0
 ·rw[if_pos hn] at k
  refine h (viewN 4 μ δ) A.R0 σ H _ E.viewN (ah (dQ E.sr (aY (aq k) λx μ h=>Er.go E.st h)) λd z v H' s r=>?_)
  have E':=E.same s
  have hα:= List.length_eq_zero_iff.mp hn
  refine z v A.R0 [] H' ⟨rfl,λi j a h=>by simp at h,λl hl=>E'.sr.oo l (E'.sr.sub l hl),λ_ h=>h,λk a h=>by simp at h⟩ ?_ (.d r)
  have g:=E'.st
  rw[hα] at g
  exact⟨by rw[hα];exact g.keep,λk a hk=>by simp_all,by omega,λk b hk=>by simp_all,λl hl=>g.ol l (E'.sr.sub l hl),g.live⟩
 ·rw[if_neg hn] at k;exact k.elim
end
end SL
namespace DL
open PyProof.Rows L2
section
theorem xi(h:DefM X.prog X.w X.K X.mg X.base k nm m 1 F)(hr:Room k X.A)(ho:PD X G o f)
  (ht:eval (.Call (.Attribute o m apos) [] [] pos) X.env=(do
   let ov <- eval o X.env
   standAt apos.atName
   let (f,first) <- holding [ov] (getMethod ov m pl)
   callWith pos f first (backTo pos (starEach [] X.env)) (backToKw pos (keywordEach [] X.env))):=by rfl) :
  PD X G (.Call (.Attribute o m apos) [] [] pos) (dMe nm m (λds=>noX (F ds)) f ak):=by
 obtain⟨C,f0,fd,ps,hN,c,hm,F1,hb⟩:=h.ex
 obtain⟨t,p,ho⟩:=ho
 refine⟨_,sN p c hm F1 hr hb .nil kr ht,λδ O σ H Q E k=>?_⟩
 refine ho δ O σ H _ E (ah (ao k) λx z v H1 s1 rx=>?_)
 cases hat:kH nm x with
 | none=>rw[hat] at z;exact z.elim
 | some r =>
  rw[hat] at z
  have z1:ok _ (if iz m r=true then noX (F [x]) else none) _:=z
  by_cases hf:iz m r=true
  ·rw[if_pos hf] at z1
   obtain⟨a,C',dx,fs,es',rfl,rfl,hN',h1,hn1,hk,rr⟩:=kf rx hat
   have hC:C'=C:=by
    simp_all
   subst hC
   exact⟨a,dx,fs,rfl,h1,iT hk hf,O,[_],rfl,(E.same s1).oo,.cons rx .nil,ah (kM z1) λd y v H2 s2 r2=>y v H2 (s1.trans s2) r2⟩
  ·rw[if_neg hf] at z1;exact z1.elim
end
end DL
namespace SL
open PyProof.Rows L2 DL
section
theorem pQ(hc:X.calm=true)
  (hkind:scope.kind=.function) (hcell:∀y∈scope.names,y.2≠.cell) (hclos:closureFor scope X.env=pure cl) (hsub:∀y c,cl.lookup y=some c->X.env.cells.lookup y=some c)
  (hhas:∀y∈(relabel scope X.env).names,(y.2=.cell\/y.2=.free)->∃c,cl.lookup y.1=some c) (hfr:∀p∈fr,X.N[p.1]?=some p.2/\X.env.kindOf p.2=some .cell/\(compEnvC scope cl 0 X.env).kindOf p.2=some .cell/\∃c,cl.lookup p.2=some c) (hnames:∀y∈scope.names,y.2=.local->scope.names.lookup y.1=some .local)
  (hi:PDI X G tg iter fi) (hg:∀C s3 H3 fp,PDG (aP X scope cl fr tn C s3 H3 fp) tg t) (hcs:∀C s3 H3 fp,pJ (aP X scope cl fr tn C s3 H3 fp) ifs c) (he:∀C s3 H3 fp,PD (aP X scope cl fr tn C s3 H3 fp) (λ_ _=>False) elt f)
  (hN:X.N.Nodup) (hiy:X.N[iy]?=some y) (hly:Loc X.env.scope y) (hs:∀x,foldedSetIterable iter X.env x=pure x:=by intro _;rfl)
  (hsw:swapsWith (.ListComp elt [⟨tg,iter,ifs,0⟩] scope pos) (some (.Name y py)) spos.line X.env=pure true:=by rfl) (hfy:X.fn y=true\/X.env.scope.names.lookup y=some .local:=by first | exact .inl rfl | exact .inr rfl | assumption) :
  SS X G (.Assign [.Name y py] (.ListComp elt [⟨tg,iter,ifs,0⟩] scope pos) spos) (cF iy (gW (cq tn.length (fr.map (·.1)) t fi c f))):=by
 obtain⟨wi,pi,hi⟩:=hi
 refine⟨_,yS (g:=gD X.K t) (tc:=cD X.K c) (te:=tD X.K (λ_ _=>False) f) hc hkind hcell hclos hsub hhas hfr hnames pi (λC s3 H3 fp=>(hg C s3 H3 fp).can) (λC s3 H3 fp=>(hcs C s3 H3 fp).can) (λC s3 H3 fp=>(he C s3 H3 fp).can) hs hsw hN hiy hly hfy,λA δ μ O α σ H Dn E k=>?_⟩
 refine mV hi (viewN 4 μ δ) A.R0 σ H _ E.viewN (ah (dQ E.sr (aq (aY (aq k) λx μ h=>Er.go E.st h))) λd z=>?_)
 cases d with
 | list ds =>
  dsimp only at z
  by_cases hf:aD ds=true
  ·rw[if_pos hf] at z
   exact⟨ds,rfl,hf,λl xs H' s hl hx rx=>z (l::O) (α++[some l]) _ H' ((E.go (Go.adopt s hl) (E.sr.adopt s hl hx rx hf)).set (.h E.sr.at_new)) (Go.adopt s hl)⟩
  ·rw[if_neg hf] at z;exact z.elim
 | _=>exact z.elim
end
end SL
namespace DL
open PyProof.Rows L2
structure DefZ(P:Program)(w:World)(K:ε)(mg:Str->Option Value)(base:Heap)(k:Nat)(x:Str)(n:Nat)(z:Int)(F:List D->M D):Prop where
 ex:∃(f:Addr) (fd:FuncData) (ps:List Str) (t:Tok),FnOk P w K mg base CX0 k f fd ps (spD K (n+1) F)/\mg x=some (.ref f)/\Y7 K (.ref f)=true/\cM K fd ps [.int z t]
section
theorem zE(h:DefZ X.prog X.w X.K X.mg X.base k x n z F)(hr:Room k X.A)(hg:Gl X x)(hn:(e::es).length=n)(ha:PDA X G (e::es) fa)
  (hdb:(x==("__debug__" : Str))=false:=by decide) (he:`we:=by rfl) (hpl:(backTo pos (starEach es X.env)).any (·.1)=false:=by rfl) :
  PD X G (.Call (.Name x p) (e::es) [] pos) (aG (λds=>noX (F (ds++[.int z]))) fa):=by
 obtain⟨f,fd,ps,t0,F1,hm,hk,hb⟩:=h.ex
 obtain⟨hl,t,pa,ha⟩:=ha
 refine⟨_,nz (dvs:=[.int z]) F1 hr hg hm hk hb (.cons ⟨t0,rfl⟩ .nil) kr pa hdb he hpl,λδ O σ H Q E k=>?_⟩
 have k1:=ao k
 refine ha δ O σ H _ E ?_
 cases e1:fa δ with
 | none=>rw[e1] at k1;assumption
 | some r =>
  rw[e1] at k1
  cases r with
  | error x=>exact k1
  | ok ds =>
   refine λvs H1 s1 rs=>?_
   refine⟨O,ds++[.int z],?_,(E.same s1).oo,rs.append (.cons (.int z) .nil),ah (kM k1) λd z v H2 s2 r=>z v H2 (s1.trans s2) r⟩
   rw[η,rs.length,hl δ ds e1,hn]
   rfl
end
section
variable{P:Program}{w:World}{K:ε}{mg:Str->Option Value}{base:Heap}
theorem FunD.bindsZ{x qual:Str}{st:Stmt}{f T:Addr}{fd:FuncData}{ps:List Str}{o:Obj}{items:Array Value}{n:Nat}{d:Value}(F:FunD K x qual st f fd (.ref T))(hT:K.lookup T=some o)(hs:o.data=.seq items n)
  (h:∀(kV doc pm:Value) (an:Option Addr) (cdv ct:Value) (us:List Value),us.length+1=ps.length->∃k,bindArgs (X6 x qual (dz st) (bC st) (ai st) (.ref T) kV doc pm an cdv ct) ⟨us,[]⟩=seqItems? (.ref T) >>= k/\k (some items)=pure (ps.zip (us++[d]))):cM K fd ps [d]:=by
 obtain⟨oc,od,kV,doc,pm,an,cdv,ct,osl,rfl,lk,hcd⟩:=F.ex
 intro s us hK hl
 obtain⟨k,h1,h2⟩:=h kV doc pm an cdv ct us (by simp_all)
 exact BindsTo.of_defaults rfl (hK _ _ hT) hs h1 h2
theorem A7{x qual:Str}{st:Stmt}{f:Addr}{fd:FuncData}{dV:Value}{N ps:List Str}{k m:Nat}{z:Int}{t:Tok}{g:DS->M Out}(F0:FunD K x qual st f fd dV)(S:FnScope N ps (ai st))(hm:mg x=some (.ref f))(hb:cM K fd ps [])(hz:cM K fd ps [.int z t])(hl:ps.length=m+1)
  (hbody:∀(cdv:Value) (A:Around) (outer:List Env) (s:Shared) (H:Hp) (E:XK),Room k (A.deeper (envOfC qual (ai st) s.heap.objs.size f cdv)) ->
   jf (kX CX0 P w K mg base N qual (ai st) f cdv A outer s H E).nox (λ_ _=>False) (bC st) g):Def P w K mg base (k+1) x ps.length (run N.length g)/\DefZ P w K mg base (k+1) x m z (run N.length g) :=
 ⟨⟨f,fd,ps,wc F0 S hbody,hm,F0.kp,hb⟩,⟨f,fd,ps,t,by have:=wc F0 S hbody;simp_all,hm,F0.kp,hz⟩⟩
end
end DL
namespace L2
open PyProof.Rows
section
open AutoSeq1 (wpAny_loadPart')
abbrev AX(a:Addr)(k:Int):Obj:={ cls:=.type "enumerate",data:=.fields #[.none,.bool false,.ref a,rawInt k,.none,.none] }
theorem xH(l:Addr)(its:Array Value)(n:Nat)(dc:Option Addr)(sl:Array (Option Value))(t:Tok)(k:Int)(hk:Builtin.SmallTypes.fitsIndex k=true) :
  Meets (Builtin.«enumerate.__new__» ⟨[.type "enumerate",.ref l],[(Str.ofString "start",.int k t)]⟩) (λ_ R s=>s.heap.get? l=some { cls:=.type "list",dict:=dc,data:=.seq its n,slots:=sl } /\
   R (.ok (.ret (.ref (s.heap.push (Db l)).objs.size))) { s with heap:=(s.heap.push (Db l)).push (AX s.heap.objs.size k) }):=by
 refine Meets.of_wp λprog w A R st0 h=>?_
 obtain⟨hp,g,d,tk,os⟩:=st0
 obtain⟨hl,h⟩:=h
 have hsub:=sub_enumerate
 have hL:Heap.IsList (Shared.heap ⟨hp,g,d,tk,os⟩) l its:=⟨_,hl,rfl,n,rfl⟩
 wp_walk using wpAny_loadPart' hl
 refine wpAny_stack_any λstk=>wpAny_pure ?_
 split
 ·rename_i c _ _ _ _ _
  cases (c==Value.type "enumerate")<;>(wp_walk using wpAny_pyIter_list hL,wpAny_loadPart' hl)<;>exact⟨_,rfl,h⟩
 ·wp_walk using wpAny_pyIter_list hL,wpAny_loadPart' hl
  exact⟨_,rfl,h⟩
end
section
theorem vd(hk:Builtin.SmallTypes.fitsIndex k=true)(hL:s.heap.IsList l its)
  (h:∀h',IsEnum h' (s.heap.objs.size+1) s.heap.objs.size k .none->h'.IsListIter s.heap.objs.size l 0->h'.objs.size=s.heap.objs.size+2 ->
   (∀b o,s.heap.get? b=some o->h'.get? b=some o)->Q (.ref (s.heap.objs.size+1)) { s with heap:=h' }) :
  wpAny (model prog w) A (call (.type "enumerate") [.ref l] [(Str.ofString "start",.int k t)]) Q E s:=by
 obtain⟨⟨c,dc,dt,sl⟩,hl,hc,n,hd⟩:=hL
 cases (show c=.type "list" from hc)
 cases (show dt=.seq its n from hd)
 refine xZ F.called_enumerate (by simp) (by decide) (yo _ _) (zR _ _) (λobj=>Ao obj _ _) F.entry_enumerate_new (xH l its n dc sl t k hk) ⟨hl,?_⟩
 have hz:(s.heap.push (Db l)).objs.size=s.heap.objs.size+1:=Heap.size_push ..
 rw[hz]
 have he:((s.heap.push (Db l)).push (AX s.heap.objs.size k)).get? (s.heap.objs.size+1)=some (AX s.heap.objs.size k):=by
  rw[<-hz]
  exact Heap.get?_push_size _ rfl
 exact⟨⟨_,he,rfl⟩,h _ he ⟨_,Heap.get?_push_of_some _ (Heap.get?_push_size _ rfl),rfl,rfl⟩ (by simp) λb o z=>Heap.get?_push_of_some _ (Heap.get?_push_of_some _ z)⟩
end
theorem drawsG(k:Nat)(D:Draws prog w A it fp n P Sq) :
  Draws prog w A it fp (k+n) (λj v=>∃i,j=k+i/\P i v) (λj h=>∃i,j=k+i/\Sq i h) where
 live:=λ_ h ⟨i,_,z⟩=>D.live i h z
 frame:=λ_ h h' ⟨i,e,z⟩ k=>⟨i,e,D.frame i h h' z k⟩
 item:=λj s Q E hj ⟨i,e,z⟩ k=>D.item i s Q E `am z λx h' tk p q r=>k x h' tk ⟨i,e,p⟩ ⟨i+1,by omega,q⟩ r
 done:=λs Q E ⟨i,e,z⟩ k=>D.done s Q E ((show i=n by omega)▸z) k
noncomputable def Itg(K:ε)(k:Nat)(a:Addr):It :=
  ⟨λi H=>∃xs x,SqL K H a xs/\xs[i]?=some x,
   λi H v H'=>∃T,v=.ref T/\H T=none/\∀xs x,SqL K H a xs->xs[i]?=some x->H'=upd H T (.tup [.int ((k+i:Nat):Int),x]),
   λi H=>∃xs,SqL K H a xs/\xs.length<=i⟩
theorem ui(k:Nat){P:Program}{w:World}{K:ε}{elts:List Expr}{x1:Nat}{tpos:Pos}(a e it:Addr)(n1:e≠it) :
  Turn P w K (.Tuple elts x1 tpos) (Itg K k a) [e,it] e (λi h=>(∃old,IsEnum h e it ((k+i:Nat):Int) old)/\h.IsListIter it a i) where
 mem:=by simp
 obj:=λi h st c hc=>by
  obtain⟨⟨old,he⟩,⟨o1,e1,c1,d1⟩⟩:=st
  grind
 keep:=λi h h' st kk=>by
  obtain⟨⟨old,he⟩,h1⟩:=st
  exact⟨⟨old,kk e (by simp) _ he⟩,h1.at λo e=>kk it (by simp) o e⟩
 item:=by
  intro X hP hw hK hc i pins s σ H E I hf st hg
  subst hP hw hK
  obtain⟨⟨old,he⟩,h1⟩:=st
  obtain⟨xs,x,hq,hx⟩:=hg
  obtain⟨its,rv,p,_⟩:=I.list hq
  obtain⟨ux,hux,rx⟩:=rv.get hx
  obtain⟨o1,e1,c1,d1⟩:=id h1
  have fr:= I.hok.fresh (ξ _)
  have ne:∀{c:Addr} {o:Obj},s.heap.get? c=some o->s.heap.objs.size≠c:=λe=>Nat.ne_of_gt (Heap.lt_size e)
  obtain⟨oa,ea,ca,da⟩:=id p.isList
  have ne1:= px ea he (by simp_all)
  have ne2:= px ea e1 (by simp_all)
  have hlt:i<its.toArray.size:=by
   grind
  refine wpAny_pyNext_enum_itemD (drawsG k (Draws.list (A:=X.A.in1) (I.ok.hd hc) it a ne2 its.toArray)) he ⟨i,rfl,h1,p.isList⟩ `am n1 (by grind) λux' h' tk hP e' hS T' sz kk=>?_
  obtain⟨i',ei,hP⟩:=hP
  have ei:i'=i:=by omega
  subst ei
  have eu:ux'=ux:=by
   simp_all
  subst eu
  obtain⟨i2,ei2,h1'⟩:=hS
  have ei2:i2=i'+1:=by omega
  subst ei2
  have h1':=h1'.1
  refine⟨_,rfl,wpAny_letOwnedTupleGo_enum e' λh2 he2 sb=>?_⟩
  have k2:∀c o,c∉[e,it]->s.heap.get? c=some o->h2.get? c=some o:=λc o hc q=>by
   simp only[ψ,X9,or_false,not_or] at hc
   exact sb.extBut _ _ hc.1 (kk c o hc.1 hc.2 q)
  have T2:= sb.extBut _ _ (ne he) T'
  have I1:Inv X pins σ (upd H s.heap.objs.size (.tup [.int ((k+i':Nat):Int),x])) { s with heap:=h2,toks:=tk+1 }:=by
   refine I.turnNew hf k2 (ξ _) ⟨by show 2<=_;rw[sizeLine_eq];omega,[.int ((k+i':Nat):Int) tk,ux'],.cons ⟨_,rfl⟩ (.cons rx .nil),?_⟩
   exact⟨_,T2,rfl,0,rfl⟩
  refine⟨.ref s.heap.objs.size,_,I1,rfl,⟨_,rfl,fr,λxs' x' q1 q3=>?_⟩,⟨⟨ux',he2⟩,h1'.extBut sb.extBut n1.symm⟩,λc hc=>?_⟩
  ·rw[I.list_inj q1 hq] at q3
   simp_all
  ·have hn:c≠s.heap.objs.size:=by
    grind
   rw[upd_ne hn]
   exact(hf c hc).1
 done:=by
  intro X hP hw hK hc i pins s σ H E I hf st hg
  subst hP hw hK
  obtain⟨⟨old,he⟩,h1⟩:=st
  obtain⟨xs,hq,hx⟩:=hg
  obtain⟨its,rv,p,_⟩:=I.list hq
  have hl:=rv.length
  obtain⟨oa,ea,ca,da⟩:=id p.isList
  obtain⟨o1,e1,c1,d1⟩:=id h1
  have ne2:= px ea e1 (by simp_all)
  refine wpAny_pyNext_enum_endD (AY (I.ok.hd hc) ne2) he ⟨h1,p.isList,by simp_all⟩ λh' kk=>⟨rfl,?_⟩
  refine I.turnAll hf λc o hc e=>?_
  simp only[ψ,X9,or_false,not_or] at hc
  exact kk c o hc.2 e
 self:=λ_ _ _ _ _ st h=>by
  obtain⟨⟨old,he⟩,_⟩:=st
  exact wpAny_pyIter_enum he h
section
variable{X:Cx}{elts:List Expr}{x1:Nat}{tpos:Pos}
noncomputable def iEnumG(K:ε)(ta:TA)(te:TE):TI:=λσ H R=>ta σ H λvs H1=>te σ H1 λz H2=>∃(a:Addr) (k:Nat),vs=[.ref a]/\z=.int (k:Int)/\Builtin.SmallTypes.fitsIndex (k:Int)=true/\(∃xs,SqL K H2 a xs)/\R (Itg K k a) H2
theorem yX{a e:Expr}{ta:TA}{te:TE}{p pos kpos:Pos}(hg:Gl X "enumerate")(hm:X.mg "enumerate" = none)(ha:PA X [a] ta)(he:PE X e te)(hs:starEach [a] X.env=(false,eval a X.env)::starEach [] X.env:=by rfl) :
  PI X (.Tuple elts x1 tpos) (.Call (.Name "enumerate" p) [a] [⟨some (Str.ofString "start"),e,kpos⟩] pos) (iEnumG X.K ta te):=by
 intro pins s σ H R I h
 refine wpAny_Call_Name_kw (iW I hg hm boot_enumerate ?_ (by decide) (by decide))
 refine pB ?_ (by rw[hs];rfl) (by rw[hs];rfl) rfl rfl
 refine thn (ha pos pins s σ H _ I h) λus s1 z0=>?_
 obtain⟨vs,H1,I1,r1,q1⟩:=z0
 refine PyProof.Rows.kws_cons (thn (he pins s1 σ H1 _ I1 q1) λu s2 z1=>?_)
 obtain⟨z,H2,I2,rz,q1⟩:=z1
 refine PyProof.Rows.kws_nil ?_
 obtain⟨l1,k,e1,ez,hk,⟨xs,hx⟩,q⟩:=q1
 subst ez e1
 obtain⟨t,rfl⟩:=rz
 obtain⟨u1,rfl,rx⟩:=k7 r1
 cases rx
 obtain⟨its,rv,pl,_⟩:=I2.list hx
 refine vd hk pl.isList λh' he h1 sz kk=>wpAny_pyIter_enum he ?_
 refine⟨s2.heap.objs.size+1,[s2.heap.objs.size+1,s2.heap.objs.size],_,_,H2,rfl,I2.kept (t':=s2.toks) kk,
  ui k l1 (s2.heap.objs.size+1) s2.heap.objs.size (by simp),⟨⟨_,he⟩,h1⟩,λc hc=>?_,q⟩
 have hc':s2.heap.objs.size<=c:=by
  grind
 exact I2.fpOk hc' (I2.hok.fresh hc')
end
end L2
namespace DL
open PyProof.Rows L2
section
variable{X:Cx}{G:XD->Hp->Prop}{a e:Expr}{f:DS->M D}{fa:DS->M (List D)}{p pos kp kpos tpos:Pos}{elts:List Expr}{x1:Nat}{K:ε}{O:List Addr}{H1:Hp}
theorem ye{a:Addr}{k:Nat}{xs:List V}{ds:List D}(hk:∀(O2:List Addr) (H2:Hp),To O O2 H1 H2->SqL K H2 a xs)(rs:Reps K O H1 xs ds):Yl K (Itg K k a) O H1 (bH k ds):=by
 refine⟨λO2 H2 t i d hd=>?_,λO2 H2 t=>⟨xs,hk O2 H2 t,?_⟩⟩
 ·obtain⟨x,hx,rfl⟩:=iD hd
  obtain⟨v,hv,r⟩:=rs.get hx
  refine⟨⟨xs,v,hk O2 H2 t,hv⟩,λz H3 q=>?_⟩
  obtain⟨T,rfl,hT,q⟩:=q
  have e:=q xs v (hk O2 H2 t) hv
  subst e
  exact⟨aK hT,im hT (.cons (.int _) (.cons (r.to t) .nil))⟩
 ·rw[j9,rs.length]
  exact ξ _
noncomputable def pf(fa:DS->M (List D))(f:DS->M D):DS->M (List D):=λδ=>(fa δ).thn λds=>(f δ).thn λd=>match ds,d with
 | [.list xs],.int k=>if (decide (0<=k)&&Builtin.SmallTypes.fitsIndex k)=true then M.ret (bH k.toNat xs) else none
 | _,_=>none
theorem xg(hgl:Gl X "enumerate")(hm:X.mg "enumerate" = none)(ha:PDA X G [a] fa)(hb:PD X G e f)(hs1:starEach [a] X.env=(false,eval a X.env)::starEach [] X.env:=by rfl) :
  PDI X G (.Tuple elts x1 tpos) (.Call (.Name "enumerate" p) [a] [⟨some (Str.ofString "start"),e,kpos⟩] pos) (pf fa f):=by
 obtain⟨_,ta,pa,ha⟩:=ha
 obtain⟨te,pe,hb⟩:=hb
 refine⟨_,yX hgl hm pa pe hs1,λδ O σ H R E k=>?_⟩
 refine ha δ O σ H _ E (ah (ao k) λds z vs H1 s1 rs=>?_)
 refine hb δ O σ H1 _ (E.same s1) (ah (ao z) λd z u H2 s2 ru=>?_)
 match ds,d,z with
 | [.list xs],.int k,z =>
  by_cases hk:(decide (0<=k)&&Builtin.SmallTypes.fitsIndex k)=true
  ·have z:ok (GS G _) (if (decide (0<=k)&&Builtin.SmallTypes.fitsIndex k)=true then M.ret (bH k.toNat xs) else none) _:=z
   rw[if_pos hk] at z
   rw[Z2,decide_eq_true_eq] at hk
   obtain⟨v,rfl,r⟩:=fE rs
   obtain⟨a1,us,rfl,hq,hk2,r1⟩:=(r.same s2).lstTo
   exact⟨a1,k.toNat,rfl,by rw[ru.int_inv,Int.toNat_of_nonneg hk.1],by rw[Int.toNat_of_nonneg hk.1];exact hk.2,⟨us,hq⟩,z _ H2 (s1.trans s2) (ye hk2 r1)⟩
  ·have z:ok (GS G _) (if (decide (0<=k)&&Builtin.SmallTypes.fitsIndex k)=true then M.ret (bH k.toNat xs) else none) _:=z
   rw[if_neg hk] at z
   exact z.elim
theorem AH{δ:DS}{xs:List D}{k:Nat}(h1:fa δ=M.ret [.list xs])(h2:f δ=M.ret (.int (k:Int)))(hk:Builtin.SmallTypes.fitsIndex (k:Int)=true):pf fa f δ=M.ret (bH k xs):=by
 unfold pf
 rw[h1,ay,h2,ay]
 simp_all
end
end DL
namespace DL
open PyProof.Rows L2
section
variable{X:Cx}{G:XD->Hp->Prop}{a b o ix e:Expr}{f g:DS->M D}{pos pos' np:Pos}{i:Nat}{x:Str}
theorem sk{K:ε}{O:List Addr}{H:Hp}:∀{kvs:List (Key×V)} {es:List (Key×D)} {k:Key},kvs.map (·.1)=es.map (·.1)->ci es k=none->kI kvs k=none
 | [],[],_,_,_=>rfl
 | [],_::_,_,hk,_=>by cases hk
 | _::_,[],_,hk,_=>by cases hk
 | p::kvs,e::es,k,hk,h=>by
  simp only[ω,List.cons.injEq] at hk
  by_cases c:e.1=k
  ·have:ci (e::es) k=some e.2:=by simp [ci,W3,c]
   simp_all
  ·have:ci (e::es) k=ci es k:=by simp [ci,W3,c]
   rw[this] at h
   rw[jr (by simp_all)]
   exact sk (K:=K) (O:=O) (H:=H) hk.2 h
noncomputable def lV(i:Nat)(fk:DS->M D):DS->M D:=λδ=>match δ[i]? with
 | some (.od es)=>(fk δ).thn λy=>match bG y with
  | some k=>M.lift (ci es k)
  | none=>none
 | _=>none
theorem uO{K:ε}{O:List Addr}{H:Hp}{y:D}{kk:Key}{u:V}(hy:bG y=some kk)(ry:Rep K O H u y):u=kV kk:=by
 rw[j3 hy] at ry
 cases kk with
 | inl i=>exact ry.int_inv
 | inr s=>exact ry.str_inv
theorem CC(hu:X.A.units+1<cLine)(hx:PE X (.Name x np) (ld i))(hk:PD X G ix g)(hs:DV ix):PD X G (.Subscript (.Name x np) ix pos) (lV i g):=by
 obtain⟨tk,pk,hk⟩:=hk
 refine⟨_,vN hu hx pk hs,λδ O σ H Q E k=>?_⟩
 unfold lV at k
 split at k
 ·rename_i es hd
  obtain⟨l,kvs,q1,q2,q3,q4,q5⟩:=E.at_ i _ hd
  refine⟨.ref l,q1,hk δ O σ H _ E (ah (ao k) λy z u H2 s2 ry=>?_)⟩
  cases hy:bG y with
  | none=>rw[hy] at z;exact z.elim
  | some kk =>
   rw[hy] at z
   obtain⟨d,hd2,z3⟩:=b5 z
   obtain⟨v,h1,h2⟩:=k8 q4 (q5.same s2) hd2
   exact⟨l,v,rfl,.inl ⟨kvs,kk,.inl (s2 _ _ q3),uO hy ry,h1.symm⟩,z3 v H2 s2 h2⟩
 ·exact k.elim
noncomputable def t6(i:Nat)(fk:DS->M D):DS->M D:=λδ=>match δ[i]? with
 | some (.od es)=>(fk δ).thn λy=>match bG y with
  | some k=>M.ret (.bool (ci es k).isSome)
  | none=>none
 | _=>none
theorem CW{tk:TE}(hk:∀{Hr:Hp} (δ:DS) (O:List Addr) (σ:St) (H:Hp) (Q:VK),Ev X.K Hr O H σ δ->ok (GS G Hr) (g δ) (λd=>∀v H',aE H H'->Rep X.K O H' v d->Q v H')->tk σ H Q){Hr:Hp}{δ:DS}{O:List Addr}{σ:St}{H:Hp}{Q:VK}(E:Ev X.K Hr O H σ δ)(k:ok (GS G Hr) (t6 i g δ) (λd=>∀v H',aE H H'->Rep X.K O H' v d->Q v H')):tDIn tk (ld i) σ H Q:=by
 unfold t6 at k
 split at k
 ·rename_i es hd
  refine hk δ O σ H _ E (ah (ao k) λy z u H2 s2 ry=>?_)
  obtain⟨l,kvs,q1,q2,q3,q4,q5⟩:=(E.same s2).at_ i _ hd
  refine⟨.ref l,q1,?_⟩
  cases hy:bG y with
  | none=>rw[hy] at z;exact z.elim
  | some kk =>
   rw[hy] at z
   have z:ok (GS G _) (M.ret (PyData.bool (ci es kk).isSome)) _:=z
   cases hv:ci es kk with
   | none =>
    rw[hv] at z
    exact⟨l,none,rfl,.inl ⟨kvs,kk,.inl q3,uO hy ry,(sk (K:=X.K) (O:=O) (H:=H2) q4 hv).symm⟩,z _ H2 s2 (.bl _)⟩
   | some d =>
    rw[hv] at z
    obtain⟨v,h1,h2⟩:=k8 q4 q5 hv
    exact⟨l,some v,rfl,.inl ⟨kvs,kk,.inl q3,uO hy ry,h1.symm⟩,z _ H2 s2 (.bl _)⟩
 ·exact k.elim
theorem Cj(hu:X.A.units+1<cLine)(hx:PE X (.Name x np) (ld i))(hk:PD X G a g):PDT X G (.Compare a [.In] [.Name x np] pos) (dB (t6 i g)):=by
 obtain⟨tk,pk,hk⟩:=hk
 refine⟨_,pt_cmp (pc_din hu pk hx) rfl,λδ O σ H Q E k=>?_⟩
 refine CW hk E (ah (sV k) λd z v H' s r=>?_)
 obtain⟨b,rfl,z⟩:=z
 exact⟨b,r.bool_inv,z H' s⟩
theorem Dv(h0:δ[i]?=some (.od es))(h1:g δ=M.ret y)(hy:bG y=some k)(hv:ci es k=some d):lV i g δ=M.ret d:=by
 unfold lV
 rw[h0]
 show(g δ).thn _=_
 rw[h1,ay,hy]
 show M.lift (ci es k)=_
 rw[hv]
 rfl
theorem AG(h0:δ[i]?=some (.od es))(h1:g δ=M.ret y)(hy:bG y=some k):t6 i g δ=M.ret (.bool (ci es k).isSome):=by
 unfold t6
 rw[h0]
 show(g δ).thn _=_
 rw[h1,ay,hy]
end
end DL
namespace DL
open PyProof.Rows L2
open PySem.AutoSeq1 (wpAny_loadPart')
open PySem.MeetsSeq PySem.MeetsSeq2 PySem.MeetsSeq3 PySem.SeqAt
variable{X:Cx}
def Al(P:Program)(w:World)(A:Around)(s:Shared)(x y:Value):Prop :=
 ∀(E:Value->Shared->Prop) (Q:Bool->Shared->Prop),Q true s->wpAny (model P w) A (eqBool x y) Q E s
section
theorem DR(hz:xs.size=ys.size)(k:Nat):∀i:Nat,xs.size=i+k ->
  MeetsIn P w (Builtin.«list.__eq__.loop» ⟨[.ref p,.ref q,rawInt i,rawInt 3],[]⟩) (λA R s=>s.heap.get? p=some ⟨.type "list",dx,.seq xs n,sx⟩ /\
   s.heap.get? q=some ⟨.type "list",dy,.seq ys m,sy⟩/\(∀j (a:j<xs.size) (b:j<ys.size),Al P w A.in1 s xs[j] ys[j])/\R (.ok (.ret (.bool false))) s):=by
 induction k with
 | zero =>
  intro i hk A R s h
  obtain⟨gp,gq,he,h⟩:=h
  wp_walk using wpAny_loadPart' gp,wpAny_loadPart' gq
  rw[show xs[((i:Nat):Int).toNat]?=none by simp;omega,show ys[((i:Nat):Int).toNat]?=none by simp;omega]
  wp_walk using wpAny_loadPart' gp,wpAny_loadPart' gq
  show R (.ok (.ret (.bool (xs.size != ys.size)))) _
  simp_all
 | succ k ih =>
  intro i hk A R s h
  obtain⟨gp,gq,he,h⟩:=h
  wp_walk using wpAny_loadPart' gp,wpAny_loadPart' gq
  have a1:i<xs.size:=by omega
  have a2:i<ys.size:=by omega
  rw[show xs[((i:Nat):Int).toNat]?=some xs[i] by simp [a1],show ys[((i:Nat):Int).toNat]?=some ys[i] by simp [a2]]
  refine wpAny_bind (he i a1 a2 _ _ ?_)
  wp_walk
  refine⟨plainId_quiet plain_eq_loop _,codeAny_builtin entry_eq_loop ?_⟩
  exact ih (i+1) `am A R _ ⟨gp,gq,he,h⟩
theorem al_ne(hz:xs.size=ys.size) :
  MeetsIn P w (Builtin.«list.__ne__» ⟨[.ref p,.ref q],[]⟩) (λA R s=>s.heap.get? p=some ⟨.type "list",dx,.seq xs n,sx⟩ /\
   s.heap.get? q=some ⟨.type "list",dy,.seq ys m,sy⟩/\(∀j (a:j<xs.size) (b:j<ys.size),Al P w A.in1 s xs[j] ys[j])/\R (.ok (.ret (.bool false))) s):=by
 intro A R s h
 obtain⟨gp,gq,he,h⟩:=h
 have hs:=AutoSeq1.sub_list_list
 wp_walk using wpAny_loadPart' gp,wpAny_loadPart' gq
 refine⟨plainId_quiet plain_eq_loop _,codeAny_builtin entry_eq_loop ?_⟩
 exact DR hz xs.size 0 `am A R _ ⟨gp,gq,he,h⟩
end
section
variable{P:Program}{w:World}{A:Around}{E:Value->Shared->Prop}{s:Shared}{p q:Addr}{xs ys:Array Value}
theorem Be(hp:s.heap.IsList p xs)(hq:s.heap.IsList q ys)(hz:xs.size=ys.size)(hu:A.units<cLine)
  (he:∀j (a:j<xs.size) (b:j<ys.size),Al P w A.in1 s xs[j] ys[j]) (h:Q (.bool false) s):wpAny (model P w) A (compareOp .NotEq (.ref p) (.ref q)) Q E s:=by
 obtain⟨⟨c1,d1,t1,s1⟩,g1,e1,n1,f1⟩:=id hp
 obtain⟨⟨c2,d2,t2,s2⟩,g2,e2,n2,f2⟩:=id hq
 subst e1 f1 e2 f2
 refine wpAny_richCompare_same_room (op:=.NotEq) ⟨_,g1,rfl⟩ ⟨_,g2,rfl⟩ F.slot_list_ne ?_ hu
 exact call_meetsIn F.slot_list_ne (T := "list") ⟨_,g1,rfl⟩ F.entry_list_ne (F.args_list_ne_2 _ _) (al_ne hz)
  ⟨g1,g2,he,show Value.bool false≠Value.notImplemented/\Q (.bool false) s from⟨(λx=>nomatch x),h⟩⟩
theorem DT{K:Type}[DecidableEq K]{knd:KeyKind P w K}{ka kb:List (K×Value)}(ha:(p==sysModules)=false)(hb:(q==sysModules)=false)(da:s.heap.DictOf knd p ka)
  (db:s.heap.DictOf knd q kb) (hu:A.units<cLine) (hl:ka.length=kb.length) (hh:PySem.W.KeqHits A.in1 s kb ka true):Al P w A s (.ref p) (.ref q):=λE Q hq=>by
 refine wpAny_holding (wpAny_ite_split (λ_=>wpAny_bind (wpAny_rule (wpAny_pure hq))) λ_=>wpAny_bind (PySem.W.keq_eq ha hb da db hu (λ_=>hh) ?_))
 rw[show(ka.length==kb.length&&true)=true by simp [hl]]
 exact wpAny_truthy_bool hq
end
theorem DF{A:Around}{s:Shared}{kvs kws:List (Key×V)}{vs ws:List (Key×Value)}(r:KV kvs vs)(r2:KV kws ws)(hh:∀p∈kvs,∃i,p.2=.int i/\kI kws p.1=some (.int i)) :
  PySem.W.KeqHits A s ws vs true:=by
 induction r with
 | nil=>exact .nil
 | @cons p q' ps qs h r ih =>
  obtain⟨i,hi,hv⟩:=hh p υ
  have:=ih (λp hp=>hh p (θ _ hp))
  obtain⟨w,hw,rw'⟩:=kj.some_of (o:=valueAt ws q'.1) (by rw[<-h.1,<-hv];exact r2.val p.1)
  have hx:=h.2
  rw[hi] at hx
  obtain⟨t,ht⟩:=hx
  obtain⟨t',rfl⟩:=rw'
  obtain⟨k,v⟩:=q'
  subst ht
  have he:SeqAt.EqAt A s (Value.int i t) (Value.int i t') (V4 (.int i) (.int i)):=PySem.W.keq_flat (λh=>.int _ _) (λh=>.int _ _)
  rw[show V4 (.int i) (.int i)=true by simp [V4]] at he
  exact PySem.W.KeqHits.hit hw he this
noncomputable def k5(p:D×D):Bool:=flat p.1 p.2&&V4 p.1 p.2
noncomputable def sX:D->D->Option D
 | .list (.dict A::xs),.list (.dict B::ys)=>if (A.length=B.length/\A.all (lA B)=true)/\xs.length=ys.length/\(xs.zip ys).all k5=true then some (.bool false) else none
 | _,_=>none
theorem wM(I:`DX)(hu:A.units+62<cLine):∀{xs ys:List D} {vs us:List V} {its jts:List Value},
  Reps X.K O H vs xs->Reps X.K O H us ys->aM vs its->aM us jts->(xs.zip ys).all k5=true->∀j (a:j<its.length) (b:j<jts.length),SeqAt.EqAt A s its[j] jts[j] true
 | _,_,_,_,_,_,.nil,_,.nil,_,_,j,a,_=>absurd a (Y8 j)
 | _,_,_,_,_,_,.cons _ _,.nil,_,.nil,_,j,_,b=>absurd b (Y8 j)
 | _,_,_,_,_,_,.cons r rs,.cons t ts,.cons v vs,.cons u us,h,j,a,b=>by
  rw[List.zip_cons_cons,List.all_cons,Z2] at h
  match j,a,b with
  | 0,_,_ =>
   have z:=h.1
   unfold k5 at z
   rw[Z2] at z
   obtain⟨f1,f2,f3⟩:=j5 z.1
   obtain⟨as,t1⟩:=r.reads I f1 v
   obtain⟨bs,t2⟩:=t.reads I f2 u
   have g:=SeqAt.eqAt_reads _ _ A s _ _ as bs t1 t2 f1 f2 `am
   simp_all
  | j+1,a,b=>exact wM I hu rs ts vs us h.2 j (by simp_all) (by simp_all)
theorem CO(hu:X.A.units+64<cLine):OpR X (compareOp .NotEq) (λv u H Q=>∃a b c e kvs kws vs us O xs ys,v=.ref a/\u=.ref b/\SqL X.K H a (.ref c::vs)/\SqL X.K H b (.ref e::us) /\
  (Rd H c (.dK kvs)/\Rd H e (.dK kws)/\kvs.length=kws.length/\∀p∈kvs,∃i,p.2=.int i/\kI kws p.1=some (.int i)) /\
  (Reps X.K O H vs xs/\Reps X.K O H us ys/\xs.length=ys.length/\(xs.zip ys).all k5=true)/\Q (.bl false) H):=by
 intro pins s σ H v u v' u' Q I rv ru h
 obtain⟨a,b,c,e,kvs,kws,vs,us,O,xs,ys,rfl,rfl,ha,hb,⟨hc,he,hl,hh⟩,⟨rx,ry,hz,hq⟩,q⟩:=h
 cases rv
 cases ru
 obtain⟨its,r1,p1,_⟩:=I.list ha
 obtain⟨jts,r2,p2,_⟩:=I.list hb
 cases r1 with
 | cons k1 k2 =>
  cases r2 with
  | cons l1 l2 =>
   cases k1
   cases l1
   have n1:=k2.length
   have n2:=l2.length
   have n3:=rx.length
   have n4:=ry.length
   refine Be p1.isList p2.isList (by simp_all) `am (λj z z'=>?_) ⟨.bl false,H,I,rfl,q⟩
   match j,z,z' with
   | 0,_,_ =>
    obtain⟨_,z1,vs,m1,d1⟩:=o8 I.hok hc
    obtain⟨_,z2,ws,m2,d2⟩:=o8 I.hok he
    have e1:=m1.length
    have e2:=m2.length
    exact DT z1 z2 d1 d2 (by grind) `am (DF m1 m2 hh)
   | j+1,z,z' =>
    have g:=wM (A:=X.A.in1) I (by grind) rx ry k2 l2 hq j (by simp_all) (by simp_all)
    exact λE Q z=>g _ _ E Q z
theorem AZ(hu:X.A.units+64<cLine):DOp X (compareOp .NotEq) sX:=by
 refine⟨_,CO hu,λO H x y d v u Q oo rx ry e k=>?_⟩
 unfold sX at e
 split at e
 ·rename_i A xs B ys
  by_cases c:(A.length=B.length/\A.all (lA B)=true)/\xs.length=ys.length/\(xs.zip ys).all k5=true
  ·rw[if_pos c] at e
   cases e
   obtain⟨⟨c1,c2⟩,c3,c4⟩:=c
   obtain⟨a,vs,rfl,h1,r1⟩:=rx.lst_inv
   obtain⟨b,us,rfl,h2,r2⟩:=ry.lst_inv
   cases r1 with
   | cons r11 r12 =>
    cases r2 with
    | cons r21 r22 =>
     obtain⟨c,kvs,es,rfl,rfl,hr,hn,hk,rv⟩:=r11.dct_inv (uE c2)
     obtain⟨e,kws,fs,rfl,rfl,hr2,hn2,hk2,rv2⟩:=r21.dct_inv (uF c1 c2)
     refine⟨a,b,c,e,kvs,kws,_,_,O,xs,ys,rfl,rfl,h1,h2,⟨hr,hr2,?_,tH hk rv hk2 rv2 c2⟩,⟨r12,r22,c3,c4⟩,k _ H (aE.refl H) (.bl _)⟩
     have q1:=congrArg V5 hk
     have q2:=congrArg V5 hk2
     grind
  simp_all
 simp_all
end DL
namespace CT
open L2 DL SL
noncomputable def jF:DS->M Out:=(ck (d2 oIs (d2 oIx (ac 0) (dC (.int 3))) (dC .none)))
noncomputable def bj:List D->M D:=run 1 jF
noncomputable def lE:DS->M Out:=(ck (dIf (jT (dB (d2 oEq (d2 oIx (ac 0) `DY) (d2 oIx (ac 0) (dC (.int 1))))) (dB (d2 oGt (d2 oIx (ac 0) (dC (.int 2))) `DY))) (d2 oIx (ac 0) (dC (.int 3))) `DY))
noncomputable def eE:List D->M D:=run 1 lE
noncomputable def jN:SL.SG:=(bo (cF 3 (bN (dCB dM (ae (ac 1) ak))))
  (bo (cF 4 (bN (dCB sW (ae (cq 1 [] (tgN 0) (iF (ac 2)) (nj (dB (aG (λds=>noX (bj ds)) (ae (ac 0) ak)))) (d2 oIx (ac 0) (dC (.int 3)))) ak))))
  (bo (dL "Tree" "many" (aI 0) (bN (dCB dM (ae (ac 2) ak))))
  (bo (dL "Tree" "rules" (aI 0) (bN (gI (jB (gI (qc (ae (ac 2) ak))) (cq 2 [3] (dk 2 (aR (tgN 0) (aR (tgN 1) dm))) (jm (ae (ac 1) ak)) eU (bM (ae (ac 0) (ae (ac 2) (ae (d1 m6 (ac 1)) (ae (dC .none) (ae (bM ak) ak)))))))))))
  (bo (dL "Tree" "bounds" (aI 0) (gW (cq 1 [4] (tgN 0) (iF (d1 (aV "Tree" "rules") (ac 0))) eU (dIf (dB (aG (λds=>noX (bj ds)) (ae (ac 0) ak))) (d2 bf (ac 1) (dC (.int 1))) (d2 oIx (ac 0) (dC (.int 3)))))))
  (bo (dL "Tree" "flow" (aI 0) (gW (cq 1 [] (tgN 0) (iF (d1 (aV "Tree" "rules") (ac 0))) eU (aG (λds=>noX (eE ds)) (ae (ac 0) ak)))))
  (bo (dL "Tree" "times" (aI 0) (gl (jB (gI (qc (ae (ac 1) ak))) (gI (cj (ae `DY ak))))))
  (bo (dL "Tree" "over" (aI 0) (gl (jB (gI (rp (cj (ae (ac 3) ak)) (ac 3))) (gI (cj (ae (dC .none) ak))))))
  (bo (dL "Tree" "under" (aI 0) (BO (ml (jo fJ (ae (ac 3) ak)) (cj ak)) (wW (bZ (gl (kO (ae (ac 3) ak))) iP))))
  (bo (dL "Tree" "hooks" (aI 0) (gl (jB (cq 1 [0] (tgN 0) (jo fJ (ae (ac 3) ak)) eU (d2 bf (d1 (aV "Tree" "many") (ac 1)) (ac 0))) (gI (cj (ae (dC .none) ak))))))
  (bo (dL "Tree" "depths" (aI 0) (gl (jB (gI (rp (cj (ae (dC (.int 1)) ak)) (ac 3))) (gI (cj (ae `DY ak))))))
  (dL "Tree" "begin" (aI 0) (bN `DY)))))))))))))
noncomputable def gi:List SL.Val->SL.Sto->SL.R (SL.Val×SL.Sto):=SL.kK 5 jN
noncomputable def hG:DS->M Out:=(ck (cq 1 [0] (tgN 0) (iF (lW (d1 (aV "Tree" "times") (ac 0)) jc (kG (d1 m6 (dC (.int 1)))))) eU (d2 gY (ac 0) (d2 oIx (d1 (aV "Tree" "times") (ac 1)) `DY))))
noncomputable def fA:List D->M D:=run 1 hG
noncomputable def fI:DS->M Out:=(ck (lW (d1 (aV "Tree" "flow") (ac 0)) jc (kG (d1 (aV "Tree" "many") (ac 0)))))
noncomputable def bI:List D->M D:=run 1 fI
noncomputable def jM:DS->M Out:=(aH (bq (d2 oIx (d1 (aV "Tree" "rules") (ac 0)) (ac 1)) (tgN 2))
  (ck (d2 bf (d2 gY (d2 oIx (ac 2) (dC (.int 2))) (d2 oIx (d1 (aV "Tree" "times") (ac 0)) (d2 oIx (ac 2) (dC (.int 1))))) (d2 oIx (d1 (aV "Tree" "times") (ac 0)) (d2 oIx (ac 2) `DY)))))
noncomputable def bU:List D->M D:=run 3 jM
noncomputable def jj:DS->M Out:=(ck (dIf (dB (d2 oGt (ac 2) `DY)) (d2 oLt (d2 oIx (d1 (aV "Tree" "flow") (ac 0)) (ac 1)) (d2 oIx (d1 (aV "Tree" "bounds") (ac 0)) (ac 1))) (d2 oGt (d2 oIx (d1 (aV "Tree" "flow") (ac 0)) (ac 1)) `DY)))
noncomputable def cC:List D->M D:=run 3 jj
noncomputable def bK:DS->M Out:=(aH (bq (dMe "Tree" "lack_of" (λds=>noX (bU ds)) (ac 0) (ae (ac 5) ak)) (tgN 6))
  (gIf (jT (dB (d2 oGt (dCB rf (ae (ac 6) ak)) (ac 4))) (dB (dMe "Tree" "is_wrong" (λds=>noX (cC ds)) (ac 0) (ae (ac 5) (ae (ac 6) ak))))) (aH (bq (ac 5) (tgN 3))
  (bq (dCB rf (ae (ac 6) ak)) (tgN 4))) cP))
noncomputable def gM:DS->M Out:=(aH (bq (dC .none) (tgN 3))
  (aH (bq `DY (tgN 4))
  (aH (fN (jo w6 (ae (ac 1) (ae (ac 2) ak))) (tgN 5) bK)
  (ck (ac 3)))))
noncomputable def cL:List D->M D:=run 7 gM
noncomputable def cg:SL.SG:=(bo (cF 2 (br (dCB xo (ae (d2 bf (d1 (aV "Tree" "begin") (ac 0)) (dC (.int 50))) (ae (d1 (aV "Tree" "many") (ac 0)) ak)))))
  (bo (cF 3 (br (dMe "Tree" "worst_rule" (λds=>noX (cL ds)) (ac 0) (ae (d1 (aV "Tree" "begin") (ac 0)) (ae (ac 2) ak)))))
  (bo (dL "Tree" "begin" (aI 0) (br (dIf (dB (d2 oLt (ac 2) (d1 (aV "Tree" "many") (ac 0)))) (ac 2) `DY)))
  (sIf (gK (dB (d2 gZ (ac 3) (dC .none)))) (sC (aI 3)) jv))))
noncomputable def gL:SL.SG:=(bo (sE (ae (d2 bf (d2 oI (d1 (aV "Tree" "many") (ac 0)) (dC (.int 50))) (dC (.int 1))) ak) (agN 1) cg)
  (sC (bN (dC .none))))
noncomputable def bV:List SL.Val->SL.Sto->SL.R (SL.Val×SL.Sto):=SL.kK 4 gL
noncomputable def eX:DS->M Out:=(gIf (dB (d2 oGe (d2 oIx (d1 (aV "Tree" "depths") (ac 0)) (ac 1)) (d2 oIx (d1 (aV "Tree" "depths") (ac 0)) (ac 2)))) (bq (d2 oIx (d1 (aV "Tree" "over") (ac 0)) (ac 1)) (tgN 1)) (bq (d2 oIx (d1 (aV "Tree" "over") (ac 0)) (ac 2)) (tgN 2)))
noncomputable def jL:DS->M Out:=(aH (cO (dB (d2 oNe (ac 1) (ac 2))) eX)
  (ck (ac 1)))
noncomputable def eJ:List D->M D:=run 3 jL
noncomputable def jd:DS->M Out:=(aH (ki 3 (ac 1))
  (bq (d2 oIx (d1 (aV "Tree" "over") (ac 0)) (ac 1)) (tgN 1)))
noncomputable def oX:DS->M Out:=(aH (jk 3 (cj ak))
  (aH (cO (dB (d2 oNe (ac 1) (ac 2))) jd)
  (mS 3)))
noncomputable def gG:List D->M D:=run 4 oX
noncomputable def iA:DS->M Out:=(ck (bM (ae (ac 1) (ae (d2 oIx (d1 (aV "Tree" "hooks") (ac 0)) (ac 1)) (ae (d2 oEq (d2 oIx (d2 oIx (d1 (aV "Tree" "rules") (ac 0)) (d2 oIx (d1 (aV "Tree" "hooks") (ac 0)) (ac 1))) (dC (.int 1))) (ac 1)) ak)))))
noncomputable def cx:List D->M D:=run 2 iA
noncomputable def jJ:DS->M Out:=(ck (bM (ae (ac 1) (ae (d2 oIx (d1 (aV "Tree" "hooks") (ac 0)) (ac 1)) (ae (d2 oEq (d2 oIx (d2 oIx (d1 (aV "Tree" "rules") (ac 0)) (d2 oIx (d1 (aV "Tree" "hooks") (ac 0)) (ac 1))) `DY) (ac 1)) ak)))))
noncomputable def cZ:List D->M D:=run 2 jJ
noncomputable def mQ:DS->M Out:=(aH (bq (d2 oIx (ac 1) (dC (.int 1))) (tgN 2))
  (ck (dIf (dB (d2 oIx (ac 1) (dC (.int 2)))) (d2 gY (d2 oIx (d1 (aV "Tree" "bounds") (ac 0)) (ac 2)) (d2 oIx (d1 (aV "Tree" "flow") (ac 0)) (ac 2))) (d2 oIx (d1 (aV "Tree" "flow") (ac 0)) (ac 2)))))
noncomputable def c6:List D->M D:=run 3 mQ
noncomputable def eW:DS->M Out:=(aH (ki 3 (ac 1))
  (bq (d2 oIx (d1 (aV "Tree" "over") (ac 0)) (ac 1)) (tgN 1)))
noncomputable def jI:DS->M Out:=(dS (jk 3 (cj ak))
  (dS (cO (dB (d2 oNe (ac 1) (ac 2))) eW)
  (oZ 3)))
noncomputable def eI:List D->M D:=run 4 jI
noncomputable def cW:SL.SG:=(bo (cF 1 (wV (aI 3)))
  (bo (oi (λi j=>i+j) (sAt "Tree" "times" (aI 0)) (aI 1) (aI 2))
  (bo (ju (sAt "Tree" "depths" (aI 0)) (aI 1) (br (d2 bf (d2 oIx (d1 (aV "Tree" "depths") (ac 0)) (d2 oIx (d1 (aV "Tree" "over") (ac 0)) (ac 1))) (dC (.int 1)))))
  (il (yG (aI 3) (sIx (sAt "Tree" "under" (aI 0)) (aI 1)))))))
noncomputable def lK:SL.SG:=(bo (cF 3 (gl (cj (ae (ac 1) ak))))
  (df (iO (dTr (ac 3))) cW))
noncomputable def fC:List SL.Val->SL.Sto->SL.R (SL.Val×SL.Sto):=SL.kK 4 lK
noncomputable def b9:SL.SG:=(bo (il (wU (sIx (sAt "Tree" "under" (aI 0)) (br (d2 oIx (d1 (aV "Tree" "over") (ac 0)) (ac 10)))) (aI 10)))
  (bo (il (wY (sIx (sAt "Tree" "under" (aI 0)) (br (d2 oIx (ac 8) (ac 9)))) (aI 10)))
  (bo (ju (sAt "Tree" "over" (aI 0)) (aI 10) (br (d2 oIx (ac 8) (ac 9))))
  (ju (sAt "Tree" "hooks" (aI 0)) (aI 10) (br (d2 oIx (ac 7) (ac 9)))))))
noncomputable def jO:SL.SG:=(bo (cF 4 (br (d2 oIx (d1 (aV "Tree" "rules") (ac 0)) (ac 3))))
  (bo (cF 5 (br (dMe "Tree" "lack_of" (λds=>noX (bU ds)) (ac 0) (ae (ac 3) ak))))
  (bo (cF 6 (gW (dMe "Tree" "way" (λds=>noX (eI ds)) (ac 0) (ae (ac 2) (ae (d2 oIx (d1 (aV "Tree" "over") (ac 0)) (ac 1)) ak)))))
  (bo (cF 7 (gl (jB (gI (cj (ae (ac 3) ak))) (cq 1 [0] (tgN 0) (iF (ac 6)) eU (d2 oIx (d1 (aV "Tree" "hooks") (ac 1)) (ac 0))))))
  (bo (cF 8 (gl (jB (gI (cj (ae (dIf (dB (d2 oEq (d2 oIx (ac 4) `DY) (ac 2))) (d2 oIx (ac 4) (dC (.int 1))) (d2 oIx (ac 4) `DY)) ak))) (ac 6))))
  (bo (gX true (mW 2 (et (agN 9) (et (agN 10) mX))) (aI 6) b9)
  (il (lf "Tree" "shift" fC (aI 0) (bZ (aI 2) (bZ (bN (dIf (dB (d2 oEq (d2 oIx (ac 4) (dC (.int 1))) (ac 2))) (ac 5) (d1 m6 (ac 5)))) iP))))))))))
noncomputable def c9:List SL.Val->SL.Sto->SL.R (SL.Val×SL.Sto):=SL.kK 11 jO
noncomputable def ib:SL.SG:=(sIf (iO (dB (d2 oLt (dMe "Tree" "room" (λds=>noX (c6 ds)) (ac 0) (ae (ac 11) ak)) (ac 9)))) (bo (cF 9 (br (dMe "Tree" "room" (λds=>noX (c6 ds)) (ac 0) (ae (ac 11) ak))))
  (cF 10 (bN (bM (ae (d2 oIx (ac 11) `DY) (ae (ac 4) ak)))))) jv)
noncomputable def ia:SL.SG:=(sIf (iO (dB (d2 mr (dMe "Tree" "room" (λds=>noX (c6 ds)) (ac 0) (ae (ac 11) ak)) (ac 9)))) (bo (cF 9 (br (dMe "Tree" "room" (λds=>noX (c6 ds)) (ac 0) (ae (ac 11) ak))))
  (cF 10 (bN (bM (ae (d2 oIx (ac 11) `DY) (ae (ac 5) ak)))))) jv)
noncomputable def fy:SL.SG:=(oi (λi j=>i+j) (sAt "Tree" "flow" (aI 0)) (bN (d2 oIx (ac 11) (dC (.int 1)))) (bN (dIf (dB (d2 oIx (ac 11) (dC (.int 2)))) (ac 9) (d1 m6 (ac 9)))))
noncomputable def jK:SL.SG:=(bo (cF 2 (br (d2 oIx (d1 (aV "Tree" "rules") (ac 0)) (ac 1))))
  (bo (cF 3 (br (d2 oGt (dMe "Tree" "lack_of" (λds=>noX (bU ds)) (ac 0) (ae (ac 1) ak)) `DY)))
  (bo (cF 4 (bN (dIf (dB (ac 3)) (d2 oIx (ac 2) `DY) (d2 oIx (ac 2) (dC (.int 1))))))
  (bo (cF 5 (bN (dIf (dB (ac 3)) (d2 oIx (ac 2) (dC (.int 1))) (d2 oIx (ac 2) `DY))))
  (bo (cF 6 (br (dMe "Tree" "meeting" (λds=>noX (eJ ds)) (ac 0) (ae (ac 4) (ae (ac 5) ak)))))
  (bo (cF 7 (gW (cq 1 [0] (tgN 0) (iF (dMe "Tree" "way" (λds=>noX (gG ds)) (ac 0) (ae (ac 4) (ae (ac 6) ak)))) eU (dMe "Tree" "step_down" (λds=>noX (cx ds)) (ac 1) (ae (ac 0) ak)))))
  (bo (cF 8 (gW (cq 1 [0] (tgN 0) (iF (dMe "Tree" "way" (λds=>noX (gG ds)) (ac 0) (ae (ac 5) (ae (ac 6) ak)))) eU (dMe "Tree" "step_up" (λds=>noX (cZ ds)) (ac 1) (ae (ac 0) ak)))))
  (bo (cF 9 (br (d2 oIx (d1 (aV "Tree" "bounds") (ac 0)) (ac 1))))
  (bo (cF 10 (bN (dC .none)))
  (bo (gX false (agN 11) (aI 7) ib)
  (bo (gX false (agN 11) (aI 8) ia)
  (bo (gX false (agN 11) (gl (jB (gI (jB (gI (cj (ae (bM (ae (dC .none) (ae (ac 1) (ae (ac 3) ak)))) ak))) (ac 7))) (ac 8))) fy)
  (sIf (gK (dB (d2 gZ (ac 10) (dC .none)))) (il (lf "Tree" "hang" c9 (aI 0) (bZ (bN (d2 oIx (ac 10) `DY)) (bZ (bN (d2 oIx (ac 10) (dC (.int 1)))) (bZ (aI 1) iP))))) jv)))))))))))))
noncomputable def gh:List SL.Val->SL.Sto->SL.R (SL.Val×SL.Sto):=SL.kK 12 jK
noncomputable def dE:SL.SG:=(bo (il (lf "Tree" "mend" gh (aI 0) (bZ (aI 1) iP)))
  (cF 1 (lf "Tree" "wrong_rule" bV (aI 0) iP)))
noncomputable def kE:SL.SG:=(bo (cF 1 (lf "Tree" "wrong_rule" bV (aI 0) iP))
  (df (gK (dB (d2 gZ (ac 1) (dC .none)))) dE))
noncomputable def eK:List SL.Val->SL.Sto->SL.R (SL.Val×SL.Sto):=SL.kK 2 kE
noncomputable def kD:DS->M Out:=(ck (d2 bf (d2 gH (dC (.int 2)) (ac 0)) (dC (.int 1))))
noncomputable def aT:List D->M D:=run 1 kD
noncomputable def mO:DS->M Out:=(ck (d2 bf (d2 gH (dC (.int 2)) (ac 0)) (dC (.int 2))))
noncomputable def bP:List D->M D:=run 1 mO
noncomputable def kB:DS->M Out:=(dS (bq (aG (λds=>noX (aT ds)) (ae (ac 2) ak)) (tgN 3))
  (dS (bq (aG (λds=>noX (bP ds)) (ae (ac 2) ak)) (tgN 4))
  (dS (bq (dCB m8 (ae (d2 bE (ac 0) (dC (.str "least"))) (ae (d2 gH (d2 bE (ac 0) (dC (.str "sign"))) (dCB dM (ae (d2 oIx (ac 1) (dC (.int 3))) ak))) ak))) (tgN 5))
  (ck (dNF (cj (ae (bM (ae `DY (ae (ac 3) (ae `DY (ae (dC .none) (ae (bM (ae (dC (.str "start")) (ae (ac 2) ak))) ak)))))) (ae (bM (ae (ac 3) (ae (ac 4) (ae (ac 5) (ae (dC .none) (ae (bM (ae (dC (.str "long")) (ae (ac 2) ak))) ak)))))) (ae (bM (ae (ac 4) (ae (ac 3) (ae (d1 m6 (d2 bE (ac 0) (dC (.str "most")))) (ae (dC .none) (ae (bM (ae (dC (.str "most")) (ae (ac 2) ak))) ak)))))) ak)))))))))
noncomputable def dr:List D->M D:=run 6 kB
noncomputable def tS:DS->M Out:=(dS (bq (aG (λds=>noX (aT ds)) (ae (ac 2) ak)) (tgN 3))
  (dS (bq (aG (λds=>noX (bP ds)) (ae (ac 2) ak)) (tgN 4))
  (dS (bq (bM (ae (dC (.str "wish")) (ae (ac 2) ak))) (tgN 5))
  (ck (dNF (cj (ae (bM (ae `DY (ae (ac 3) (ae (d2 oIx (ac 1) `DY) (ae (d2 bE (ac 0) (dC (.str "begin"))) (ae (ac 5) ak)))))) (ae (bM (ae (ac 3) (ae `DY (ae (d1 m6 (d2 oIx (ac 1) `DY)) (ae (d2 bE (ac 0) (dC (.str "begin"))) (ae (ac 5) ak)))))) (ae (bM (ae `DY (ae (ac 4) (ae (d2 oIx (ac 1) (dC (.int 1))) (ae (d2 bE (ac 0) (dC (.str "end"))) (ae (ac 5) ak)))))) (ae (bM (ae (ac 4) (ae `DY (ae (d1 m6 (d2 oIx (ac 1) (dC (.int 1)))) (ae (d2 bE (ac 0) (dC (.str "end"))) (ae (ac 5) ak)))))) ak))))))))))
noncomputable def jU:List D->M D:=run 6 tS
noncomputable def iH:DS->M Out:=(gIf (dB (d2 oEq (d2 oIx (d2 oIx (ac 1) (d2 bf (ac 2) (ac 5))) (dC (.int 2))) (d2 oIx (d2 oIx (ac 1) (ac 2)) (dC (.int 2))))) (aH (bq (d2 bf (ac 3) (ac 5)) (tgN 6))
  (aH (ki 4 (bM (ae (aG (λds=>noX (bP ds)) (ae (ac 3) ak)) (ae (aG (λds=>noX (aT ds)) (ae (ac 6) ak)) (ae (d2 bE (ac 0) (dC (.str "apart"))) (ae (dC .none) (ae (bM (ae (dC (.str "apart")) (ae (ac 3) (ae (ac 6) ak)))) ak)))))))
  o3)) cP)
noncomputable def gz:DS->M Out:=(dS (jk 4 (cj ak))
  (dS (gIf (dB (d2 oLt (d2 bf (ac 2) (dC (.int 1))) (dCB dM (ae (ac 1) ak)))) (ki 4 (bM (ae (aG (λds=>noX (aT ds)) (ae (ac 3) ak)) (ae (aG (λds=>noX (aT ds)) (ae (d2 bf (ac 3) (dC (.int 1))) ak)) (ae `DY (ae (dC .none) (ae (bM (ae (dC (.str "order")) (ae (ac 3) (ae (d2 bf (ac 3) (dC (.int 1))) ak)))) ak))))))) cP)
  (dS (fN (jo w6 (ae (dC (.int 1)) (ae (d2 gY (dCB dM (ae (ac 1) ak)) (ac 2)) ak))) (tgN 5) iH)
  (oZ 4))))
noncomputable def cX:List D->M D:=run 7 gz
noncomputable def jD:DS->M Out:=(dS (bq (aG (λds=>noX (aT ds)) (ae (ac 2) ak)) (tgN 5))
  (dS (bq (aG (λds=>noX (bP ds)) (ae (ac 2) ak)) (tgN 6))
  (xD (jT (dB (d2 mr (d2 oIx (ac 1) `DY) (d2 gY (ac 4) (ac 0)))) (dB (d2 mr (d2 bf (ac 4) (ac 0)) (d2 oIx (ac 1) (dC (.int 1)))))) (ck (dNF (cj (ae (bM (ae (ac 5) (ae `DY (ae (d2 gY (ac 0) (ac 4)) (ae (dC .none) (ae (bM (ae (dC (.str "early")) (ae (ac 2) (ae (ac 3) ak)))) ak)))))) (ae (bM (ae `DY (ae (ac 6) (ae (d2 bf (ac 4) (ac 0)) (ae (dC .none) (ae (bM (ae (dC (.str "late")) (ae (ac 2) (ae (ac 3) ak)))) ak)))))) ak)))))
  (xD (dB (d2 mr (d2 bf (d2 oIx (ac 1) `DY) (d2 oIx (ac 1) (dC (.int 1)))) (d2 gH (dC (.int 2)) (ac 4)))) (ck (dNF (cj (ae (bM (ae (ac 6) (ae `DY (ae (d1 m6 (ac 4)) (ae (dC .none) (ae (bM (ae (dC (.str "ahead")) (ae (ac 2) (ae (ac 3) ak)))) ak)))))) ak))))
  (ck (dNF (cj (ae (bM (ae `DY (ae (ac 5) (ae (ac 4) (ae (dC .none) (ae (bM (ae (dC (.str "behind")) (ae (ac 2) (ae (ac 3) ak)))) ak)))))) ak))))))))
noncomputable def cv:List D->M D:=run 7 jD
noncomputable def l5:DS->M Out:=(lL 4 (nF (aG (λds=>noX (cv ds)) (ae (d2 bE (ac 0) (dC (.str "shy"))) (ae (ac 6) (ae (ac 7) (ae (ac 8) (ae (ac 9) ak))))))))
noncomputable def l4:DS->M Out:=(aH (bq (d2 bf (ac 3) (ac 5)) (tgN 7))
  (aH (lL 4 (nF (aG (λds=>noX (dr ds)) (ae (ac 0) (ae (ac 6) (ae (ac 7) ak))))))
  (aH (lL 4 (nF (aG (λds=>noX (jU ds)) (ae (ac 0) (ae (ac 6) (ae (ac 7) ak))))))
  (aH (lL 4 (nF (aG (λds=>noX (cX ds)) (ae (ac 0) (ae (ac 1) (ae (ac 5) (ae (ac 7) ak)))))))
  (fN (jm (ae (ac 2) ak)) (dk 2 (aR (tgN 8) (aR (tgN 9) dm))) l5)))))
noncomputable def kR:DS->M Out:=(aH (jk 4 (cj ak))
  (aH (fN (jm (ae (ac 1) ak)) (dk 2 (aR (tgN 5) (aR (tgN 6) dm))) l4)
  (mS 4)))
noncomputable def dN:List D->M D:=run 10 kR
noncomputable def eg:DS->M Out:=(bq (d2 oIx (d2 oIx (ac 0) (d2 oIx (ac 1) (ac 2))) `DY) (tgN 2))
noncomputable def d6:DS->M Out:=(aH (ki 4 (d2 oIx (ac 1) (ac 5)))
  (bq (d2 oIx (d2 oIx (ac 0) (d2 oIx (ac 1) (ac 5))) `DY) (tgN 5)))
noncomputable def iZ:DS->M Out:=(aH (fN (jo fJ (ae (dCB dM (ae (ac 1) ak)) ak)) (tgN 3) eg)
  (aH (jk 4 (cj (ae (d2 oIx (ac 1) (ac 2)) ak)))
  (aH (bq (d2 oIx (d2 oIx (ac 0) (d2 oIx (ac 1) (ac 2))) `DY) (tgN 5))
  (aH (cO (dB (d2 oNe (ac 5) (ac 2))) d6)
  (Dj 4 (ck (dCB oH (ae (ac 4) ak))))))))
noncomputable def eC:List D->M D:=run 6 iZ
noncomputable def cu:SL.SG:=(sIf (gK (jT (dB (aG (λds=>noX (bj ds)) (ae (ac 5) ak))) (dB (d2 oGt (d2 bf (d2 oIx (ac 1) (d2 oIx (ac 5) `DY)) (d2 oIx (ac 5) (dC (.int 2)))) (d2 oIx (ac 1) (d2 oIx (ac 5) (dC (.int 1)))))))) (bo (pS 1 (bN (d2 oIx (ac 5) (dC (.int 1)))) (sD (d2 bf (d2 oIx (ac 1) (d2 oIx (ac 5) `DY)) (d2 oIx (ac 5) (dC (.int 2))))))
  (bo (pS 2 (bN (d2 oIx (ac 5) (dC (.int 1)))) (aI 4))
  (cF 3 (bN (d2 oIx (ac 5) (dC (.int 1))))))) jv)
noncomputable def jE:SL.SG:=(bo (cF 3 (bN (dC .none)))
  (bo (wX (jm (ae (ac 0) ak)) (mW 2 (et (agN 4) (et (agN 5) mX))) cu)
  (sC (aI 3))))
noncomputable def cE:List SL.Val->SL.Sto->SL.R (SL.Val×SL.Sto):=SL.kK 6 jE
noncomputable def dP:SL.SG:=(bo (cF 5 (og cE (bZ (aI 1) (bZ (aI 2) (bZ (aI 3) iP)))))
  (sIf (gK (dB (d2 oIs (ac 5) (dC .none)))) (oe (bM (ae (dC (.str "kept")) (ae (cq 1 [2] (tgN 0) (iF (ac 2)) eU (d2 gY (ac 0) (d2 oIx (ac 1) `DY))) ak)))) jv))
noncomputable def qo:SL.SG:=(bo (pU 2 (rp (cj (ae `DY ak)) (d2 bf (ac 0) (dC (.int 1)))))
  (bo (pU 3 (rp (cj (ae (dC .none) ak)) (d2 bf (ac 0) (dC (.int 1)))))
  (bo (wX (jo fJ (ae (d2 bf (ac 0) (dC (.int 1))) ak)) (agN 4) dP)
  (oe (bM (ae (dC (.str "ring")) (ae (aG (λds=>noX (eC ds)) (ae (ac 1) (ae (ac 3) (ae (ac 5) ak)))) ak)))))))
noncomputable def dO:List SL.Val->SL.Sto->SL.R (SL.Val×SL.Sto):=SL.kK 6 qo
noncomputable def dR:SL.SG:=(bo (cF 2 (og dO (bZ (aI 0) (bZ (aI 1) iP))))
  (bo (sIf (gK (dB (d2 oEq (d2 oIx (ac 2) `DY) (dC (.str "ring"))))) (sC (aI 2)) jv)
  (bo (cF 3 (sMk "Tree" gi (bZ (bN (d2 oIx (ac 2) (dC (.int 1)))) (bZ (aI 1) iP))))
  (bo (il (lf "Tree" "settle" eK (aI 3) iP))
  (pT (bM (ae (dC (.str "timed")) (ae (dMe "Tree" "timing" (λds=>noX (fA ds)) (ac 3) ak) (ae (dMe "Tree" "flow_of_rules" (λds=>noX (bI ds)) (ac 3) ak) ak)))))))))
noncomputable def dH:List SL.Val->SL.Sto->SL.R (SL.Val×SL.Sto):=SL.kK 4 dR
noncomputable def cw:List D->M D:=SL.asD dH
noncomputable def kC:DS->M Out:=(aH (bq (aG (λds=>noX (cw ds)) (ae (d2 gH (dC (.int 2)) (ac 0)) (ae (ac 1) ak))) (tgN 2))
  (aH (gIf (dB (d2 oEq (d2 oIx (ac 2) `DY) (dC (.str "ring")))) uS cP)
  (ck (d2 oIx (ac 2) (dC (.int 1))))))
noncomputable def fz:List D->M D:=run 3 kC
noncomputable def tT:DS->M Out:=(ck (bM (ae (d2 oIx (ac 0) (aG (λds=>noX (aT ds)) (ae (ac 2) ak))) (ae (d2 oIx (ac 0) (aG (λds=>noX (bP ds)) (ae (ac 2) ak))) (ae (d2 oIx (ac 1) (dC (.int 2))) (ae (d2 oIx (ac 1) (dC (.int 3))) ak))))))
noncomputable def jV:List D->M D:=run 3 tT
noncomputable def qr:DS->M Out:=(ck (cq 2 [0] (dk 2 (aR (tgN 0) (aR (tgN 1) dm))) (pf (ae (ac 1) ak) (ac 2)) eU (aG (λds=>noX (jV ds)) (ae (ac 2) (ae (ac 1) (ae (ac 0) ak))))))
noncomputable def iJ:List D->M D:=run 3 qr
noncomputable def lC:DS->M Out:=(aH (bq (aG (λds=>noX (fz ds)) (ae (dCB dM (ae (ac 1) ak)) (ae (aG (λds=>noX (dN (ds++[.int 0]))) (ae (ac 0) (ae (ac 1) (ae (ac 2) ak)))) ak))) (tgN 3))
  (ck (aG (λds=>noX (iJ ds)) (ae (ac 3) (ae (ac 1) (ae `DY ak))))))
noncomputable def ge:List D->M D:=run 4 lC
end CT
open L2 DL
open NumText
namespace TX
noncomputable def S(l:List Nat):Str:=⟨l.toArray⟩
theorem S_len(l:List Nat):(S l).length=l.length:=by rfl
decreasing_by omega
end TX
namespace DL
section
theorem lM(h1:f δ=M.ret x)(h2:fl δ=M.ret lo)(h3:fh δ=M.ret hi)(h4:mJ lo hi x=some d):lW f fl fh δ=M.ret d:=by
 unfold lW;rw[h1,ay,h2,ay,h3,ay,h4];rfl
theorem vQ:mr (.int i) (.int j)=some (.bool (decide (i<=j))):=rfl
theorem o_eqS(ha:U3 a=true)(hb:U3 b=true):oEq (.str a) (.str b)=some (.bool (a==b)):=by
 unfold oEq flat
 simp [V1,PyData.depth,V4,ha,hb]
end
end DL
namespace TX
noncomputable def pre(c:Nat)(l:List Nat):List Nat:=l.takeWhile (· != c)
noncomputable def post(c:Nat)(l:List Nat):List Nat:=(l.dropWhile (· != c)).drop 1
end TX
open CT TX
namespace TX
theorem lenT(h:l.length<=1000):dM [.str (S l)]=some (.int ((l.length:Nat):Int)):=by
 show(if aJ (S l).length=true then _ else _)=_
 rw[S_len,if_pos (aF `am)]
end TX
namespace DL
section
theorem AI(h1:t d δ=some δ')(hc:c δ'=M.ret true)(h2:f δ'=M.ret y)(h3:cz t (nX c) (nX f) ds δ'=M.ret ys):cz t (nX c) (nX f) (d::ds) δ=M.ret (y::ys):=by
 show(M.lift (t d δ)).thn _=_
 rw[h1,mw,ay]
 show(noX (c δ')).thn _=_
 rw[hc]
 show(noX (f δ')).thn _=_
 rw[h2]
 rw[h3]
 rfl
theorem AJ(h1:t d δ=some δ')(hc:c δ'=M.ret false)(h3:cz t (nX c) (nX f) ds δ'=M.ret ys):cz t (nX c) (nX f) (d::ds) δ=M.ret ys:=by
 show(M.lift (t d δ)).thn _=_
 rw[h1,mw,ay]
 show(noX (c δ')).thn _=_
 rw[hc]
 exact h3
end
theorem ba{T:List Int}{i:Nat}(h:i<T.length):oIx (.list (T.map ζ)) (.int (i:Int))=some (.int (T.getD i 0)):=by
 refine oQ `am ?_
 simp_all
theorem Dd(l:List Int):iX (l.map ζ)=some l:=by
 induction l with
 | nil=>rfl
 | cons a r ih=>show(iX (r.map ζ)).map (a :: ·)=_;simp_all
theorem cm(h1:body d δ=M.ret (.nx δ'))(h2:iB body ds δ'=r):iB body (d::ds) δ=r:=by
 show(body d δ).thn _=_
 rw[h1]
 exact h2
section
end
end DL
namespace CT
noncomputable def jn(c:Nat):List (List Nat)->List Nat
 | []=>[]
 | [a]=>a
 | a::b::r=>a++c::jn c (b::r)
noncomputable def tot:List (List Nat)->Nat
 | []=>0
 | a::r=>a.length+1+tot r
theorem qI(a b:List (List Nat)):tot (a++b)=tot a+tot b:=by
 induction a with
 | nil=>simp [tot]
 | cons x a ih=>rw[List.cons_append,tot,tot,ih];omega
abbrev tx(l:List Nat):D:=.str (S l)
structure Rl where
 lo:Nat
 hi:Nat
 le:Int
 w:Option Int
 why:D
noncomputable def wD:Option Int->D
 | none=>.none
 | some w=>.int w
noncomputable def rl(r:Rl):D:=.tuple [.int (r.lo:Int),.int (r.hi:Int),.int r.le,wD r.w,r.why]
noncomputable def lk(T:List Int)(r:Rl):Int:=max 0 (r.le-(T.getD r.hi 0-T.getD r.lo 0))
def Pts(n:Nat)(rs:List Rl):Prop:=∀r∈rs,r.lo<n/\r.hi<n
theorem rE(r:Rl):bj [rl r]=M.ret (.bool r.w.isNone):=by
 refine bh ?_
 refine bX (ag (ag `on aj rfl) aj ?_)
 cases r.w<;>rfl
noncomputable def brk(T:List Int):Nat->List Rl->List Int
 | _,[]=>[]
 | k,r::rs=>if r.w.isNone=true/\0<lk T r then (k:Int)::brk T (k+1) rs else brk T (k+1) rs
theorem iD:∀(n:Nat) (xs:List D) (i:Nat),(bH n xs)[i]?=xs[i]?.map λx=>.tuple [.int ((n+i:Nat):Int),x]
 | n,[],i=>by rfl
 | n,x::xs,0=>by rfl
 | n,x::xs,i+1=>by
  rw[bH,List.getElem?_cons_succ,List.getElem?_cons_succ,iD (n+1) xs i,show n+1+i=n+(i+1) by omega]
end CT
namespace DL
theorem xR(xs:List α)(n:Nat):nk xs none (some (n:Int))=xs.take n:=by
 unfold nk
 rw[HT.yF,HT.BN,List.drop_zero,Nat.sub_zero]
 simp
theorem o_sumG(l:List Int):sW [.list (l.map ζ)]=some (.int l.sum):=by
 show(iX (l.map ζ)).map _=_
 rw[Dd]
 rfl
noncomputable def mC:List Int->List Int->Bool
 | _,[]=>true
 | acc,a::l=>!(acc.any (·==a))&&mC (acc++[a]) l
end DL
namespace CT
noncomputable def loI(r:Rl):Int:=(r.lo:Int)
noncomputable def hiI(r:Rl):Int:=(r.hi:Int)
noncomputable def noW(r:Rl):Bool:=r.w.isNone
noncomputable def leI(r:Rl):Int:=r.le
noncomputable def yK(q:List Rl):Bool:=decide (q.map hiI=(q.map loI).drop 1++(q.map loI).take 1)&&mC [] (q.map loI)&&(q.all noW&&decide (0<(q.map leI).sum))
noncomputable def okE(n:Nat):D->Bool
 | .int i=>decide (0<=i)&&decide (i<(n:Int))
 | _=>false
noncomputable def r0:Rl:=⟨0,0,0,none,.none⟩
noncomputable def atR(rs:List Rl):D->Rl
 | .int i=>rs.getD i.toNat r0
 | _=>r0
noncomputable def pX(rs:List Rl)(ds:List D):Bool:=!ds.isEmpty&&(ds.all (okE rs.length)&&yK (ds.map (atR rs)))
structure KS where
 T:List Int
 Z:List (Option Nat)
 z:Option Nat
noncomputable def KS.t(s:KS)(v:Nat):Int:=s.T.getD v 0
noncomputable def stp(j:Nat)(r:Rl)(s:KS):KS :=
 if r.w=none/\s.t r.hi<s.t r.lo+r.le then ⟨s.T.set r.hi (s.t r.lo+r.le),s.Z.set r.hi (some j),some r.hi⟩ else s
noncomputable def iu:Nat->List Rl->KS->KS
 | _,[],s=>s
 | j,r::q,s=>iu (j+1) q (stp j r s)
noncomputable def eM(rs:List Rl):Nat->KS->Bool×KS
 | 0,s=>(false,s)
 | m+1,s=>if (iu 0 rs { s with z:=none }).z=none then (true,iu 0 rs { s with z:=none }) else eM rs m (iu 0 rs { s with z:=none })
noncomputable def pH(R k i j:Nat):Nat:=if j<i then k*R+j+1 else k*R+j+1-R
structure KInv(n:Nat)(rs:List Rl)(k i:Nat)(st:Nat->Nat)(s:KS):Prop where
 lT:s.T.length=n
 lZ:s.Z.length=n
 ev:∀v,st v<=k*rs.length+i
 zr:∀v,v<n->0<st v->∃j r,s.Z[v]?=some (some j)/\rs[j]?=some r/\r.w=none/\r.hi=v/\(s.t v<s.t r.lo+r.le\/(s.t v=s.t r.lo+r.le/\st r.lo<st v))/\st v<=st r.lo+rs.length
 ex:∀j r,rs[j]?=some r->r.w=none->st r.lo<pH rs.length k i j->s.t r.lo+r.le<=s.t r.hi
 zp:∀p,s.z=some p->p<n/\k*rs.length<st p
 zn:s.z=none->∀j r,j<i->rs[j]?=some r->r.w=none->s.t r.lo+r.le<=s.t r.hi
theorem Aw{l:List Int}{i v:Nat}{x:Int}(h:i<l.length):(l.set i x).getD v 0=if v=i then x else l.getD v 0:=by
 grind
theorem Bw{n:Nat}{rs:List Rl}{k i:Nat}{st:Nat->Nat}{s:KS}{r:Rl}(hp:Pts n rs)(I:KInv n rs k i st s)(hr:rs[i]?=some r):∃st',KInv n rs k (i+1) st' (stp i r s):=by
 obtain⟨hlo,hhi⟩:=hp r (Z9 hr)
 have hex:∀j,j≠i->pH rs.length k (i+1) j=pH rs.length k i j:=λj hj=>by
  unfold pH
  grind
 unfold stp
 by_cases hc:r.w=none/\s.t r.hi<s.t r.lo+r.le
 ·rw[if_pos hc]
  obtain⟨hw,hlt⟩:=hc
  have hge:pH rs.length k i i<=st r.lo:=by
   apply Nat.le_of_not_lt
   intro z
   have:=I.ex i r hr hw z
   omega
  have hge2:k*rs.length+i+1<=st r.lo+rs.length:=by
   unfold pH at hge
   simp_all
  obtain⟨s',hs'⟩:∃s':KS,s'=⟨s.T.set r.hi (s.t r.lo+r.le),s.Z.set r.hi (some i),some r.hi⟩:=⟨_,rfl⟩
  rw[<-hs']
  have ht:∀v,s'.t v=if v=r.hi then s.t r.lo+r.le else s.t v:=λv=>by
   rw[hs']
   exact Aw (by rw[I.lT];exact hhi)
  have hZ:∀v,v≠r.hi->s'.Z[v]?=s.Z[v]?:=λv hv=>by
   grind
  have hZ0:s'.Z[r.hi]?=some (some i):=by
   rw[hs']
   rw[List.getElem?_set,if_pos rfl,if_pos (by rw[I.lZ];exact hhi)]
  have hst:= I.ev
  refine⟨λv=>if v=r.hi then k*rs.length+i+1 else st v,⟨?_,?_,λv=>?_,λv hv h0=>?_,λj q hj hq hlt2=>?_,λp hz=>?_,λhz=>?_⟩⟩
  ·rw[hs'];rw[Λ];exact I.lT
  ·rw[hs'];rw[Λ];exact I.lZ
  ·grind
  ·by_cases e:v=r.hi
   ·grind
   ·rw[if_neg e] at h0 ⊢
    obtain⟨j,q,h1,h2,h3,h4,h5,h6⟩:=I.zr v hv h0
    refine⟨j,q,by simp_all,h2,h3,h4,?_,?_⟩
    all_goals grind
  ·rw[ht,ht]
   by_cases e2:q.lo=r.hi
   ·rw[if_pos e2] at hlt2
    have:pH rs.length k (i+1) j<=k*rs.length+i+1:=by
     have hjl:= (ρ.mp hj).1
     unfold pH
     grind
    omega
   ·rw[if_neg e2] at hlt2 ⊢
    by_cases ej:j=i
    ·simp_all
    ·rw[hex j ej] at hlt2
     have:=I.ex j q hj hq hlt2
     grind
  all_goals grind
 ·rw[if_neg hc]
  have hkeep:r.w=none->s.t r.lo+r.le<=s.t r.hi:=λhw=>by
   simp_all
  refine⟨st,I.lT,I.lZ,λv=>by have:=I.ev v;omega,I.zr,λj q hj hq hlt=>?_,I.zp,λhz j q hj hq hw=>?_⟩
  ·by_cases ej:j=i
   ·simp_all
   ·rw[hex j ej] at hlt
    exact I.ex j q hj hq hlt
  ·by_cases ej:j=i
   ·simp_all
   ·exact I.zn hz j q `am hq hw
theorem sT(hp:Pts n rs):∀(q:List Rl) (i:Nat) (st:Nat->Nat) (s:KS),rs.drop i=q->KInv n rs k i st s->∃st',KInv n rs k (i+q.length) st' (iu i q s)
 | [],i,st,s,_,I=>⟨st,I⟩
 | r::q,i,st,s,hq,I=>by
  have hr:rs[i]?=some r:=by
   have:=congrArg List.head? hq
   rw[List.head?_drop] at this
   exact this
  have hq':rs.drop (i+1)=q:=by rw[<-U4,hq];rfl
  obtain⟨st1,I1⟩:=Bw hp I hr
  obtain⟨st2,I2⟩:=sT hp q (i+1) st1 _ hq' I1
  refine⟨st2,?_⟩
  rw[Φ,show i+(q.length+1)=i+1+q.length by omega]
  exact I2
theorem KInv.next(I:KInv n rs k rs.length st s):KInv n rs (k+1) 0 st { s with z:=none }:=by
 have e:(k+1)*rs.length=k*rs.length+rs.length:=Nat.succ_mul _ _
 refine⟨I.lT,I.lZ,λv=>by have:=I.ev v;omega,I.zr,λj r hj hr hlt=>I.ex j r hj hr ?_,(λp h=>nomatch h),λ_ j r h=>absurd h (Y8 j)⟩
 have hjl:j<rs.length:=(ρ.mp hj).1
 unfold pH at hlt ⊢
 rw[if_pos hjl]
 rw[if_neg (Y8 j)] at hlt
 omega
def m4(t:Nat->Int)(rs:List Rl):Prop:=∀r∈rs,r.w=none->t r.lo+r.le<=t r.hi
theorem tK(hp:Pts n rs):∀(m k:Nat) (st:Nat->Nat) (s:KS),KInv n rs k 0 st { s with z:=none }->∃b s',eM rs m s=(b,s')/\(b=true->s'.T.length=n/\m4 s'.t rs)/\(b=false->(m=0/\s'=s)\/∃st' p,KInv n rs (k+m-1) rs.length st' s'/\s'.z=some p)
 | 0,k,st,s,I=>⟨false,s,rfl,λh=>(nomatch h),λ_=>.inl ⟨rfl,rfl⟩⟩
 | m+1,k,st,s,I=>by
  obtain⟨st1,I1⟩:=sT hp rs 0 st _ rfl I
  rw[W1] at I1
  rw[eM]
  obtain⟨s1,hs1⟩:∃s1,s1=iu 0 rs { s with z:=none }:=⟨_,rfl⟩
  rw[<-hs1] at I1 ⊢
  cases hz:s1.z with
  | none =>
   refine⟨true,s1,rfl,λ_=>⟨I1.lT,λr hr hw=>?_⟩,λh=>(nomatch h)⟩
   obtain⟨j,hj⟩:=List.mem_iff_getElem?.mp hr
   exact I1.zn hz j r (ρ.mp hj).1 hj hw
  | some p =>
   obtain⟨b,s',h1,h2,h3⟩:=tK hp m (k+1) st1 s1 I1.next
   refine⟨b,s',h1,h2,λhb=>.inr ?_⟩
   rcases h3 hb with ⟨h4,h5⟩ | ⟨st',p',h4,h5⟩
   ·subst h4 h5
    grind
   grind
noncomputable def ku(rs:List Rl)(Z:List (Option Nat))(v:Nat):Nat:=match Z[v]? with
 | some (some j)=>match rs[j]? with
  | some r=>r.lo
  | none=>0
 | _=>0
noncomputable def ups(rs:List Rl)(Z:List (Option Nat)):Nat->Nat->Nat
 | 0,v=>v
 | i+1,v=>ku rs Z (ups rs Z i v)
theorem eZ(rs:List Rl)(Z:List (Option Nat))(v:Nat)(i:Nat):∀j,ups rs Z (i+j) v=ups rs Z j (ups rs Z i v)
 | 0=>rfl
 | j+1=>by rw[<-Nat.add_assoc,ups,eZ rs Z v i j,ups]
structure Raised(n:Nat)(rs:List Rl)(s:KS)(st:Nat->Nat)(v:Nat):Prop where
 lt:v<n
 ex:∃j r,s.Z[v]?=some (some j)/\rs[j]?=some r/\r.w=none/\r.hi=v/\ku rs s.Z v=r.lo/\(s.t v<s.t r.lo+r.le\/(s.t v=s.t r.lo+r.le/\st r.lo<st v))/\st v<=st r.lo+rs.length
theorem KInv.raised(I:KInv n rs k i st s)(hv:v<n)(h:0<st v):Raised n rs s st v:=by
 obtain⟨j,r,h1,h2,h3,h4,h5,h6⟩:=I.zr v hv h
 refine⟨hv,j,r,h1,h2,h3,h4,?_,h5,h6⟩
 unfold ku
 simp_all
theorem yV:∀(n:Nat) (f:Nat->Nat),(∀i,i<=n->f i<n)->∃a b,a<b/\b<=n/\f a=f b
 | 0,f,h=>absurd (h 0 (ξ 0)) (Y8 _)
 | n+1,f,h=>by
  by_cases hx:∃i,i<=n/\f i=f (n+1)
  ·obtain⟨i,h1,h2⟩:=hx
   exact⟨i,n+1,by omega,ξ _,h2⟩
  ·
   obtain⟨a,b,h1,h2,h3⟩:=yV n (λi=>if f i=n then f (n+1) else f i) λi hi=>by
    grind
   refine⟨a,b,h1,by omega,?_⟩
   grind
theorem BS(hp:Pts n rs)(I:KInv n rs k rs.length st s)(hz:s.z=some p)(hn:n<=k+1) :
  (∀i,i<n->Raised n rs s st (ups rs s.Z i p))/\∃c,0<c/\c<=n/\ups rs s.Z c (ups rs s.Z n p)=ups rs s.Z n p/\∀i,Raised n rs s st (ups rs s.Z i (ups rs s.Z n p)):=by
 obtain⟨h1,h2⟩:=I.zp p hz
 have hst:∀i,i<=k+1->(k+1-i)*rs.length<st (ups rs s.Z i p)+rs.length/\ups rs s.Z i p<n:=by
  intro i
  induction i with
  | zero =>
   intro _
   refine⟨?_,h1⟩
   show(k+1)*rs.length<st p+_
   grind
  | succ i ih =>
   intro hi
   obtain⟨g1,g2⟩:=ih `am
   have g3:0<st (ups rs s.Z i p):=by
    have:rs.length<=(k+1-i)*rs.length:=Nat.le_mul_of_pos_left _ `am
    omega
   obtain⟨_,j,r,e1,e2,e3,e4,e5,e6,e7⟩:=I.raised g2 g3
   rw[ups,e5]
   refine⟨?_,(hp r (Z9 e2)).1⟩
   have:(k+1-i)*rs.length=(k+1-(i+1))*rs.length+rs.length:=by
    rw[<-Nat.succ_mul]
    grind
   omega
 have hr:∀i,i<n->Raised n rs s st (ups rs s.Z i p):=λi hi=>by
  obtain⟨g1,g2⟩:=hst i `am
  refine I.raised g2 ?_
  have:rs.length<=(k+1-i)*rs.length:=Nat.le_mul_of_pos_left _ `am
  omega
 refine⟨hr,?_⟩
 obtain⟨a,b,hab,hbn,he⟩:=yV n (λi=>ups rs s.Z i p) λi hi=>(hst i `am).2
 have e1:∀t,ups rs s.Z (a+t) p=ups rs s.Z (b+t) p:=λt=>by rw[eZ,eZ,he]
 have e2:ups rs s.Z (n-(b-a)) p=ups rs s.Z n p:=by
  have:=e1 (n-b)
  rw[show b+(n-b)=n by omega,show a+(n-b)=n-(b-a) by omega] at this
  omega
 have e3:ups rs s.Z (b-a) (ups rs s.Z n p)=ups rs s.Z n p:=by
  have h:=eZ rs s.Z p (n-(b-a)) (b-a)
  rw[e2,show n-(b-a)+(b-a)=n by omega] at h
  omega
 have e4:∀q,ups rs s.Z (q*(b-a)) (ups rs s.Z n p)=ups rs s.Z n p:=by
  intro q
  induction q with
  | zero=>rw[Nat.zero_mul];rfl
  | succ q ih=>rw[Nat.succ_mul,eZ,ih,e3]
 refine⟨b-a,by omega,by omega,e3,λi=>?_⟩
 have hc:0<b-a:=by omega
 have e5:ups rs s.Z i (ups rs s.Z n p)=ups rs s.Z (i % (b-a)) (ups rs s.Z n p):=by
  have h:=eZ rs s.Z (ups rs s.Z n p) ((b-a)*(i / (b-a))) (i % (b-a))
  rw[Nat.div_add_mod,Nat.mul_comm,e4] at h
  exact h
 rw[e5,<-e2,<-eZ]
 have:=Nat.mod_lt i hc
 grind
noncomputable def m5(rs:List Rl)(Z:List (Option Nat)):Nat->Nat->Int
 | 0,_=>0
 | i+1,v=>m5 rs Z i v+(match Z[ups rs Z i v]? with | some (some j)=>(match rs[j]? with | some r=>r.le | none=>0) | _=>0)
theorem Bu(hr:∀i,Raised n rs s st (ups rs s.Z i q))(hm:0<m)(he:ups rs s.Z m q=q):0<m5 rs s.Z m q:=by
 have main:∀i,(i=0/\m5 rs s.Z i q=0)\/(s.t q<s.t (ups rs s.Z i q)+m5 rs s.Z i q\/(s.t q=s.t (ups rs s.Z i q)+m5 rs s.Z i q/\st (ups rs s.Z i q)<st q)):=by
  intro i
  induction i with
  | zero=>exact .inl ⟨rfl,rfl⟩
  | succ i ih =>
   obtain⟨_,j,r,e1,e2,e3,e4,e5,e6,e7⟩:=hr i
   refine .inr ?_
   have hs:m5 rs s.Z (i+1) q=m5 rs s.Z i q+r.le:=by
    rw[m5,e1]
    simp_all
   rw[hs,ups,e5]
   rcases ih with ⟨rfl,ih⟩ | ih
   ·have e6:s.t q<s.t r.lo+r.le\/(s.t q=s.t r.lo+r.le/\st r.lo<st q):=e6
    omega
   omega
 grind
end CT
open SL
namespace CT
theorem mB{n i:Nat}(h:i<n):L2.ixN n (i:Int)=some i:=by
 unfold L2.ixN
 simp
 omega
noncomputable def zd:Option Nat->D
 | none=>.none
 | some j=>.int (j:Int)
noncomputable def tD(T:List Int):List Val:=(T.map ζ).map Val.d
noncomputable def zD(Z:List (Option Nat)):List Val:=(Z.map zd).map Val.d
noncomputable def kst(s:KS):Sto:=[.lst (tD s.T),.lst (zD s.Z)]
theorem tD_set{T:List Int}{i:Nat}{x:Int}:(tD T).set i (.d (.int x))=tD (T.set i x):=by unfold tD;simp
theorem zD_set{Z:List (Option Nat)}{i:Nat}{x:Option Nat}:(zD Z).set i (.d (zd x))=zD (Z.set i x):=by unfold zD;rw[List.map_set,List.map_set]
theorem Ag(s:KS):v1 0 (kst s) (some (.h 0))=.vl (.list (s.T.map ζ)):=v1_h (ξ 0) rfl
theorem Af(s:KS):v1 0 (kst s) (some (.h 1))=.vl (.list (s.Z.map zd)):=v1_h (Y5 1) rfl
theorem view6{s:KS}{a b c d:Val->D}{RS z3:D}{x4 x5:D}:viewL 0 (kst s) [some (.d RS),some (.h 0),some (.h 1),some (.d z3),some (.d x4),some (.d x5)]=[.vl RS,.vl (.list (s.T.map ζ)),.vl (.list (s.Z.map zd)),.vl z3,.vl x4,.vl x5]:=by
 show [Sl.vl RS,v1 0 (kst s) (some (.h 0)),v1 0 (kst s) (some (.h 1)),.vl z3,.vl x4,.vl x5]=_
 rw[Ag,Af]
theorem g9(r:Rl):oIx (rl r) (.int 0)=some (.int (r.lo:Int)):=rfl
theorem gx(r:Rl):oIx (rl r) (.int 1)=some (.int (r.hi:Int)):=rfl
theorem rF(r:Rl):oIx (rl r) (.int 2)=some (.int r.le):=rfl
theorem uP(r:Rl):oIx (rl r) (.int 3)=some (wD r.w):=rfl
theorem uu{n:Nat}{r:Rl}(h1:r.lo<n)(h2:r.hi<n)(RS:D)(j:Nat)(s:KS)(lT:s.T.length=n)(lZ:s.Z.length=n)(N:Nat):cu N [some (.d RS),some (.h 0),some (.h 1),some (.d (zd s.z)),some (.d (.int (j:Int))),some (.d (rl r))] (kst s)=R.ret (.nx [some (.d RS),some (.h 0),some (.h 1),some (.d (zd (stp j r s).z)),some (.d (.int (j:Int))),some (.d (rl r))] (kst (stp j r s))):=by
 have g1:oIx (.list (s.T.map ζ)) (.int (r.lo:Int))=some (.int (s.t r.lo)):=ba `am
 have g2:oIx (.list (s.T.map ζ)) (.int (r.hi:Int))=some (.int (s.t r.hi)):=ba `am
 have hv:=view6 (s:=s) (a:=λ_=>.none) (b:=λ_=>.none) (c:=λ_=>.none) (d:=λ_=>.none) (RS:=RS) (z3:=zd s.z) (x4:=.int (j:Int)) (x5:=rl r)
 have hc:(jT (dB (aG (λds=>noX (bj ds)) (ae (ac 5) ak))) (dB (d2 oGt (d2 bf (d2 oIx (ac 1) (d2 oIx (ac 5) `DY)) (d2 oIx (ac 5) (dC (.int 2)))) (d2 oIx (ac 1) (d2 oIx (ac 5) (dC (.int 1))))))) (viewL 0 (kst s) [some (.d RS),some (.h 0),some (.h 1),some (.d (zd s.z)),some (.d (.int (j:Int))),some (.d (rl r))])=M.ret (r.w.isNone&&decide (s.t r.hi<s.t r.lo+r.le)):=by
  rw[hv]
  exact rN (bi (aO (ad `on af) (rE r))) (bi (ag (ag (ag `on (ag `on aj (g9 r)) g1) (ag `on aj (rF r)) bD) (ag `on (ag `on aj (gx r)) g2) rb))
 unfold cu stp
 by_cases hb:r.w=none/\s.t r.hi<s.t r.lo+r.le
 ·rw[if_pos hb]
  rw[hb.1,decide_eq_true hb.2] at hc
  refine jl (b:=true) (fg hc) (fM rfl ?_)
  refine az (wt (k:=0) (j:=r.hi) (m:=(r.hi:Int)) (xs:=tD s.T) (v:=.d (.int (s.t r.lo+r.le))) (μ1:=kst s) (μ':=kst s) (DA (by rw[hv];exact ag (ag `on (ag `on aj (g9 r)) g1) (ag `on aj (rF r)) bD) rfl) rfl (bL (ag `on aj (gx r))) rfl (by unfold tD;rw[ς,ς,lT];exact mB h2)) ?_
  refine az (wt (k:=1) (j:=r.hi) (m:=(r.hi:Int)) (xs:=zD s.Z) (v:=.d (.int (j:Int))) (aL rfl) rfl (bL (ag `on aj (gx r))) rfl (by unfold zD;rw[ς,ς,lZ];exact mB h2)) ?_
  have hμ:((kst s).set 0 (Ob.lst ((tD s.T).set r.hi (Val.d (.int (s.t r.lo+r.le)))))).set 1 (Ob.lst ((zD s.Z).set r.hi (Val.d (.int (j:Int)))))=kst ⟨s.T.set r.hi (s.t r.lo+r.le),s.Z.set r.hi (some j),some r.hi⟩:=by
   show [Ob.lst ((tD s.T).set r.hi (Val.d (.int (s.t r.lo+r.le)))),Ob.lst ((zD s.Z).set r.hi (Val.d (zd (some j))))]=_
   rw[tD_set,zD_set]
   rfl
  rw[hμ]
  exact bz (bL (d:=.int (r.hi:Int)) (ag `on aj (gx r)))
 ·rw[if_neg hb]
  have hf:(r.w.isNone&&decide (s.t r.hi<s.t r.lo+r.le))=false:=by
   cases e:r.w with
   | none=>rw[e] at hb;rw[decide_eq_false (λz=>hb ⟨rfl,z⟩)];rfl
   | some w=>rfl
  rw[hf] at hc
  exact jl (b:=false) (fg hc) (gy rfl rfl)
theorem vw:(stp j r s).T.length=s.T.length/\(stp j r s).Z.length=s.Z.length:=by
 unfold stp
 split
 ·exact⟨Λ,Λ⟩
 ·exact⟨rfl,rfl⟩
theorem sS:∀(q:List Rl) (j:Nat) (s:KS),(iu j q s).T.length=s.T.length/\(iu j q s).Z.length=s.Z.length
 | [],j,s=>⟨rfl,rfl⟩
 | r::q,j,s=>by
  obtain⟨h1,h2⟩:=sS q (j+1) (stp j r s)
  obtain⟨h3,h4⟩:=vw (j:=j) (r:=r) (s:=s)
  exact⟨h1.trans h3,h2.trans h4⟩
theorem yO{n:Nat}{rs:List Rl}(hp:Pts n rs)(s:KS)(lT:s.T.length=n)(lZ:s.Z.length=n):cE [.d (.list (rs.map rl)),.h 0,.h 1] (kst s)=R.ret (.d (zd (iu 0 rs { s with z:=none }).z),kst (iu 0 rs { s with z:=none })):=by
 refine o6 ?_
 obtain⟨RS,hRS⟩:∃RS:D,RS=.list (rs.map rl):=⟨_,rfl⟩
 have main:∀(q:List Rl) (j:Nat) (s:KS) (x4 x5:Option Val),Pts n q->s.T.length=n->s.Z.length=n->∃y4 y5,hJ (mW 2 (et (agN 4) (et (agN 5) mX))) (cu 2) (bH j (q.map rl)) [some (.d RS),some (.h 0),some (.h 1),some (.d (zd s.z)),x4,x5] (kst s)=R.ret (.nx [some (.d RS),some (.h 0),some (.h 1),some (.d (zd (iu j q s).z)),y4,y5] (kst (iu j q s))):=by
  intro q
  induction q with
  | nil=>intro j s x4 x5 _ _ _;exact⟨x4,x5,rfl⟩
  | cons r q ih =>
   intro j s x4 x5 hq l1 l2
   obtain⟨p1,p2⟩:=hq r υ
   obtain⟨s1,s2⟩:=vw
   obtain⟨y4,y5,hI⟩:=ih (j+1) (stp j r s) (some (.d (.int (j:Int)))) (some (.d (rl r))) (λa ha=>hq a (θ _ ha)) (s1.trans l1) (s2.trans l2)
   exact⟨y4,y5,mD rfl (uu p1 p2 RS j s l1 l2 2) hI⟩
 obtain⟨y4,y5,hm⟩:=main rs 0 { s with z:=none } none none hp lT lZ
 rw[<-hRS]
 refine az (bz (bL aj)) ?_
 refine az (AU (iC (ad (by rw[<-hRS];rfl) af)) hm) ?_
 rfl
noncomputable def vW(T:List Int):D:=.tuple [.str "kept",.list ((T.map λt=>t-T.getD 0 0).map ζ)]
theorem vR(T:List Int)(T0:Int)(h0:0<T.length)(hT:T.getD 0 0=T0)(A:D)(hA:oIx A (.int 0)=some (.int T0)):∀(q:List Int) (x:Sl),cz (tgN 0) (nX eU) (nX (d2 gY (ac 0) (d2 oIx (ac 1) `DY))) (q.map ζ) [x,.vl A]=M.ret ((q.map λt=>t-T0).map ζ)
 | [],x=>rfl
 | t::q,x=>dq (δ':=[.vl (.int t),.vl A]) rfl (ag `on (ag `on aj hA) iw) (vR T T0 h0 hT A hA q _)
theorem qh{n:Nat}{rs:List Rl}(hp:Pts n rs)(h0:0<n)(hn:n<=1000000)(RS:D)(hRS:RS=.list (rs.map rl))(MN:D):∀(m:Nat) (a:Int) (s:KS) (x4:Option Val) (x5:Option Val),s.T.length=n->s.Z.length=n->∃y4,hJ (agN 4) (dP 0) (bF a m) [some (.d MN),some (.d RS),some (.h 0),some (.h 1),x4,x5] (kst s)=(if (eM rs m s).1=true then R.ret (.rt (.d (vW (eM rs m s).2.T)) []) else R.ret (.nx [some (.d MN),some (.d RS),some (.h 0),some (.h 1),y4,if m=0 then x5 else some (.d (zd (eM rs m s).2.z))] (kst (eM rs m s).2)))
 | 0,a,s,x4,x5,_,_=>⟨x4,rfl⟩
 | m+1,a,s,x4,x5,lT,lZ=>by
  obtain⟨s1,hs1⟩:∃s1,s1=iu 0 rs { s with z:=none }:=⟨_,rfl⟩
  have hr:=yO hp s lT lZ
  obtain⟨l1,l2⟩:=sS rs 0 { s with z:=none }
  rw[<-hs1] at l1 l2 hr
  have l1:s1.T.length=n:=l1.trans lT
  have l2:s1.Z.length=n:=l2.trans lZ
  rw[<-hRS] at hr
  have hrng:bF a (m+1)=.int a::bF (a+1) m:=by
   unfold bF
   rw[List.range_succ_eq_map,ω,Y9]
   refine congr (congrArg _ (congrArg _ (by push_cast;omega))) (List.map_congr_left λi _=>?_)
   show ζ _=ζ _
   congr 1
   push_cast
   omega
  rw[hrng,eM,<-hs1]
  have hv:viewL 0 (kst s1) [some (.d MN),some (.d RS),some (.h 0),some (.h 1),some (.d (.int a)),some (.d (zd s1.z))]=[.vl MN,.vl RS,.vl (.list (s1.T.map ζ)),.vl (.list (s1.Z.map zd)),.vl (.int a),.vl (zd s1.z)]:=by
   show [Sl.vl MN,.vl RS,v1 0 (kst s1) (some (.h 0)),v1 0 (kst s1) (some (.h 1)),.vl (.int a),.vl (zd s1.z)]=_
   rw[Ag,Af]
  have hcall:cF 5 (og cE (bZ (aI 1) (bZ (aI 2) (bZ (aI 3) iP)))) 0 [some (.d MN),some (.d RS),some (.h 0),some (.h 1),some (.d (.int a)),x5] (kst s)=R.ret (.nx [some (.d MN),some (.d RS),some (.h 0),some (.h 1),some (.d (.int a)),some (.d (zd s1.z))] (kst s1)):=bz (rR (cf (aL rfl) (cf (aL rfl) (cf (aL rfl) gE))) hr)
  cases hz:s1.z with
  | none =>
   rw[if_pos rfl]
   refine⟨none,?_⟩
   rw[if_pos rfl]
   refine tV (δ1:=[some (.d MN),some (.d RS),some (.h 0),some (.h 1),some (.d (.int a)),x5]) rfl ?_
   unfold dP
   refine az hcall ?_
   refine jl (b:=true) (fg (by rw[hv,hz];exact bi (ag (x:=.none) `on aj rfl))) (fM rfl ?_)
   have hA:oIx (.list (s1.T.map ζ)) (.int 0)=some (.int (s1.T.getD 0 0)):=ba (T:=s1.T) (i:=0) `am
   refine wu (d:=vW s1.T) rfl ?_
   rw[hv]
   exact bR (ad aj (ad (cR (ds:=s1.T.map ζ) (i8 (x:=.list (s1.T.map ζ)) `on rfl) (aF (by rw[ς];omega)) (vR s1.T _ `am rfl (.list (s1.T.map ζ)) hA s1.T .un)) af)) rfl
  | some p =>
   rw[if_neg (λz=>nomatch z)]
   obtain⟨y4,hI⟩:=qh hp h0 hn RS hRS MN m (a+1) s1 (some (.d (.int a))) (some (.d (zd s1.z))) l1 l2
   refine⟨y4,?_⟩
   have hb:dP 0 [some (.d MN),some (.d RS),some (.h 0),some (.h 1),some (.d (.int a)),x5] (kst s)=R.ret (.nx [some (.d MN),some (.d RS),some (.h 0),some (.h 1),some (.d (.int a)),some (.d (zd s1.z))] (kst s1)):=by
    unfold dP
    refine az hcall ?_
    exact jl (b:=false) (fg (by rw[hv,hz];exact bi (ag (x:=.int (p:Int)) `on aj rfl))) (gy rfl rfl)
   rw[mD (δ1:=[some (.d MN),some (.d RS),some (.h 0),some (.h 1),some (.d (.int a)),x5]) rfl hb hI]
   by_cases hk:(eM rs m s1).1=true
   ·rw[if_pos hk,if_pos hk]
   ·rw[if_neg hk,if_neg hk,if_neg (Nat.succ_ne_zero m)]
    by_cases hm:m=0
    ·subst hm;rfl
    ·rw[if_neg hm]
noncomputable def ks0(n:Nat):KS:=⟨χ n 0,χ n none,none⟩
theorem mM(hp:Pts (m+1) rs)(hm:m<=1000)(hring:(eM rs (m+1) (ks0 (m+1))).1=false->eC [.list (rs.map rl),.list ((eM rs (m+1) (ks0 (m+1))).2.Z.map zd),zd (eM rs (m+1) (ks0 (m+1))).2.z]=M.ret x) :
  dO [.d (.int (m:Int)),.d (.list (rs.map rl))] []=R.ret (.d (if (eM rs (m+1) (ks0 (m+1))).1=true then vW (eM rs (m+1) (ks0 (m+1))).2.T else .tuple [.str "ring",x]),[]):=by
 obtain⟨RS,hRS⟩:∃RS:D,RS=.list (rs.map rl):=⟨_,rfl⟩
 obtain⟨y4,hl⟩:=qh hp `am `am RS hRS (.int (m:Int)) (m+1) 0 (ks0 (m+1)) none none (by show(χ _ _).length=_;simp) (by show(χ _ _).length=_;simp)
 rw[if_neg (Nat.succ_ne_zero m)] at hl
 have hmm:((m:Int)+1).toNat=m+1:=by omega
 have key:dO [.d (.int (m:Int)),.d RS] []=R.ret (.d (if (eM rs (m+1) (ks0 (m+1))).1=true then vW (eM rs (m+1) (ks0 (m+1))).2.T else .tuple [.str "ring",x]),[]):=by
  refine o6 ?_
  refine az (wv (ds:=χ (m+1) (.int 0)) (by rw[<-hmm];exact nJ (bB (ad aj af) rfl) (ag `on aj bD) `am `am)) ?_
  refine az (wv (ds:=χ (m+1) .none) (by rw[<-hmm];exact nJ (bB (ad aj af) rfl) (ag `on aj bD) `am `am)) ?_
  have hst:([Ob.lst ((χ (m+1) (ζ 0)).map Val.d)]++[Ob.lst ((χ (m+1) PyData.none).map Val.d)]:Sto)=kst (ks0 (m+1)):=by
   unfold kst ks0 tD zD
   simp only[List.map_replicate]
   rfl
  have hrg:fJ [.int ((m:Int)+1)]=some (bF 0 (m+1)):=by
   show(if b62 ((m:Int)+1)=true then some (bF 0 ((m:Int)+1).toNat) else none)=_
   rw[if_pos (by unfold b62;grind),hmm]
  rw[<-hst] at hl
  have hfor:=AU (fi:=jo fJ (ae (d2 bf (ac 0) (dC (.int 1))) ak)) (gN (ad (ag `on aj bD) af) hrg) hl
  by_cases hk:(eM rs (m+1) (ks0 (m+1))).1=true
  ·rw[if_pos hk] at hfor ⊢
   exact rP hfor
  ·rw[if_neg hk] at hfor ⊢
   refine az hfor ?_
   obtain⟨s1,hs1⟩:∃s1,s1=(eM rs (m+1) (ks0 (m+1))).2:=⟨_,rfl⟩
   have hr:=hring (by simp_all)
   rw[<-hs1,<-hRS] at hr
   rw[<-hs1]
   refine wu rfl ?_
   have hv:∃z4,viewL 0 (kst s1) [some (.d (.int (m:Int))),some (.d RS),some (.h 0),some (.h 1),y4,some (.d (zd s1.z))]=[.vl (.int (m:Int)),.vl RS,.vl (.list (s1.T.map ζ)),.vl (.list (s1.Z.map zd)),z4,.vl (zd s1.z)]:=by
    refine⟨v1 0 (kst s1) y4,?_⟩
    show [Sl.vl (.int (m:Int)),.vl RS,v1 0 (kst s1) (some (.h 0)),v1 0 (kst s1) (some (.h 1)),v1 0 (kst s1) y4,.vl (zd s1.z)]=_
    rw[Ag,Af]
   obtain⟨z4,hv⟩:=hv
   rw[show([]:Sto).length=0 from rfl,hv]
   exact bR (ad aj (ad (aO (ad `on (ad `on (ad `on af))) hr) af)) rfl
 simp_all
noncomputable def zj(Z:List (Option Nat))(v:Nat):Nat:=match Z[v]? with
 | some (some j)=>j
 | _=>0
section
variable{n:Nat}{rs:List Rl}{s:KS}{st:Nat->Nat}
theorem Raised.zix(h:Raised n rs s st v):oIx (.list (s.Z.map zd)) (.int (v:Int))=some (.int (zj s.Z v:Int)):=by
 obtain⟨_,j,r,e1,_⟩:=h
 refine oQ `am ?_
 rw[W2,Γ,e1]
 unfold zj
 rw[e1]
 rfl
theorem Raised.rix(h:Raised n rs s st v):∃r,oIx (.list (rs.map rl)) (.int (zj s.Z v:Int))=some (rl r)/\rs[zj s.Z v]?=some r/\r.w=none/\r.hi=v/\r.lo=ku rs s.Z v:=by
 obtain⟨_,j,r,e1,e2,e3,e4,e5,_⟩:=h
 have hz:zj s.Z v=j:=by unfold zj;rw[e1]
 rw[hz]
 refine⟨r,oQ `am ?_,e2,e3,e4,e5.symm⟩
 simp_all
noncomputable def rgl(rs:List Rl)(Z:List (Option Nat))(q:Nat):Nat->List Int
 | 0=>[]
 | k+1=>(zj Z (ups rs Z k q):Int)::rgl rs Z q k
theorem nv(q:Nat):∀k,(rgl rs s.Z q k).length=k
 | 0=>rfl
 | k+1=>by rw[rgl,Φ,nv q k]
theorem min_ex(P:Nat->Prop):∀c,0<c->P c->∃m,0<m/\m<=c/\P m/\∀i,0<i->i<m->¬P i:=by
 intro c
 induction c using Nat.strongRecOn with
 | ind c ih =>
  grind
theorem Bf(hn:s.Z.length=n)(hn1:n<=1001)(hr1:∀i,i<n->Raised n rs s st (ups rs s.Z i p))(hq:q=ups rs s.Z n p)(hr:∀i,Raised n rs s st (ups rs s.Z i q))(hm:0<m)(hmn:m<=n)(he:ups rs s.Z m q=q)(hmin:∀i,0<i->i<m->ups rs s.Z i q≠q) :
  eC [.list (rs.map rl),.list (s.Z.map zd),.int (p:Int)]=M.ret (.list ((rgl rs s.Z q m).map ζ)):=by
 have hlen:dM [.list (s.Z.map zd)]=some (.int (n:Int)):=by rw[kN,ς,hn]
 have zix:∀{v:Nat},Raised n rs s st v->oIx (.list (s.Z.map zd)) (.int (v:Int))=some (.int (zj s.Z v:Int)):=λh=>h.zix
 have rix:∀{v:Nat},Raised n rs s st v->∃r,oIx (.list (rs.map rl)) (.int (zj s.Z v:Int))=some (rl r)/\r.lo=ku rs s.Z v:=λh=>let ⟨r,a,_,_,_,b⟩:=h.rix;⟨r,a,b⟩
 obtain⟨RS,hRS⟩:∃RS:D,RS=.list (rs.map rl):=⟨_,rfl⟩
 obtain⟨ZL,hZL⟩:∃ZL:D,ZL=.list (s.Z.map zd):=⟨_,rfl⟩
 rw[<-hRS] at rix ⊢
 rw[<-hZL] at zix hlen ⊢
 have low:∀{v k:Nat} {δ:DS},Raised n rs s st v->δ[0]?=some (.vl RS)->δ[1]?=some (.vl ZL)->δ[k]?=some (.vl (.int (v:Int)))->d2 oIx (d2 oIx (ac 0) (d2 oIx (ac 1) (ac k))) `DY δ=M.ret (.int (ku rs s.Z v:Int)):=λ{v k δ} h h0 h1 h2=>by
  obtain⟨r,g1,g2⟩:=rix h
  rw[<-g2]
  exact ag (ag (aa h0) (ag (aa h1) (aa h2) (zix h)) g1) aj (g9 r)
 have loop:∀(j:Nat) (v:Nat) (a:Int) (x3:Sl),(∀i,i<j->Raised n rs s st (ups rs s.Z i v))->∃y3,iB (cr (tgN 3) eg) (bF a j) [.vl RS,.vl ZL,.vl (.int (v:Int)),x3,.un,.un]=M.ret (.nx [.vl RS,.vl ZL,.vl (.int (ups rs s.Z j v:Int)),y3,.un,.un]):=by
  intro j
  induction j with
  | zero=>intro v a x3 _;exact⟨x3,rfl⟩
  | succ j ih =>
   intro v a x3 h
   have hrng:bF a (j+1)=.int a::bF (a+1) j:=by
    unfold bF
    rw[List.range_succ_eq_map,ω,Y9]
    refine congr (congrArg _ (congrArg _ (by push_cast;omega))) (List.map_congr_left λi _=>?_)
    show ζ _=ζ _
    congr 1
    push_cast
    omega
   have hv:=h 0 (Nat.succ_pos j)
   have hu:∀i,ups rs s.Z (i+1) v=ups rs s.Z i (ku rs s.Z v):=λi=>by rw[show i+1=1+i by omega,eZ];rfl
   obtain⟨y3,hI⟩:=ih (ku rs s.Z v) (a+1) (.vl (.int a)) λi hi=>by rw[<-hu];exact h (i+1) `am
   refine⟨y3,?_⟩
   rw[hrng,hu]
   refine cm (i7 (δ':=[.vl RS,.vl ZL,.vl (.int (v:Int)),.vl (.int a),.un,.un]) rfl ?_) hI
   unfold eg
   exact aN (low hv rfl rfl rfl)
 have wl:∀(d i:Nat) (x3:Sl),i+1+d=m->cO (dB (d2 oNe (ac 5) (ac 2))) d6 [.vl RS,.vl ZL,.vl (.int (q:Int)),x3,.ow ((rgl rs s.Z q (i+1)).reverse.map ζ),.vl (.int (ups rs s.Z (i+1) q:Int))]=M.ret (.nx [.vl RS,.vl ZL,.vl (.int (q:Int)),x3,.ow ((rgl rs s.Z q m).reverse.map ζ),.vl (.int (q:Int))]):=by
  intro d
  induction d with
  | zero =>
   intro i x3 hi
   rw[show i+1=m by omega,he]
   exact kS (bi (ag `on `on (by rw[uD,decide_eq_true rfl];rfl)))
  | succ d ih =>
   intro i x3 hi
   have hne:=hmin (i+1) `am `am
   have hR:=hr (i+1)
   refine i0 (δ':=[.vl RS,.vl ZL,.vl (.int (q:Int)),x3,.ow ((rgl rs s.Z q (i+2)).reverse.map ζ),.vl (.int (ups rs s.Z (i+2) q:Int))]) (bi (ag `on `on (by rw[uD,decide_eq_false `am];rfl))) ?_ (ih (i+1) x3 `am)
   unfold d6
   have hz:rgl rs s.Z q (i+2)=(zj s.Z (ups rs s.Z (i+1) q):Int)::rgl rs s.Z q (i+1):=rfl
   rw[hz,U2,Z0]
   refine ax (kT (ds:=(rgl rs s.Z q (i+1)).reverse.map ζ) (d:=.int (zj s.Z (ups rs s.Z (i+1) q):Int)) rfl (ag `on `on (zix hR)) (aF (by rw[ς,List.length_reverse,nv];omega))) ?_
   exact aN (low hR rfl rfl rfl)
 have hrg:fJ [.int (n:Int)]=some (bF 0 n):=by
  show(if b62 (n:Int)=true then some (bF 0 (n:Int).toNat) else none)=_
  rw[if_pos (by unfold b62;simp;omega),W2]
 obtain⟨y3,hl⟩:=loop n p 0 .un hr1
 rw[<-hq] at hl
 refine bh ?_
 unfold iZ
 have hR0:=hr 0
 refine ax (e9 (ds:=bF 0 n) (gN (ad (bS (ad `on af) hlen) af) hrg) hl) ?_
 refine ax (gP (ds:=[.int (zj s.Z q:Int)]) (bB (ad (ag `on `on (zix hR0)) af) rfl)) ?_
 refine ax (aN (d:=.int (ku rs s.Z q:Int)) (low hR0 rfl rfl rfl)) ?_
 refine ax (wl (m-1) 0 y3 `am) ?_
 refine ev_frz (bX (bS (ad `on af) ?_))
 show some (Θ (List.reverse _))=_
 rw[List.map_reverse,List.reverse_reverse]
noncomputable def rlA(rs:List Rl)(Z:List (Option Nat))(v:Nat):Rl:=atR rs (.int (zj Z v:Int))
theorem mn(h:Raised n rs s st v):okE rs.length (.int (zj s.Z v:Int))=true/\(rlA rs s.Z v).w=none/\(rlA rs s.Z v).hi=v/\(rlA rs s.Z v).lo=ku rs s.Z v/\rs[zj s.Z v]?=some (rlA rs s.Z v):=by
 obtain⟨r,_,h2,h3,h4,h5⟩:=h.rix
 have hlt:= (ρ.mp h2).1
 have e:rlA rs s.Z v=r:=by
  show(rs.getD (zj s.Z v:Int).toNat r0)=r
  simp_all
 refine⟨?_,by simp_all,by simp_all,by simp_all,by simp_all⟩
 unfold okE
 simp_all
noncomputable def dnR(rs:List Rl)(Z:List (Option Nat))(q:Nat):Nat->List Rl
 | 0=>[]
 | k+1=>rlA rs Z (ups rs Z k q)::dnR rs Z q k
theorem A6(q:Nat):∀k,((rgl rs s.Z q k).map ζ).map (atR rs)=dnR rs s.Z q k
 | 0=>rfl
 | k+1=>by rw[rgl,ω,ω,A6 q k];rfl
theorem tZ(hr:∀i,Raised n rs s st (ups rs s.Z i q)):∀k,(ups rs s.Z k q:Int)::(dnR rs s.Z q k).map hiI=(dnR rs s.Z q k).map loI++[(q:Int)]
 | 0=>rfl
 | k+1=>by
  obtain⟨_,_,h3,h4,_⟩:=mn (hr k)
  have ih:=tZ hr k
  rw[dnR,ω,ω,List.cons_append]
  have e1:hiI (rlA rs s.Z (ups rs s.Z k q))=(ups rs s.Z k q:Int):=by unfold hiI;rw[h3]
  have e2:loI (rlA rs s.Z (ups rs s.Z k q))=(ups rs s.Z (k+1) q:Int):=by unfold loI;rw[h4];rfl
  simp_all
theorem t3(hr:∀i,Raised n rs s st (ups rs s.Z i q))(hd:∀a b,0<a->a<b->b<=m->ups rs s.Z a q≠ups rs s.Z b q):∀(k:Nat) (acc:List Int),k<=m->(∀x∈acc,∃b,k<b/\b<=m/\x=(ups rs s.Z b q:Int))->mC acc ((dnR rs s.Z q k).map loI)=true
 | 0,acc,_,_=>rfl
 | k+1,acc,hk,h=>by
  obtain⟨_,_,h3,h4,_⟩:=mn (hr k)
  have e2:loI (rlA rs s.Z (ups rs s.Z k q))=(ups rs s.Z (k+1) q:Int):=by unfold loI;rw[h4];rfl
  rw[dnR,ω,e2,mC,Z2]
  refine⟨?_,t3 hr hd k _ `am λx hx=>?_⟩
  ·rw[Bool.not_eq_true',List.any_eq_false]
   intro x hx z
   obtain⟨b,b1,b2,rfl⟩:=h x hx
   have z:(ups rs s.Z b q:Int)=(ups rs s.Z (k+1) q:Int):=by simpa using z
   exact hd (k+1) b `am b1 b2 `am
  ·rcases Z7.mp hx with hx | hx
   ·obtain⟨b,b1,b2,b3⟩:=h x hx
    exact⟨b,by omega,b2,b3⟩
   ·rw[W6] at hx
    exact⟨k+1,by omega,hk,hx⟩
theorem A4(hr:∀i,Raised n rs s st (ups rs s.Z i q)):∀k,((dnR rs s.Z q k).map leI).sum=m5 rs s.Z k q
 | 0=>rfl
 | k+1=>by
  obtain⟨_,j,r,e1,e2,_⟩:=hr k
  have hz:zj s.Z (ups rs s.Z k q)=j:=by unfold zj;rw[e1]
  have h5:=(mn (hr k)).2.2.2.2
  rw[hz,e2] at h5
  have hs:m5 rs s.Z (k+1) q=m5 rs s.Z k q+r.le:=by
   rw[m5,e1]
   simp_all
  rw[dnR,ω,List.sum_cons,A4 hr k,hs,Int.add_comm]
  unfold leI
  simp_all
theorem A5(hr:∀i,Raised n rs s st (ups rs s.Z i q)):∀k,(dnR rs s.Z q k).all noW=true
 | 0=>rfl
 | k+1=>by
  rw[dnR,List.all_cons,A5 hr k,Bool.and_true]
  unfold noW
  rw[(mn (hr k)).2.1]
  rfl
theorem zI(hr:∀i,Raised n rs s st (ups rs s.Z i q)):∀k,((rgl rs s.Z q k).map ζ).all (okE rs.length)=true
 | 0=>rfl
 | k+1=>by rw[rgl,ω,List.all_cons,zI hr k,(mn (hr k)).1];rfl
theorem w8(hr:∀i,Raised n rs s st (ups rs s.Z i q))(hm:0<m)(he:ups rs s.Z m q=q)(hmin:∀i,0<i->i<m->ups rs s.Z i q≠q):pX rs ((rgl rs s.Z q m).map ζ)=true:=by
 obtain⟨k,rfl⟩:∃k,m=k+1:=⟨m-1,by omega⟩
 have hd:∀a b,0<a->a<b->b<=k+1->ups rs s.Z a q≠ups rs s.Z b q:=λa b h0 h1 h2 z=>by
  refine hmin (a+(k+1-b)) `am `am ?_
  rw[eZ,z,<-eZ,show b+(k+1-b)=k+1 by omega,he]
 unfold pX yK
 rw[A6,zI hr,A5 hr,A4 hr,t3 hr hd (k+1) [] (ξ _) (λx hx=>nomatch hx),decide_eq_true (Bu hr hm he)]
 have hrd:=tZ hr (k+1)
 rw[he] at hrd
 have e2:(dnR rs s.Z q (k+1)).map loI=(q:Int)::(dnR rs s.Z q k).map loI:=by
  rw[dnR,ω]
  congr 1
  unfold loI
  rw[(mn (hr k)).2.2.2.1]
  show((ups rs s.Z (k+1) q:Nat):Int)=_
  rw[he]
 rw[e2] at hrd
 rw[List.cons_append] at hrd
 have h4:=(List.cons.inj hrd).2
 rw[e2,h4]
 have:decide ((dnR rs s.Z q k).map loI++[(q:Int)]=List.drop 1 ((q:Int)::(dnR rs s.Z q k).map loI)++List.take 1 ((q:Int)::(dnR rs s.Z q k).map loI))=true:=decide_eq_true rfl
 rw[this]
 rfl
end
theorem pG(hp:Pts (m+1) rs)(hm:m<=1000):(∃T:List Int,dO [.d (.int (m:Int)),.d (.list (rs.map rl))] []=R.ret (.d (.tuple [.str "kept",.list (T.map ζ)]),[])/\T.length=m+1/\T.getD 0 0=0/\m4 (λv=>T.getD v 0) rs)\/(∃L:List Int,dO [.d (.int (m:Int)),.d (.list (rs.map rl))] []=R.ret (.d (.tuple [.str "ring",.list (L.map ζ)]),[])/\0<L.length/\L.length<=m+1/\pX rs (L.map ζ)=true):=by
 have I0:KInv (m+1) rs 0 0 (λ_=>0) { ks0 (m+1) with z:=none }:=by
  refine⟨by show(χ _ _).length=_;simp,by show(χ _ _).length=_;simp,λv=>Y5 _,λv _ h=>absurd h (V9 0),λj r hj _ h=>?_,(λp h=>nomatch h),λ_ j r h=>absurd h (Y8 j)⟩
  have hjl:= (ρ.mp hj).1
  unfold pH at h
  grind
 obtain⟨b,s',h1,h2,h3⟩:=tK hp (m+1) 0 (λ_=>0) (ks0 (m+1)) I0
 cases b with
 | true =>
  left
  obtain⟨g1,g2⟩:=h2 rfl
  have hk:=mM (x:=.none) hp hm (λz=>by simp_all)
  rw[h1] at hk
  refine⟨s'.T.map λt=>t-s'.T.getD 0 0,hk,by simp_all,?_,λr hr hw=>?_⟩
  ·simp_all
  ·have h:=g2 r hr hw
   obtain⟨p1,p2⟩:=hp r hr
   have hg:∀v,v<m+1->(s'.T.map λt=>t-s'.T.getD 0 0).getD v 0=s'.t v-s'.T.getD 0 0:=λv hv=>by
    unfold KS.t
    simp_all
   grind
 | false =>
  right
  rcases h3 rfl with ⟨h4,_⟩ | ⟨st,p,I,hz⟩
  ·omega
  ·rw[show 0+(m+1)-1=m by omega] at I
   obtain⟨hr1,c,c0,c1,c2,hr⟩:=BS hp I hz (ξ _)
   obtain⟨mm,m0,m1,m2,m3⟩:=min_ex (λi=>ups rs s'.Z i (ups rs s'.Z (m+1) p)=ups rs s'.Z (m+1) p) c c0 c2
   have ha:=Bf I.lZ `am hr1 rfl hr m0 `am m2 m3
   have hk:=mM hp hm (λ_=>by rw[h1,show(false,s').2=s' from rfl,hz];exact ha)
   rw[h1] at hk
   exact⟨_,hk,by rw[nv];exact m0,by rw[nv];omega,w8 hr m0 m2 m3⟩
end CT
namespace TR
noncomputable def upN(f:Nat->Nat):Nat->Nat->Nat
 | 0,p=>p
 | k+1,p=>upN f k (f p)
noncomputable def aw(f:Nat->Nat):Nat->Nat->List Nat
 | 0,_=>[]
 | k+1,p=>p::aw f k (f p)
noncomputable def put(f:Nat->α)(i:Nat)(x:α):Nat->α:=λj=>if j=i then x else f j
theorem aZ:put f i x i=x:=if_pos rfl
theorem bx(h:j≠i):put f i x j=f j:=if_neg h
noncomputable def sm:Nat->(Nat->Int)->Int
 | 0,_=>0
 | k+1,f=>sm k f+f k
theorem bv:∀{k:Nat},(∀j,j<k->f j=g j)->sm k f=sm k g
 | 0,_=>rfl
 | k+1,h=>by rw[sm,sm,bv λj hj=>h j `am,h k `am]
theorem pR:∀{k:Nat},(∀j,j<k->f j<=g j)->sm k f<=sm k g
 | 0,_=>V0 _
 | k+1,h=>by
  have h1:=pR (k:=k) λj hj=>h j `am
  have h2:=h k `am
  rw[sm,sm];omega
theorem sm_lt:∀{k:Nat},(∀j,j<k->f j<=g j)->i<k->f i<g i->sm k f<sm k g
 | 0,_,h,_=>absurd h (Y8 _)
 | k+1,h,hi,hl=>by
  have h2:=h k `am
  rw[sm,sm]
  by_cases e:i=k
  ·subst e
   have h1:=pR (k:=i) λj hj=>h j `am
   omega
  ·have h1:=sm_lt (k:=k) (λj hj=>h j `am) `am hl
   omega
theorem n0(f g:Nat->Int):∀k,sm k (λj=>f j+g j)=sm k f+sm k g
 | 0=>rfl
 | k+1=>by rw[sm,sm,sm,n0 f g k];omega
theorem yA(f g:Nat->Int):∀k,sm k (λj=>f j-g j)=sm k f-sm k g
 | 0=>rfl
 | k+1=>by rw[sm,sm,sm,yA f g k];omega
theorem nZ(c:Int)(f:Nat->Int):∀k,sm k (λj=>c*f j)=c*sm k f
 | 0=>(U7 c).symm
 | k+1=>by rw[sm,sm,nZ c f k,Int.mul_add]
theorem yC:∀{k:Nat},(∀j,j<k->0<=f j)->0<=sm k f
 | 0,_=>V0 _
 | k+1,h=>by
  have h1:=yC (k:=k) λj hj=>h j `am
  have h2:=h k `am
  rw[sm];omega
theorem ul:∀{k i:Nat},(∀j,j<k->0<=f j)->i<k->f i<=sm k f
 | 0,_,_,h=>absurd h (Y8 _)
 | k+1,i,h,hi=>by
  have h2:=h k `am
  rw[sm]
  by_cases e:i=k
  ·subst e
   have h1:=yC (k:=i) λj hj=>h j `am
   omega
  ·have h1:=ul (k:=k) (i:=i) (λj hj=>h j `am) `am
   omega
theorem yB{f c:Nat->Int}{i:Nat}{x:Int}:∀{k:Nat},i<k->sm k (λj=>put f i (f i+x) j*c j)=sm k (λj=>f j*c j)+x*c i
 | 0,h=>absurd h (Y8 _)
 | k+1,h=>by
  rw[sm,sm]
  by_cases e:i=k
  ·subst e
   rw[aZ,bv λj hj=>by rw[bx `am],Int.add_mul]
   omega
  ·rw[yB `am,bx (λz=>e z.symm)]
   omega
theorem nl{g:Nat->Int}{i:Nat}:∀{k:Nat},i<k->sm k (λj=>if i=j then g j else 0)=g i
 | 0,h=>absurd h (Y8 _)
 | k+1,h=>by
  rw[sm]
  by_cases e:i=k
  ·subst e
   rw[if_pos rfl,bv λj hj=>if_neg `am]
   have:∀k,sm k (λ_=>0)=0:=λk=>by
    induction k with
    | zero=>rfl
    | succ k ih=>rw[sm,ih];rfl
   simp_all
  ·rw[nl `am,if_neg e];omega
theorem iN:∀k,sm k (λ_=>0)=0
 | 0=>rfl
 | k+1=>by rw[sm,iN k];rfl
theorem qP(f:Nat->Nat->Int)(n:Nat):∀k,sm k (λj=>sm n (f j))=sm n (λp=>sm k (λj=>f j p))
 | 0=>(iN n).symm
 | k+1=>by
  rw[sm,qP f n k,<-n0]
  rfl
structure Net where
 n:Nat
 m:Nat
 lo:Nat->Nat
 hi:Nat->Nat
 ln:Nat->Int
 bd:Nat->Int
structure Tree(n:Nat)(ov dp:Nat->Nat):Prop where
 o:ov n=n
 r:dp n=0
 d:∀p,p<n->ov p<=n/\dp p=dp (ov p)+1
section
theorem lc(i:Nat):∀(j p:Nat),upN ov (j+i) p=upN ov i (upN ov j p)
 | 0,p=>by rw[W1];rfl
 | j+1,p=>by rw[show j+1+i=(j+i)+1 by omega];exact lc i j (ov p)
theorem di(j p:Nat):upN ov (j+1) p=ov (upN ov j p):=lc 1 j p
theorem Tree.pos(T:Tree n ov dp)(h:p<=n)(h0:0<dp p):p<n:=by
 rcases Z6 p n with z | z
 ·exact z
 ·have:p=n:=by omega
  subst this
  rw[T.r] at h0;omega
theorem Tree.le(T:Tree n ov dp)(h:p<=n):ov p<=n:=by
 rcases Z6 p n with z | z
 ·exact(T.d p z).1
 ·rw[show p=n by omega,T.o];exact ξ _
theorem Tree.up(T:Tree n ov dp):∀(k:Nat) {p:Nat},p<=n->k<=dp p->upN ov k p<=n/\dp (upN ov k p)+k=dp p
 | 0,p,h,_=>⟨h,rfl⟩
 | k+1,p,h,hk=>by
  have hp:=T.pos h `am
  obtain⟨h1,h2⟩:=T.d p hp
  obtain⟨h3,h4⟩:=T.up k h1 `am
  exact⟨h3,by rw[upN];omega⟩
theorem Tree.ups(T:Tree n ov dp):∀(k:Nat) {p:Nat},p<=n->upN ov k p<=n/\dp (upN ov k p)<=dp p
 | 0,p,h=>⟨h,ξ _⟩
 | k+1,p,h=>by
  obtain⟨h3,h4⟩:=T.ups k (T.le h)
  rcases Z6 p n with z | z
  ·have:=(T.d p z).2
   exact⟨h3,by rw[upN];omega⟩
  ·have e:p=n:=by omega
   subst e
   rw[T.o] at h3 h4
   exact⟨by rw[upN,T.o];exact h3,by rw[upN,T.o];exact h4⟩
theorem qG:∀{k p x:Nat},x∈aw ov k p->∃j,j<k/\x=upN ov j p
 | 0,p,x,h=>by cases h
 | k+1,p,x,h=>by
  rcases ψ.mp h with rfl | h
  ·exact⟨0,by omega,rfl⟩
  ·obtain⟨j,h1,h2⟩:=qG h
   exact⟨j+1,by omega,h2⟩
theorem du:∀{k j p:Nat},j<k->upN ov j p∈aw ov k p
 | 0,_,_,h=>absurd h (Y8 _)
 | k+1,0,p,_=>υ
 | k+1,j+1,p,h=>θ _ (du `am)
theorem Tree.inway(T:Tree n ov dp)(hp:p<=n)(hk:k<=dp p)(h:x∈aw ov k p):x<n/\dp x<=dp p/\(x=p\/dp x<dp p)/\dp p<dp x+k:=by
 obtain⟨j,h1,rfl⟩:=qG h
 obtain⟨h2,h3⟩:=T.up j hp `am
 refine⟨T.pos h2 `am,by omega,?_,by omega⟩
 rcases Nat.eq_zero_or_pos j with rfl | z
 ·exact .inl rfl
 omega
theorem Tree.way_nd(T:Tree n ov dp):∀{k p:Nat},p<=n->k<=dp p->(aw ov k p).Nodup
 | 0,_,_,_=>List.nodup_nil
 | k+1,p,hp,hk=>by
  obtain⟨h1,h2⟩:=T.d p (T.pos hp `am)
  refine X0.mpr ⟨λh=>?_,T.way_nd h1 `am⟩
  have:=(T.inway h1 `am h).2.1
  omega
theorem iL:∀(k p:Nat),(aw ov k p).length=k
 | 0,_=>rfl
 | k+1,p=>by rw[aw,Φ,iL]
theorem vn:∀(i j p:Nat),aw ov (i+j) p=aw ov i p++aw ov j (upN ov i p)
 | 0,j,p=>by rw[W1];rfl
 | i+1,j,p=>by rw[show i+1+j=(i+j)+1 by omega,aw,vn i j (ov p)];rfl
theorem eY:∀{k x:Nat},p∉aw ov k x->aw (put ov p q) k x=aw ov k x
 | 0,_,_=>rfl
 | k+1,x,h=>by
  have hx:x≠p:=λz=>h (z▸υ)
  rw[aw,aw,bx hx,eY λz=>h (θ _ z)]
theorem qH:∀{i x:Nat},(∀j,j<i->upN ov j x≠p)->upN (put ov p q) i x=upN ov i x
 | 0,_,_=>rfl
 | i+1,x,h=>by
  have hx:x≠p:=h 0 `am
  rw[upN,upN,bx hx,qH λj hj=>h (j+1) `am]
theorem Tree.hang(T:Tree n ov dp)(hp:p<n)(hq:q<=n)(hc:∀i,upN ov i q≠p):∃dp',Tree n (put ov p q) dp'/\∀x,(∀i,upN ov i x≠p)->dp' x=dp x:=by
 refine⟨λx=>open Classical in if ∃i,upN ov i x=p then dp x+dp q+1-dp p else dp x,⟨?_,?_,λx hx=>?_⟩,λx h=>if_neg λ⟨i,z⟩=>h i z⟩
 ·rw[bx `am];exact T.o
 ·have:∀i,upN ov i n=n:=λi=>by
   induction i with
   | zero=>rfl
   | succ i ih=>rw[di,ih,T.o]
  rw[if_neg λ⟨i,z⟩=>by simp_all]
  exact T.r
 ·obtain⟨h1,h2⟩:=T.d x hx
  by_cases e:x=p
  ·subst e
   rw[aZ]
   rw[if_pos ⟨0,rfl⟩,if_neg λ⟨i,z⟩=>hc i z]
   omega
  ·rw[bx e]
   refine⟨h1,?_⟩
   by_cases hs:∃i,upN ov i (ov x)=p
   ·have hx2:∃i,upN ov i x=p:=hs.elim λi z=>⟨i+1,z⟩
    rw[if_pos hs,if_pos hx2]
    obtain⟨i,z⟩:=hs
    have:=(T.ups i h1).2
    grind
   ·have hx2:¬∃i,upN ov i x=p:=λ⟨i,z⟩=>by
     cases i with
     | zero=>exact e z
     | succ i=>exact hs ⟨i,z⟩
    simp_all
inductive Meet(ov dp:Nat->Nat):Nat->Nat->Nat->Prop
 | done (p:Nat):Meet ov dp p p p
 | one {p q t:Nat} (h:p≠q) (hd:dp q<=dp p) (m:Meet ov dp (ov p) q t):Meet ov dp p q t
 | two {p q t:Nat} (h:p≠q) (hd:dp p<dp q) (m:Meet ov dp p (ov q) t):Meet ov dp p q t
theorem Tree.meet(T:Tree n ov dp):∀(k p q:Nat),dp p+dp q<=k->p<=n->q<=n->∃t,Meet ov dp p q t
 | k,p,q,hk,hp,hq=>by
  by_cases e:p=q
  ·subst e;exact⟨p,.done p⟩
  ·rcases Z6 (dp p) (dp q) with hd | hd
   ·obtain⟨h1,h2⟩:=T.d q (T.pos hq `am)
    cases k with
    | zero=>omega
    | succ k =>
     obtain⟨t,m⟩:=T.meet k p (ov q) `am hp h1
     exact⟨t,.two e hd m⟩
   ·have hpn:p<n:=by
     rcases Z6 p n with z | z
     ·exact z
     ·have:p=n:=by omega
      subst this
      rw[T.r] at hd
      rcases Z6 q p with z | z
      ·have:=(T.d q z).2;omega
      ·omega
    obtain⟨h1,h2⟩:=T.d p hpn
    cases k with
    | zero=>omega
    | succ k =>
     obtain⟨t,m⟩:=T.meet k (ov p) q `am h1 hq
     exact⟨t,.one e hd m⟩
structure Met(ov dp:Nat->Nat)(p q t a b:Nat):Prop where
 la:a<=dp p
 lb:b<=dp q
 ta:upN ov a p=t
 tb:upN ov b q=t
 dj:∀x,x∈aw ov a p->x∉aw ov b q
theorem Tree.met(T:Tree n ov dp)(m:Meet ov dp p q t)(hp:p<=n)(hq:q<=n):∃a b,Met ov dp p q t a b:=by
 induction m with
 | done p=>exact⟨0,0,Y5 _,Y5 _,rfl,rfl,λ_ h=>by cases h⟩
 | @one p q t h hd m ih =>
  have hpn:p<n:=by
   rcases Z6 p n with z | z
   ·exact z
   ·have:p=n:=by omega
    subst this
    rw[T.r] at hd
    rcases Z6 q p with z | z
    ·have:=(T.d q z).2;omega
    ·omega
  obtain⟨h1,h2⟩:=T.d p hpn
  obtain⟨a,b,M⟩:=ih h1 hq
  refine⟨a+1,b,by have:=M.la;omega,M.lb,M.ta,M.tb,λx hx=>?_⟩
  rcases ψ.mp hx with rfl | hx
  ·intro z
   obtain⟨_,_,z3,_⟩:=T.inway hq M.lb z
   rcases z3 with z3 | z3
   ·exact h z3
   ·omega
  ·exact M.dj x hx
 | @two p q t h hd m ih =>
  obtain⟨h1,h2⟩:=T.d q (T.pos hq `am)
  obtain⟨a,b,M⟩:=ih hp h1
  refine⟨a,b+1,M.la,by have:=M.lb;omega,M.ta,M.tb,λx hx z=>?_⟩
  rcases ψ.mp z with rfl | z
  ·have:=(T.inway hp M.la hx).2.1
   omega
  ·exact M.dj x hx z
end
noncomputable def sg(a:Int)(b:Bool):Int:=if b=true then a else -a
noncomputable def push(a:Int):List (Nat×Bool)->(Nat->Int)->Nat->Int
 | [],f=>f
 | (k,b)::L,f=>push a L (put f k (f k+sg a b))
theorem ox:∀{L:List (Nat×Bool)} {f:Nat->Int} {k:Nat},k∉L.map (·.1)->push a L f k=f k
 | [],_,_,_=>rfl
 | (i,b)::L,f,k,h=>by
  rw[ω,ψ,not_or] at h
  rw[push,ox h.2,bx h.1]
theorem nw:∀{L:List (Nat×Bool)} {f:Nat->Int} {k:Nat} {b:Bool},(L.map (·.1)).Nodup->(k,b)∈L->push a L f k=f k+sg a b
 | (i,c)::L,f,k,b,hn,h=>by
  rw[ω,X0] at hn
  rcases ψ.mp h with h | h
  ·cases h
   rw[push,ox hn.1,aZ]
  ·have hk:k≠i:=λz=>hn.1 (z▸(List.mem_map_of_mem h:k∈L.map (·.1)))
   rw[push,nw hn.2 h,bx hk]
noncomputable def tot(c:Nat->Int):List (Nat×Bool)->Int
 | []=>0
 | (k,b)::L=>sg (c k) b+tot c L
theorem qI(c:Nat->Int):∀(L M:List (Nat×Bool)),tot c (L++M)=tot c L+tot c M
 | [],M=>by rw[List.nil_append,tot];omega
 | (k,b)::L,M=>by rw[List.cons_append,tot,tot,qI c L M];omega
theorem qR:∀{L:List (Nat×Bool)} {f:Nat->Int},(∀s∈L,s.1<m)->sm m (λj=>push a L f j*c j)=sm m (λj=>f j*c j)+a*tot c L
 | [],f,_=>by rw[tot,U7,U8];rfl
 | (k,b)::L,f,h=>by
  have h1:=qR (a:=a) (c:=c) (f:=put f k (f k+sg a b)) λs hs=>h s (θ _ hs)
  have h2:=yB (f:=f) (c:=c) (x:=sg a b) (show k<m from h (k,b) υ)
  have h3:a*(sg (c k) b+tot c L)=sg a b*c k+a*tot c L:=by
   rw[Int.mul_add]
   unfold sg
   grind
  show sm m (λj=>push a L (put f k (f k+sg a b)) j*c j)=_
  rw[h1,h2,tot,h3]
  omega
def Jn(N:Net)(k p q:Nat):Prop:=(N.lo k=p/\N.hi k=q)\/(N.hi k=p/\N.lo k=q)
theorem Jn.symm(h:Jn N k p q):Jn N k q p:=h.elim (λz=>.inr ⟨z.2,z.1⟩) λz=>.inl ⟨z.2,z.1⟩
noncomputable def dnS(N:Net)(hk:Nat->Nat)(q:Nat):Nat×Bool:=(hk q,decide (N.hi (hk q)=q))
noncomputable def upS(N:Net)(hk:Nat->Nat)(q:Nat):Nat×Bool:=(hk q,decide (N.lo (hk q)=q))
section
variable{N:Net}{ov dp hk:Nat->Nat}
theorem ym{c π:Nat->Int}:∀{k p:Nat},(∀q∈aw ov k p,Jn N (hk q) q (ov q)/\q≠ov q/\c (hk q)=π (N.hi (hk q))-π (N.lo (hk q)))->tot c ((aw ov k p).map (dnS N hk))=π p-π (upN ov k p)
 | 0,p,_=>by rw[upN];show(0:Int)=_;omega
 | k+1,p,h=>by
  obtain⟨h1,h2,h3⟩:=h p υ
  have ih:=ym λq hq=>h q (θ _ hq)
  show sg (c (hk p)) (decide (N.hi (hk p)=p))+tot c _=_
  rw[ih,upN,h3]
  rcases h1 with ⟨z1,z2⟩ | ⟨z1,z2⟩
  ·rw[decide_eq_false `am,z1,z2]
   unfold sg
   grind
  ·rw[decide_eq_true z1,z1,z2]
   unfold sg
   grind
theorem yk{c π:Nat->Int}:∀{k p:Nat},(∀q∈aw ov k p,Jn N (hk q) q (ov q)/\q≠ov q/\c (hk q)=π (N.hi (hk q))-π (N.lo (hk q)))->tot c ((aw ov k p).map (upS N hk))=π (upN ov k p)-π p
 | 0,p,_=>by rw[upN];show(0:Int)=_;omega
 | k+1,p,h=>by
  obtain⟨h1,h2,h3⟩:=h p υ
  have ih:=yk λq hq=>h q (θ _ hq)
  show sg (c (hk p)) (decide (N.lo (hk p)=p))+tot c _=_
  rw[ih,upN,h3]
  rcases h1 with ⟨z1,z2⟩ | ⟨z1,z2⟩
  ·rw[decide_eq_true z1,z1,z2]
   unfold sg
   grind
  ·rw[decide_eq_false `am,z1,z2]
   unfold sg
   grind
end
noncomputable def room(N:Net)(fl:Nat->Int)(k p:Nat):Int:=if N.lo k=p then N.bd k-fl k else fl k
section
variable{N:Net}{fl fl':Nat->Int}{k p:Nat}{a:Int}{b:Bool}
theorem ot(hb:b=decide (N.lo k=p))(h:fl' k=fl k+sg a b):room N fl' k p=room N fl k p-a:=by
 unfold room
 rw[h,hb]
 unfold sg
 grind
theorem ou(hb:b=!decide (N.lo k=p))(h:fl' k=fl k+sg a b):room N fl' k p=room N fl k p+a:=by
 unfold room
 rw[h,hb]
 unfold sg
 grind
theorem BR(h:0<=fl k/\fl k<=N.bd k):0<=room N fl k p/\room N fl k p<=N.bd k:=by
 unfold room
 split<;>omega
theorem vG(h:fl' k=fl k):room N fl' k p=room N fl k p:=by unfold room;rw[h]
theorem vf(hb:b=decide (N.lo k=p))(h:fl' k=fl k+sg a b)(h0:0<=fl k/\fl k<=N.bd k)(ha:0<=a)(hr:a<=room N fl k p):0<=fl' k/\fl' k<=N.bd k:=by
 unfold room at hr
 rw[h,hb]
 unfold sg
 grind
end
noncomputable def chD(rm:Nat->Int):List Nat->Int->Option Nat->Int×Option Nat
 | [],a,l=>(a,l)
 | q::L,a,l=>if rm q<a then chD rm L (rm q) (some q) else chD rm L a l
noncomputable def chU(rm:Nat->Int):List Nat->Int->Option Nat->Int×Option Nat
 | [],a,l=>(a,l)
 | q::L,a,l=>if rm q<=a then chU rm L (rm q) (some q) else chU rm L a l
theorem vb(rm:Nat->Int):∀(L:List Nat) (a:Int) (l:Option Nat),(chD rm L a l=(a,l)/\∀q∈L,a<=rm q)\/(∃x L1 L2,L=L1++x::L2/\chD rm L a l=(rm x,some x)/\rm x<a/\(∀q∈L1,rm x<rm q)/\∀q∈L2,rm x<=rm q)
 | [],a,l=>.inl ⟨rfl,λ_ h=>by cases h⟩
 | q::L,a,l=>by
  unfold chD
  by_cases h:rm q<a
  ·rw[if_pos h]
   rcases vb rm L (rm q) (some q) with ⟨h1,h2⟩ | ⟨x,L1,L2,h1,h2,h3,h4,h5⟩
   ·exact .inr ⟨q,[],L,rfl,h1,h,(λ_ z=>by cases z),h2⟩
   ·refine .inr ⟨x,q::L1,L2,by rw[h1];rfl,h2,by omega,λy hy=>?_,h5⟩
    rcases ψ.mp hy with rfl | hy
    ·exact h3
    ·exact h4 y hy
  ·rw[if_neg h]
   rcases vb rm L a l with ⟨h1,h2⟩ | ⟨x,L1,L2,h1,h2,h3,h4,h5⟩
   ·refine .inl ⟨h1,λy hy=>?_⟩
    rcases ψ.mp hy with rfl | hy
    ·omega
    ·exact h2 y hy
   ·refine .inr ⟨x,q::L1,L2,by rw[h1];rfl,h2,h3,λy hy=>?_,h5⟩
    rcases ψ.mp hy with rfl | hy
    ·omega
    ·exact h4 y hy
theorem rX(rm:Nat->Int):∀(L:List Nat) (a:Int) (l:Option Nat),(chU rm L a l=(a,l)/\∀q∈L,a<rm q)\/(∃x L1 L2,L=L1++x::L2/\chU rm L a l=(rm x,some x)/\rm x<=a/\(∀q∈L1,rm x<=rm q)/\∀q∈L2,rm x<rm q)
 | [],a,l=>.inl ⟨rfl,λ_ h=>by cases h⟩
 | q::L,a,l=>by
  unfold chU
  by_cases h:rm q<=a
  ·rw[if_pos h]
   rcases rX rm L (rm q) (some q) with ⟨h1,h2⟩ | ⟨x,L1,L2,h1,h2,h3,h4,h5⟩
   ·exact .inr ⟨q,[],L,rfl,h1,h,(λ_ z=>by cases z),h2⟩
   ·refine .inr ⟨x,q::L1,L2,by rw[h1];rfl,h2,by omega,λy hy=>?_,h5⟩
    rcases ψ.mp hy with rfl | hy
    ·exact h3
    ·exact h4 y hy
  ·rw[if_neg h]
   rcases rX rm L a l with ⟨h1,h2⟩ | ⟨x,L1,L2,h1,h2,h3,h4,h5⟩
   ·refine .inl ⟨h1,λy hy=>?_⟩
    rcases ψ.mp hy with rfl | hy
    ·omega
    ·exact h2 y hy
   ·refine .inr ⟨x,q::L1,L2,by rw[h1];rfl,h2,h3,λy hy=>?_,h5⟩
    rcases ψ.mp hy with rfl | hy
    ·omega
    ·exact h4 y hy
def Und(n:Nat)(ov:Nat->Nat)(un:Nat->List Nat):Prop:=∀q,q<=n->(un q).Nodup/\∀p,p∈un q↔p<n/\ov p=q
noncomputable def reU(un:Nat->List Nat)(o p q:Nat):Nat->List Nat:=put (put un o ((un o).erase p)) q (put un o ((un o).erase p) q++[p])
theorem Und.re(U:Und n ov un)(hp:p<n)(ho:ov p<=n)(hq:q<=n):Und n (put ov p q) (reU un (ov p) p q):=by
 have h0:∀x,x<=n->(put un (ov p) ((un (ov p)).erase p) x).Nodup/\∀y,y∈put un (ov p) ((un (ov p)).erase p) x↔y≠p/\y<n/\ov y=x:=λx hx=>by
  obtain⟨u1,u2⟩:=U x hx
  by_cases e:x=ov p
  ·subst e
   rw[aZ]
   refine⟨u1.erase p,λy=>?_⟩
   rw[u1.mem_erase_iff,u2]
  ·rw[bx e]
   refine⟨u1,λy=>?_⟩
   rw[u2]
   exact⟨λz=>⟨λw=>e (by rw[<-z.2,w]),z⟩,λz=>z.2⟩
 intro x hx
 unfold reU
 obtain⟨g1,g2⟩:=h0 x hx
 by_cases e:x=q
 ·subst e
  rw[aZ]
  refine⟨List.nodup_append.mpr ⟨g1,X0.mpr ⟨(λh=>by cases h),List.nodup_nil⟩,λa ha b hb=>?_⟩,λy=>?_⟩
  ·rw[W6] at hb
   rw[hb]
   exact((g2 a).mp ha).1
  ·rw[Z7,W6,g2]
   by_cases ey:y=p
   ·subst ey
    rw[aZ]
    exact⟨λ_=>⟨hp,rfl⟩,λ_=>.inr rfl⟩
   ·rw[bx ey]
    exact⟨λz=>z.elim (λw=>w.2) λw=>absurd w ey,λz=>.inl ⟨ey,z⟩⟩
 ·rw[bx e]
  refine⟨g1,λy=>?_⟩
  rw[g2]
  by_cases ey:y=p
  ·subst ey
   rw[aZ]
   exact⟨λz=>absurd rfl z.1,λz=>absurd z.2.symm e⟩
  ·rw[bx ey]
   exact⟨λz=>z.2,λz=>⟨ey,z⟩⟩
structure Tr where
 ov:Nat->Nat
 hk:Nat->Nat
 un:Nat->List Nat
noncomputable def Tr.re(s:Tr)(p q r:Nat):Tr:=⟨put s.ov p q,put s.hk p r,reU s.un (s.ov p) p q⟩
noncomputable def eL:Nat->Nat->Nat->Nat->Tr->Tr
 | 0,_,_,_,s=>s
 | j+1,p,q,r,s=>eL j (s.ov p) p (s.hk p) (s.re p q r)
structure Rv(N:Net)(j p q r:Nat)(s:Tr):Prop where
 tr:∃dp,Tree N.n s.ov dp/\j<=dp p
 lp:p<=N.n
 lq:q<=N.n
 cl:∀i,upN s.ov i q∉aw s.ov j p
 un:Und N.n s.ov s.un
 jn:∀x,x<N.n->s.hk x<N.m/\Jn N (s.hk x) x (s.ov x)
 rm:r<N.m
 rj:0<j->Jn N r p q
section
variable{N:Net}
theorem Rv.p_lt(R:Rv N (j+1) p q r s):p<N.n:=by
 obtain⟨dp,T,h⟩:=R.tr
 exact T.pos R.lp `am
theorem Rv.not_in(R:Rv N (j+1) p q r s):p∉aw s.ov j (s.ov p):=λz=>by
 obtain⟨dp,T,h⟩:=R.tr
 obtain⟨h1,h2⟩:=T.d p R.p_lt
 have:=(T.inway h1 `am z).2.1
 omega
theorem Rv.next(R:Rv N (j+1) p q r s):Rv N j (s.ov p) p (s.hk p) (s.re p q r):=by
 have hp:=R.p_lt
 have hno:=R.not_in
 obtain⟨dp,T,hj⟩:=R.tr
 obtain⟨h1,h2⟩:=T.d p hp
 have hc:∀i,upN s.ov i q≠p:=λi z=>R.cl i (by rw[z];exact υ)
 obtain⟨dp',T',hd⟩:=T.hang hp R.lq hc
 have hw:aw (put s.ov p q) j (s.ov p)=aw s.ov j (s.ov p):=eY hno
 refine⟨⟨dp',T',?_⟩,h1,X5 hp,λi=>?_,R.un.re hp h1 R.lq,λx hx=>?_,(R.jn p hp).1,λ_=>(R.jn p hp).2.symm⟩
 ·rw[hd _ λi z=>?_]
  ·omega
  ·have:=(T.ups i h1).2
   grind
 ·show upN (put s.ov p q) i p∉aw (put s.ov p q) j (s.ov p)
  rw[hw]
  cases i with
  | zero=>exact hno
  | succ i =>
   rw[upN,aZ,qH λk _=>hc k]
   exact λz=>R.cl i (θ _ z)
 ·show put s.hk p r x<N.m/\Jn N (put s.hk p r x) x (put s.ov p q x)
  by_cases e:x=p
  ·subst e
   rw[aZ,aZ]
   exact⟨R.rm,R.rj `am⟩
  ·rw[bx e,bx e]
   exact R.jn x hx
theorem Rv.fin:∀{j p q r:Nat} {s:Tr},Rv N j p q r s->∃p' q' r',Rv N 0 p' q' r' (eL j p q r s)
 | 0,p,q,r,s,R=>⟨p,q,r,R⟩
 | j+1,p,q,r,s,R=>R.next.fin
theorem Rv.out:∀{j p q r:Nat} {s:Tr},Rv N j p q r s->∀x,x∉aw s.ov j p->(eL j p q r s).ov x=s.ov x/\(eL j p q r s).hk x=s.hk x
 | 0,p,q,r,s,R,x,_=>⟨rfl,rfl⟩
 | j+1,p,q,r,s,R,x,h=>by
  have hx:x≠p:=λz=>h (z▸υ)
  have hw:aw (put s.ov p q) j (s.ov p)=aw s.ov j (s.ov p):=eY R.not_in
  obtain⟨h1,h2⟩:=R.next.out x (by show x∉aw (put s.ov p q) j (s.ov p);rw[hw];exact λz=>h (θ _ z))
  exact⟨h1.trans (bx hx),h2.trans (bx hx)⟩
theorem Rv.sf:∀{j p q r:Nat} {s:Tr},Rv N j p q r s->(∀x,x<N.n->x∉aw s.ov j p->0<room N fl (s.hk x) x)->(0<j->0<room N fl r p)->(∀i,i+1<j->0<room N fl (s.hk (upN s.ov i p)) (upN s.ov (i+1) p))->∀x,x<N.n->0<room N fl ((eL j p q r s).hk x) x
 | 0,p,q,r,s,R,h1,_,_,x,hx=>h1 x hx λz=>by cases z
 | j+1,p,q,r,s,R,h1,h2,h3,x,hx=>by
  have hw:aw (put s.ov p q) j (s.ov p)=aw s.ov j (s.ov p):=eY R.not_in
  have hu:∀i,i<j->upN (put s.ov p q) i (s.ov p)=upN s.ov i (s.ov p):=λi hi=>qH λk hk z=>R.not_in (by have w:=du (ov:=s.ov) (p:=s.ov p) (show k<j by omega);simp_all)
  refine R.next.sf (λy hy hny=>?_) (λhj=>?_) (λi hi=>?_) x hx
  ·have hny:y∉aw s.ov j (s.ov p):=by rw[<-hw];exact hny
   show 0<room N fl (put s.hk p r y) y
   by_cases e:y=p
   ·subst e;rw[aZ];omega
   ·rw[bx e]
    exact h1 y hy λz=>(ψ.mp z).elim e hny
  ·exact h3 0 `am
  ·show 0<room N fl (put s.hk p r (upN (put s.ov p q) i (s.ov p))) (upN (put s.ov p q) (i+1) (s.ov p))
   rw[hu i `am,hu (i+1) `am,bx λz=>R.not_in (by have w:=du (ov:=s.ov) (p:=s.ov p) (show i<j by omega);simp_all)]
   exact h3 (i+1) `am
theorem Rv.keep:∀{j p q r:Nat} {s:Tr},Rv N j p q r s->∀k,(k=r\/∃x,x<N.n/\s.hk x=k)->(k=(if j=0 then r else s.hk (upN s.ov (j-1) p)))\/∃x,x<N.n/\(eL j p q r s).hk x=k
 | 0,p,q,r,s,R,k,h=>by
  exact h
 | j+1,p,q,r,s,R,k,h=>by
  have hp:=R.p_lt
  have hu:∀i,i<j->upN (put s.ov p q) i (s.ov p)=upN s.ov i (s.ov p):=λi hi=>qH λk hk z=>R.not_in (by have w:=du (ov:=s.ov) (p:=s.ov p) (show k<j by omega);simp_all)
  have h':k=s.hk p\/∃x,x<N.n/\put s.hk p r x=k:=by
   rcases h with rfl | ⟨x,hx,rfl⟩
   ·exact .inr ⟨p,hp,aZ⟩
   ·by_cases e:x=p
    ·simp_all
    ·exact .inr ⟨x,hx,bx e⟩
  rcases R.next.keep k h' with z | z
  ·left
   rw[if_neg (Nat.succ_ne_zero j),z]
   by_cases e:j=0
   ·subst e;rfl
   ·rw[if_neg e]
    show put s.hk p r (upN (put s.ov p q) (j-1) (s.ov p))=s.hk (upN s.ov (j+1-1) p)
    rw[hu (j-1) `am,bx λz=>R.not_in (by have w:=du (ov:=s.ov) (p:=s.ov p) (show j-1<j by omega);simp_all),show j+1-1=(j-1)+1 by omega]
    rfl
  ·exact .inr z
theorem Rv.all{Z:Nat->Prop}{p0:Nat}:∀{j p q r:Nat} {s:Tr},Rv N j p q r s->(∀x,x<N.n->x≠p0->Z (s.hk x))->p≠p0\/0<j->(p0∉aw s.ov j p)->Z r->∀x,x<N.n->x≠p0->Z ((eL j p q r s).hk x)
 | 0,p,q,r,s,R,h,_,_,_,x,hx,hne=>h x hx hne
 | j+1,p,q,r,s,R,h,_,hn,hr,x,hx,hne=>by
  have hp0:p≠p0:=λz=>hn (z▸υ)
  have hw:aw (put s.ov p q) j (s.ov p)=aw s.ov j (s.ov p):=eY R.not_in
  have hn':p0∉aw (put s.ov p q) j (s.ov p):=by rw[hw];exact λz=>hn (θ _ z)
  have hh:∀x,x<N.n->x≠p0->Z (put s.hk p r x):=λx hx hne=>by
   by_cases e:x=p
   ·subst e;rw[aZ];exact hr
   ·rw[bx e];simp_all
  have hz:= h p R.p_lt hp0
  cases j with
  | zero=>exact hh x hx hne
  | succ j=>exact R.next.all hh (.inr `am) hn' hz x hx hne
end
structure St where
 fl:Nat->Int
 tm:Nat->Int
 t:Tr
 dp:Nat->Nat
noncomputable def lack(N:Net)(tm:Nat->Int)(k:Nat):Int:=N.ln k-tm (N.hi k)+tm (N.lo k)
noncomputable def inc(N:Net)(p k:Nat):Int:=(if N.hi k=p then 1 else 0)-(if N.lo k=p then 1 else 0)
structure Inv(N:Net)(s:St):Prop where
 tr:Tree N.n s.t.ov s.dp
 un:Und N.n s.t.ov s.t.un
 jn:∀p,p<N.n->s.t.hk p<N.m/\Jn N (s.t.hk p) p (s.t.ov p)
 lk:∀p,p<N.n->lack N s.tm (s.t.hk p)=0
 bb:∀k,k<N.m->0<=s.fl k/\s.fl k<=N.bd k
 nb:∀k,k<N.m->(∀p,p<N.n->s.t.hk p≠k)->s.fl k=0\/s.fl k=N.bd k
 cs:∀p,sm N.m (λk=>s.fl k*inc N p k)=0
 sf:∀p,p<N.n->0<room N s.fl (s.t.hk p) p
 sl:∀k,k<N.m->N.lo k=N.hi k->(0<N.ln k->s.fl k=N.bd k)/\(N.ln k<=0->s.fl k=0)
 rt:s.tm N.n=0
def Wr(N:Net)(s:St)(k:Nat):Prop:=k<N.m/\((0<lack N s.tm k/\s.fl k<N.bd k)\/(lack N s.tm k<0/\0<s.fl k))
noncomputable def more(N:Net)(s:St)(k:Nat):Bool:=decide (0<lack N s.tm k)
noncomputable def tl(N:Net)(s:St)(k:Nat):Nat:=if more N s k=true then N.lo k else N.hi k
noncomputable def hd(N:Net)(s:St)(k:Nat):Nat:=if more N s k=true then N.hi k else N.lo k
noncomputable def wo(N:Net)(fl:Nat->Int):Int:=sm N.m (λk=>fl k*N.ln k)
structure En(N:Net)(s:St)(k:Nat):Prop where
 km:k<N.m
 ne:tl N s k≠hd N s k
 jn:Jn N k (tl N s k) (hd N s k)
 mo:more N s k=decide (N.lo k=tl N s k)
 rt:room N s.fl k (tl N s k)=N.bd k
 rh:room N s.fl k (hd N s k)=0
 bp:0<N.bd k
 nh:∀p,p<N.n->s.t.hk p≠k
 ga:0<sg (N.ln k) (more N s k)-(s.tm (hd N s k)-s.tm (tl N s k))
 dt:(if N.hi k=tl N s k then lack N s.tm k else-lack N s.tm k)<0
theorem Inv.en(I:Inv N s)(w:Wr N s k):En N s k:=by
 obtain⟨km,w⟩:=w
 have nh:∀p,p<N.n->s.t.hk p≠k:=λp hp z=>by
  have:=I.lk p hp
  rw[z] at this
  omega
 have ne:N.lo k≠N.hi k:=λz=>by
  obtain⟨h1,h2⟩:=I.sl k km z
  unfold lack at w
  rw[z] at w
  rcases w with w | w
  ·have:=h1 `am;omega
  ·have:=h2 `am;omega
 have hb:=I.bb k km
 have hn:=I.nb k km nh
 rcases w with ⟨w1,w2⟩ | ⟨w1,w2⟩
 ·have hm:more N s k=true:=decide_eq_true w1
  have ht:tl N s k=N.lo k:=if_pos hm
  have hh:hd N s k=N.hi k:=if_pos hm
  refine⟨km,by rw[ht,hh];exact ne,.inl ⟨ht.symm,hh.symm⟩,by rw[hm,ht,decide_eq_true rfl],?_,?_,by omega,nh,?_,?_⟩
  ·rw[ht];unfold room;rw[if_pos rfl];omega
  ·rw[hh];unfold room;rw[if_neg ne];omega
  ·rw[hm,ht,hh];unfold sg lack at *;rw[if_pos rfl];omega
  ·rw[ht,if_neg (λz=>ne z.symm)];omega
 ·have hm:more N s k=false:=decide_eq_false `am
  have ht:tl N s k=N.hi k:=if_neg (by rw[hm];exact Z8)
  have hh:hd N s k=N.lo k:=if_neg (by rw[hm];exact Z8)
  refine⟨km,by rw[ht,hh];exact λz=>ne z.symm,.inr ⟨ht.symm,hh.symm⟩,by rw[hm,ht,decide_eq_false ne],?_,?_,by omega,nh,?_,?_⟩
  ·rw[ht];unfold room;rw[if_neg ne];omega
  ·rw[hh];unfold room;rw[if_pos rfl];omega
  ·rw[hm,ht,hh];unfold sg lack at *;rw[if_neg Z8];omega
  ·rw[ht,if_pos rfl];omega
theorem qb:∀{L:List Nat},L.Nodup->(∀x∈L,∀y∈L,f x=f y->x=y)->(L.map f).Nodup
 | [],_,_=>List.nodup_nil
 | x::L,h,hi=>by
  obtain⟨h1,h2⟩:=X0.mp h
  refine X0.mpr ⟨λz=>?_,qb h2 λa ha b hb=>hi a (θ _ ha) b (θ _ hb)⟩
  grind
section
variable{N:Net}{s:St}
theorem Inv.ne(I:Inv N s)(h:p<N.n):p≠s.t.ov p:=λz=>by
 have:=(I.tr.d p h).2
 grind
theorem Inv.inj(I:Inv N s)(hp:p<N.n)(hq:q<N.n)(e:s.t.hk p=s.t.hk q):p=q:=by
 have h1:=(I.jn p hp).2
 have h2:=(I.jn q hq).2
 rw[e] at h1
 have d1:=(I.tr.d p hp).2
 have d2:=(I.tr.d q hq).2
 rcases h1 with ⟨a,b⟩ | ⟨a,b⟩<;>rcases h2 with ⟨c,d⟩ | ⟨c,d⟩
 all_goals grind
noncomputable def ring(N:Net)(s:St)(k a b:Nat):List (Nat×Bool):=(k,more N s k)::((aw s.t.ov a (tl N s k)).map (dnS N s.t.hk)++(aw s.t.ov b (hd N s k)).map (upS N s.t.hk))
noncomputable def rmD(N:Net)(s:St)(q:Nat):Int:=room N s.fl (s.t.hk q) (s.t.ov q)
noncomputable def rmU(N:Net)(s:St)(q:Nat):Int:=room N s.fl (s.t.hk q) q
structure Pv(N:Net)(s:St)(k a b:Nat)(A:Int)(fl:Nat->Int):Prop where
 kt:room N fl k (tl N s k)=N.bd k-A
 kh:room N fl k (hd N s k)=A
 d:∀q∈aw s.t.ov a (tl N s k),room N fl (s.t.hk q) q=rmU N s q+A/\room N fl (s.t.hk q) (s.t.ov q)=rmD N s q-A
 u:∀q∈aw s.t.ov b (hd N s k),room N fl (s.t.hk q) q=rmU N s q-A/\room N fl (s.t.hk q) (s.t.ov q)=rmD N s q+A
 o:∀j,j≠k->(∀q∈aw s.t.ov a (tl N s k),s.t.hk q≠j)->(∀q∈aw s.t.ov b (hd N s k),s.t.hk q≠j)->fl j=s.fl j
 bb:∀j,j<N.m->0<=fl j/\fl j<=N.bd j
 cs:∀p,sm N.m (λk=>fl k*inc N p k)=0
 sl:∀k,k<N.m->N.lo k=N.hi k->(0<N.ln k->fl k=N.bd k)/\(N.ln k<=0->fl k=0)
 wo:wo N fl=wo N s.fl+A*(sg (N.ln k) (more N s k)-(s.tm (hd N s k)-s.tm (tl N s k)))
theorem Inv.pv(I:Inv N s)(e:En N s k)(ht:tl N s k<=N.n)(hh:hd N s k<=N.n)(M:Met s.t.ov s.dp (tl N s k) (hd N s k) t a b)(A0:0<=A)(A1:A<=N.bd k)(A2:∀q∈aw s.t.ov a (tl N s k),A<=rmD N s q)(A3:∀q∈aw s.t.ov b (hd N s k),A<=rmU N s q):Pv N s k a b A (push A (ring N s k a b) s.fl):=by
 have hD:∀q∈aw s.t.ov a (tl N s k),q<N.n:=λq hq=>(I.tr.inway ht M.la hq).1
 have hU:∀q∈aw s.t.ov b (hd N s k),q<N.n:=λq hq=>(I.tr.inway hh M.lb hq).1
 have hfst:(ring N s k a b).map (·.1)=k::(aw s.t.ov a (tl N s k)++aw s.t.ov b (hd N s k)).map s.t.hk:=by
  unfold ring
  rw[ω,Z0,Y9,Y9,Z0]
  rfl
 have hmem:∀q∈aw s.t.ov a (tl N s k)++aw s.t.ov b (hd N s k),q<N.n:=λq hq=>(Z7.mp hq).elim (hD q) (hU q)
 have hnd:((ring N s k a b).map (·.1)).Nodup:=by
  rw[hfst]
  refine X0.mpr ⟨λz=>?_,qb (List.nodup_append.mpr ⟨I.tr.way_nd ht M.la,I.tr.way_nd hh M.lb,λx hx y hy z=>M.dj x hx (z▸hy)⟩) λx hx y hy z=>I.inj (hmem x hx) (hmem y hy) z⟩
  obtain⟨y,hy,z⟩:=V6.mp z
  exact e.nh y (hmem y hy) z
 have fk:push A (ring N s k a b) s.fl k=s.fl k+sg A (more N s k):=nw hnd υ
 have fd:∀q∈aw s.t.ov a (tl N s k),push A (ring N s k a b) s.fl (s.t.hk q)=s.fl (s.t.hk q)+sg A (decide (N.hi (s.t.hk q)=q)):=λq hq=>nw hnd (θ _ (Z7.mpr (.inl (List.mem_map_of_mem hq))))
 have fu:∀q∈aw s.t.ov b (hd N s k),push A (ring N s k a b) s.fl (s.t.hk q)=s.fl (s.t.hk q)+sg A (decide (N.lo (s.t.hk q)=q)):=λq hq=>nw hnd (θ _ (Z7.mpr (.inr (List.mem_map_of_mem hq))))
 have fo:∀j,j≠k->(∀q∈aw s.t.ov a (tl N s k),s.t.hk q≠j)->(∀q∈aw s.t.ov b (hd N s k),s.t.hk q≠j)->push A (ring N s k a b) s.fl j=s.fl j:=λj h1 h2 h3=>by
  refine ox ?_
  simp_all
 have xd:∀q,q<N.n->decide (N.hi (s.t.hk q)=q)=!decide (N.lo (s.t.hk q)=q)/\decide (N.hi (s.t.hk q)=q)=decide (N.lo (s.t.hk q)=s.t.ov q)/\decide (N.lo (s.t.hk q)=q)=!decide (N.lo (s.t.hk q)=s.t.ov q):=λq hq=>by
  have hne:=I.ne hq
  rcases (I.jn q hq).2 with ⟨a,b⟩ | ⟨a,b⟩
  all_goals grind
 have mh:more N s k=!decide (N.lo k=hd N s k):=by
  rw[e.mo]
  rcases e.jn with ⟨a,b⟩ | ⟨a,b⟩
  ·rw[a,decide_eq_true rfl,decide_eq_false e.ne];rfl
  ·rw[b,decide_eq_false (λz=>e.ne z.symm),decide_eq_true rfl];rfl
 have hL:∀x∈ring N s k a b,x.1<N.m:=λx hx=>by
  rcases ψ.mp hx with rfl | hx
  ·exact e.km
  ·rcases Z7.mp hx with hx | hx
   ·obtain⟨q,hq,rfl⟩:=V6.mp hx
    exact(I.jn q (hD q hq)).1
   ·obtain⟨q,hq,rfl⟩:=V6.mp hx
    exact(I.jn q (hU q hq)).1
 have pot:∀(c π:Nat->Int),(∀q,q<N.n->c (s.t.hk q)=π (N.hi (s.t.hk q))-π (N.lo (s.t.hk q)))->tot c (ring N s k a b)=sg (c k) (more N s k)-(π (hd N s k)-π (tl N s k)):=λc π h=>by
  have h1:=ym λq hq=>⟨(I.jn q (hD q hq)).2,I.ne (hD q hq),h q (hD q hq)⟩
  have h2:=yk λq hq=>⟨(I.jn q (hU q hq)).2,I.ne (hU q hq),h q (hU q hq)⟩
  rw[M.ta] at h1
  rw[M.tb] at h2
  unfold ring
  rw[tot,qI,h1,h2]
  omega
 refine⟨?_,?_,λq hq=>⟨ou (xd q (hD q hq)).1 (fd q hq),ot (xd q (hD q hq)).2.1 (fd q hq)⟩,λq hq=>⟨ot rfl (fu q hq),ou (xd q (hU q hq)).2.2 (fu q hq)⟩,fo,λj hj=>?_,λp=>?_,λj hj hl=>?_,?_⟩
 ·rw[ot e.mo fk,e.rt]
 ·rw[ou mh fk,e.rh];omega
 ·by_cases h1:j=k
  ·subst h1
   exact vf e.mo fk (I.bb j hj) A0 (by rw[e.rt];exact A1)
  ·by_cases h2:∃q∈aw s.t.ov a (tl N s k),s.t.hk q=j
   ·obtain⟨q,hq,rfl⟩:=h2
    exact vf (xd q (hD q hq)).2.1 (fd q hq) (I.bb _ hj) A0 (A2 q hq)
   ·by_cases h3:∃q∈aw s.t.ov b (hd N s k),s.t.hk q=j
    ·obtain⟨q,hq,rfl⟩:=h3
     exact vf rfl (fu q hq) (I.bb _ hj) A0 (A3 q hq)
    ·rw[fo j h1 (λq hq z=>h2 ⟨q,hq,z⟩) λq hq z=>h3 ⟨q,hq,z⟩]
     exact I.bb j hj
 ·rw[qR hL,I.cs p,pot (inc N p) (λx=>if x=p then 1 else 0) λq _=>rfl]
  have:sg (inc N p k) (more N s k)=(if hd N s k=p then 1 else 0)-(if tl N s k=p then 1 else 0):=by
   unfold inc hd tl sg
   grind
  simp_all
 ·have:push A (ring N s k a b) s.fl j=s.fl j:=fo j (λz=>by
    subst z
    rcases e.jn with ⟨a,b⟩ | ⟨a,b⟩
    ·exact e.ne (a.symm.trans (hl.trans b))
    ·exact e.ne (a.symm.trans (hl.symm.trans b))) (λq hq z=>by
    grind) (λq hq z=>by
    grind)
  rw[this]
  exact I.sl j hj hl
 ·unfold TR.wo
  rw[qR hL,pot N.ln s.tm λq hq=>?_]
  have:=I.lk q hq
  unfold lack at this
  omega
theorem Inv.flip(I:Inv N s)(e:En N s k)(ht:tl N s k<=N.n)(hh:hd N s k<=N.n)(M:Met s.t.ov s.dp (tl N s k) (hd N s k) t a b)(P:Pv N s k a b (N.bd k) fl)(A3:∀q∈aw s.t.ov b (hd N s k),N.bd k<rmU N s q):Inv N { s with fl:=fl }:=by
 refine⟨I.tr,I.un,I.jn,I.lk,P.bb,λj hj hn=>?_,P.cs,λp hp=>?_,P.sl,I.rt⟩
 ·by_cases h:j=k
  ·subst h
   have h1:=P.kt
   have h2:=P.kh
   show fl j=0\/fl j=N.bd j
   unfold room at h1 h2
   omega
  ·show fl j=0\/fl j=N.bd j
   rw[P.o j h (λq hq=>hn q (I.tr.inway ht M.la hq).1) λq hq=>hn q (I.tr.inway hh M.lb hq).1]
   exact I.nb j hj hn
 ·have h0:=I.sf p hp
  have hb:=e.bp
  by_cases h1:p∈aw s.t.ov a (tl N s k)
  ·rw[(P.d p h1).1];unfold rmU;omega
  ·by_cases h2:p∈aw s.t.ov b (hd N s k)
   ·rw[(P.u p h2).1];simp_all
   ·rw[vG (P.o _ (e.nh p hp) (λq hq z=>h1 (I.inj (I.tr.inway ht M.la hq).1 hp z▸hq)) λq hq z=>h2 (I.inj (I.tr.inway hh M.lb hq).1 hp z▸hq))]
    exact h0
def sub(ov:Nat->Nat)(p x:Nat):Prop:=∃i,upN ov i x=p
open Classical in
noncomputable def shf(ov:Nat->Nat)(p:Nat)(δ:Int)(tm:Nat->Int):Nat->Int:=λx=>if sub ov p x then tm x+δ else tm x
structure Hg(N:Net)(s:St)(k i p q:Nat)(fl:Nat->Int):Prop where
 km:k<N.m
 nh:∀x,x<N.n->s.t.hk x≠k
 jn:Jn N k p q
 pn:p<=N.n
 qn:q<=N.n
 id:i<s.dp p
 cl:∀j,upN s.t.ov j q∉aw s.t.ov (i+1) p
 bb:∀j,j<N.m->0<=fl j/\fl j<=N.bd j
 cs:∀p,sm N.m (λk=>fl k*inc N p k)=0
 sl:∀k,k<N.m->N.lo k=N.hi k->(0<N.ln k->fl k=N.bd k)/\(N.ln k<=0->fl k=0)
 nb:∀j,j<N.m->j≠k->(∀x,x<N.n->s.t.hk x≠j)->fl j=0\/fl j=N.bd j
 nx:fl (s.t.hk (upN s.t.ov i p))=0\/fl (s.t.hk (upN s.t.ov i p))=N.bd (s.t.hk (upN s.t.ov i p))
 s1:∀x,x<N.n->x∉aw s.t.ov (i+1) p->0<room N fl (s.t.hk x) x
 s2:0<room N fl k p
 s3:∀j,j<i->0<room N fl (s.t.hk (upN s.t.ov j p)) (upN s.t.ov (j+1) p)
noncomputable def dlt(N:Net)(s:St)(k p:Nat):Int:=if N.hi k=p then lack N s.tm k else-lack N s.tm k
theorem Hg.rv(I:Inv N s)(h:Hg N s k i p q fl):Rv N (i+1) p q k s.t :=
 ⟨⟨s.dp,I.tr,h.id⟩,h.pn,h.qn,h.cl,I.un,I.jn,h.km,λ_=>h.jn⟩
theorem Hg.inv{k i p q:Nat}{fl:Nat->Int}(I:Inv N s)(h:Hg N s k i p q fl):∃dp,Tree N.n (eL (i+1) p q k s.t).ov dp/\Und N.n (eL (i+1) p q k s.t).ov (eL (i+1) p q k s.t).un/\Inv N ⟨fl,shf (eL (i+1) p q k s.t).ov p (dlt N s k p) s.tm,eL (i+1) p q k s.t,dp⟩/\p<N.n:=by
 have R:=h.rv I
 have hp:=R.p_lt
 obtain⟨p',q',r',RF⟩:=R.fin
 obtain⟨dp,T,_⟩:=RF.tr
 obtain⟨o1,o2⟩:=R.next.out p (by
  show p∉aw (put s.t.ov p q) i (s.t.ov p)
  rw[eY R.not_in]
  exact R.not_in)
 have o1:(eL (i+1) p q k s.t).ov p=q:=o1.trans aZ
 have o2:(eL (i+1) p q k s.t).hk p=k:=o2.trans aZ
 have hal:∀x,x<N.n->x≠p->lack N s.tm ((eL (i+1) p q k s.t).hk x)=0:=λx hx hne=>by
  have hh:∀x,x<N.n->x≠p->lack N s.tm ((s.t.re p q k).hk x)=0:=λx hx hne=>by
   show lack N s.tm (put s.t.hk p k x)=0
   rw[bx hne]
   exact I.lk x hx
  cases i with
  | zero=>exact hh x hx hne
  | succ i =>
   exact R.next.all (Z:=λj=>lack N s.tm j=0) (p0:=p) hh (.inr `am) (by
    show p∉aw (put s.t.ov p q) (i+1) (s.t.ov p)
    rw[eY R.not_in]
    exact R.not_in) (I.lk p hp) x hx hne
 have hkeep:=R.keep
 have hsf:=R.sf h.s1 (λ_=>h.s2) (λj hj=>h.s3 j `am)
 have hjn:=RF.jn
 have hun:=RF.un
 generalize hu:eL (i+1) p q k s.t=u at *
 refine⟨dp,T,hun,⟨T,hun,hjn,λx hx=>?_,h.bb,λj hj hn=>?_,h.cs,hsf,h.sl,?_⟩,hp⟩
 ·show lack N (shf u.ov p (dlt N s k p) s.tm) (u.hk x)=0
  have nq:¬sub u.ov p q:=λ⟨i,z⟩=>by
   have h1:=(T.ups i (h.qn)).2
   have h2:=(T.d p hp).2
   grind
  by_cases e:x=p
  ·subst e
   rw[o2]
   have hs:sub u.ov x x:=⟨0,rfl⟩
   have hne:x≠q:=λz=>nq (z▸hs)
   unfold lack shf dlt
   rcases h.jn with ⟨z1,z2⟩ | ⟨z1,z2⟩
   ·rw[z1,z2,if_neg nq,if_pos hs,if_neg (λz=>hne z.symm)]
    unfold lack
    grind
   ·rw[z1,z2,if_pos hs,if_neg nq,if_pos rfl]
    unfold lack
    grind
  ·have h1:=hal x hx e
   have hiff:sub u.ov p x↔sub u.ov p (u.ov x):=⟨λ⟨i,z⟩=>by
    cases i with
    | zero=>exact absurd z e
    | succ i=>exact⟨i,z⟩,λ⟨i,z⟩=>⟨i+1,z⟩⟩
   unfold lack shf at *
   by_cases hs:sub u.ov p x
   ·have hs2:=hiff.mp hs
    rcases (hjn x hx).2 with ⟨z1,z2⟩ | ⟨z1,z2⟩
    all_goals grind
   ·have hs2:¬sub u.ov p (u.ov x):=λz=>hs (hiff.mpr z)
    rcases (hjn x hx).2 with ⟨z1,z2⟩ | ⟨z1,z2⟩
    all_goals simp_all
 ·by_cases e1:j=k
  ·simp_all
  ·by_cases e2:∃x,x<N.n/\s.t.hk x=j
   ·rcases hkeep j (.inr e2) with z | ⟨x,hx,z⟩
    ·rw[z];exact h.nx
    simp_all
   ·exact h.nb j hj e1 λx hx z=>e2 ⟨x,hx,z⟩
 ·show shf u.ov p (dlt N s k p) s.tm N.n=0
  have hr:∀i,upN u.ov i N.n=N.n:=λi=>by
   induction i with
   | zero=>rfl
   | succ i ih=>rw[di,ih,T.o]
  have hs:¬sub u.ov p N.n:=λ⟨i,z⟩=>by
   simp_all
  unfold shf
  rw[if_neg hs]
  exact I.rt
end
section
variable{N:Net}{s:St}
theorem pK(h:aw ov k p=L1++x::L2):L1.length<k/\x=upN ov L1.length p/\L1=aw ov L1.length p/\L2=aw ov (k-L1.length-1) (upN ov (L1.length+1) p):=by
 have hl:=congrArg V5 h
 rw[iL,η,Φ] at hl
 have hk:k=L1.length+((k-L1.length-1)+1):=by omega
 rw[hk,vn] at h
 obtain⟨h1,h2⟩:=List.append_inj h (iL _ _)
 rw[aw,List.cons.injEq] at h2
 exact⟨by omega,h2.1.symm,h1.symm,by rw[<-h2.2,di]⟩
theorem pW(h:room N fl k p=0):fl k=0\/fl k=N.bd k:=by
 unfold room at h
 split at h
 ·exact .inr `am
 ·exact .inl h
theorem Inv.clear(I:Inv N s)(hp:p<=N.n)(hq:q<=N.n)(M:Met s.t.ov s.dp p q t a b):(∀j,upN s.t.ov j q∉aw s.t.ov a p)/\∀j,upN s.t.ov j p∉aw s.t.ov b q:=by
 have h1:=I.tr.up a hp M.la
 have h2:=I.tr.up b hq M.lb
 rw[M.ta] at h1
 rw[M.tb] at h2
 constructor
 ·intro j z
  obtain⟨z1,z2,z3,z4⟩:=I.tr.inway hp M.la z
  rcases Z6 j b with hj | hj
  ·exact M.dj _ z (du hj)
  ·have:=(I.tr.ups (j-b) h2.1).2
   rw[<-M.tb,<-lc,show b+(j-b)=j by omega,M.tb] at this
   omega
 ·intro j z
  obtain⟨z1,z2,z3,z4⟩:=I.tr.inway hq M.lb z
  rcases Z6 j a with hj | hj
  ·exact M.dj _ (du hj) z
  ·have:=(I.tr.ups (j-a) h1.1).2
   rw[<-M.ta,<-lc,show a+(j-a)=j by omega,M.ta] at this
   omega
theorem qF(h:i<=k)(hx:x∈aw ov i p):x∈aw ov k p:=by
 obtain⟨j,h1,rfl⟩:=qG hx
 exact du `am
theorem Inv.mend(I:Inv N s)(w:Wr N s k)(ht:tl N s k<=N.n)(hh:hd N s k<=N.n)(M:Met s.t.ov s.dp (tl N s k) (hd N s k) t a b) :
  (chD (rmD N s) (aw s.t.ov a (tl N s k)) (N.bd k) none=(N.bd k,none)/\chU (rmU N s) (aw s.t.ov b (hd N s k)) (N.bd k) none=(N.bd k,none)/\Inv N { s with fl:=push (N.bd k) (ring N s k a b) s.fl }/\wo N s.fl<wo N (push (N.bd k) (ring N s k a b) s.fl)) \/
  (∃i A,i<a/\chD (rmD N s) (aw s.t.ov a (tl N s k)) (N.bd k) none=(A,some (upN s.t.ov i (tl N s k)))/\chU (rmU N s) (aw s.t.ov b (hd N s k)) A none=(A,none)/\Hg N s k i (tl N s k) (hd N s k) (push A (ring N s k a b) s.fl)/\wo N s.fl<=wo N (push A (ring N s k a b) s.fl)/\dlt N s k (tl N s k)<0) \/
  (∃i A A1 l1,i<b/\chD (rmD N s) (aw s.t.ov a (tl N s k)) (N.bd k) none=(A1,l1)/\chU (rmU N s) (aw s.t.ov b (hd N s k)) A1 none=(A,some (upN s.t.ov i (hd N s k)))/\Hg N s k i (hd N s k) (tl N s k) (push A (ring N s k a b) s.fl)/\wo N s.fl<wo N (push A (ring N s k a b) s.fl)):=by
 have e:=I.en w
 have hD:∀q∈aw s.t.ov a (tl N s k),q<N.n:=λq hq=>(I.tr.inway ht M.la hq).1
 have hU:∀q∈aw s.t.ov b (hd N s k),q<N.n:=λq hq=>(I.tr.inway hh M.lb hq).1
 have dn0:∀q,q<N.n->0<=rmD N s q:=λq hq=>(BR (I.bb _ (I.jn q hq).1)).1
 have up0:∀q,q<N.n->0<rmU N s q:=λq hq=>I.sf q hq
 have hbp:=e.bp
 have hga:=e.ga
 obtain⟨cl1,cl2⟩:=I.clear ht hh M
 have oth:∀{A:Int} {fl:Nat->Int},Pv N s k a b A fl->∀x,x<N.n->x∉aw s.t.ov a (tl N s k)->x∉aw s.t.ov b (hd N s k)->0<room N fl (s.t.hk x) x:=λ{A fl} P x hx h1 h2=>by
  rw[vG (P.o _ (e.nh x hx) (λq hq z=>h1 (I.inj (hD q hq) hx z▸hq)) λq hq z=>h2 (I.inj (hU q hq) hx z▸hq))]
  exact I.sf x hx
 have onb:∀{A:Int} {fl:Nat->Int},Pv N s k a b A fl->∀j,j<N.m->j≠k->(∀x,x<N.n->s.t.hk x≠j)->fl j=0\/fl j=N.bd j:=λ{A fl} P j hj hk hn=>by
  rw[P.o j hk (λq hq=>hn q (hD q hq)) λq hq=>hn q (hU q hq)]
  exact I.nb j hj hn
 have up_case:∀(A1:Int) (l1:Option Nat) (x:Nat) (L1 L2:List Nat),0<=A1->A1<=N.bd k->(∀q∈aw s.t.ov a (tl N s k),A1<=rmD N s q)->aw s.t.ov b (hd N s k)=L1++x::L2->rmU N s x<=A1->(∀q∈L1,rmU N s x<=rmU N s q)->(∀q∈L2,rmU N s x<rmU N s q)->∃i,i<b/\x=upN s.t.ov i (hd N s k)/\Hg N s k i (hd N s k) (tl N s k) (push (rmU N s x) (ring N s k a b) s.fl)/\wo N s.fl<wo N (push (rmU N s x) (ring N s k a b) s.fl):=by
  intro A1 l1 x L1 L2 h0 h1 h2 hs h3 h4 h5
  obtain⟨g1,g2,g3,g4⟩:=pK hs
  have hxU:x∈aw s.t.ov b (hd N s k):=by rw[hs];exact Z7.mpr (.inr υ)
  have hx0:=up0 x (hU x hxU)
  have P:=I.pv e ht hh M (A:=rmU N s x) `am `am (λq hq=>by have:=h2 q hq;omega) (λq hq=>by
   rw[hs] at hq
   rcases Z7.mp hq with hq | hq
   ·exact h4 q hq
   ·rcases ψ.mp hq with rfl | hq
    ·exact V0 _
    ·exact Int.le_of_lt (h5 q hq))
  refine⟨L1.length,g1,g2,⟨e.km,e.nh,e.jn.symm,hh,ht,by have:=M.lb;omega,λj z=>cl2 j (qF `am z),P.bb,P.cs,P.sl,onb P,?_,λy hy hny=>?_,by rw[P.kh];exact hx0,λj hj=>?_⟩,?_⟩
  ·rw[<-g2]
   exact pW (p:=x) (by rw[(P.u x hxU).1];omega)
  ·by_cases y1:y∈aw s.t.ov a (tl N s k)
   ·rw[(P.d y y1).1];have:=up0 y hy;omega
   ·by_cases y2:y∈aw s.t.ov b (hd N s k)
    ·rw[(P.u y y2).1]
     have y3:=y2
     rw[hs] at y3
     rcases Z7.mp y3 with y3 | y3
     ·rw[g3] at y3;exact absurd (qF `am y3) hny
     ·rcases ψ.mp y3 with rfl | y3
      ·exact absurd (by rw[g2];exact du `am) hny
      ·have:=h5 y y3;omega
    ·exact oth P y hy y1 y2
  ·have hy:upN s.t.ov j (hd N s k)∈aw s.t.ov b (hd N s k):=du `am
   rw[di,(P.u _ hy).2]
   have:=dn0 _ (hU _ hy)
   omega
  ·rw[P.wo]
   have:=Int.mul_pos hx0 hga
   omega
 rcases vb (rmD N s) (aw s.t.ov a (tl N s k)) (N.bd k) none with ⟨c1,c2⟩ | ⟨x,L1,L2,c1,c2,c3,c4,c5⟩
 ·rcases rX (rmU N s) (aw s.t.ov b (hd N s k)) (N.bd k) none with ⟨u1,u2⟩ | ⟨x,L1,L2,u1,u2,u3,u4,u5⟩
  ·have P:=I.pv e ht hh M (A:=N.bd k) `am `am c2 (λq hq=>Int.le_of_lt (u2 q hq))
   refine .inl ⟨c1,u1,I.flip e ht hh M P u2,?_⟩
   rw[P.wo]
   have:=Int.mul_pos hbp hga
   omega
  ·obtain⟨i,h1,h2,h3,h4⟩:=up_case (N.bd k) none x L1 L2 `am `am c2 u1 u3 u4 u5
   exact .inr (.inr ⟨i,_,_,_,h1,c1,by rw[u2,<-h2],h3,h4⟩)
 ·have hxD:x∈aw s.t.ov a (tl N s k):=by rw[c1];exact Z7.mpr (.inr υ)
  have hx0:=dn0 x (hD x hxD)
  have hle:∀q∈aw s.t.ov a (tl N s k),rmD N s x<=rmD N s q:=λq hq=>by
   rw[c1] at hq
   rcases Z7.mp hq with hq | hq
   ·exact Int.le_of_lt (c4 q hq)
   ·rcases ψ.mp hq with rfl | hq
    ·exact V0 _
    ·exact c5 q hq
  rcases rX (rmU N s) (aw s.t.ov b (hd N s k)) (rmD N s x) none with ⟨u1,u2⟩ | ⟨y,Y1,Y2,u1,u2,u3,u4,u5⟩
  ·obtain⟨g1,g2,g3,g4⟩:=pK c1
   have P:=I.pv e ht hh M (A:=rmD N s x) hx0 `am hle (λq hq=>Int.le_of_lt (u2 q hq))
   refine .inr (.inl ⟨L1.length,_,g1,by rw[c2,<-g2],u1,⟨e.km,e.nh,e.jn,ht,hh,by have:=M.la;omega,λj z=>cl1 j (qF `am z),P.bb,P.cs,P.sl,onb P,?_,λy hy hny=>?_,by rw[P.kt];omega,λj hj=>?_⟩,?_,e.dt⟩)
   ·rw[<-g2]
    exact pW (p:=s.t.ov x) (by rw[(P.d x hxD).2];omega)
   ·by_cases y1:y∈aw s.t.ov a (tl N s k)
    ·rw[(P.d y y1).1];have:=up0 y hy;omega
    ·by_cases y2:y∈aw s.t.ov b (hd N s k)
     ·rw[(P.u y y2).1];have:=u2 y y2;omega
     ·exact oth P y hy y1 y2
   ·have hy1:upN s.t.ov j (tl N s k)∈L1:=by rw[g3];exact du hj
    have hy:upN s.t.ov j (tl N s k)∈aw s.t.ov a (tl N s k):=du `am
    rw[di,(P.d _ hy).2]
    have:=c4 _ hy1
    omega
   ·rw[P.wo]
    have:=Int.mul_nonneg hx0 (Int.le_of_lt hga)
    omega
  ·obtain⟨i,h1,h2,h3,h4⟩:=up_case (rmD N s x) (some x) y Y1 Y2 hx0 `am hle u1 u3 u4 u5
   exact .inr (.inr ⟨i,_,_,_,h1,c2,by rw[u2,<-h2],h3,h4⟩)
noncomputable def ab(i:Int):Int:=if 0<=i then i else -i
noncomputable def Wm(N:Net):Int:=sm N.m (λk=>N.bd k*ab (N.ln k))
noncomputable def Cm(N:Net):Int:=sm N.m (λk=>ab (N.ln k))
theorem wN(i:Int):0<=ab i/\i<=ab i /\ -i<=ab i:=by unfold ab;omega
theorem Inv.wo_le(I:Inv N s):wo N s.fl<=Wm N:=pR λk hk=>by
 obtain⟨h1,h2⟩:=I.bb k hk
 obtain⟨a1,a2,_⟩:=wN (N.ln k)
 exact Int.le_trans (V7 a2 h1) (Int.mul_le_mul_of_nonneg_right h2 a1)
theorem Inv.tm_ge(I:Inv N s):∀(d p:Nat),p<=N.n->s.dp p=d->-((d:Int)*Cm N)<=s.tm p
 | 0,p,hp,hd=>by
  have:p=N.n:=by
   rcases Z6 p N.n with z | z
   ·have:=(I.tr.d p z).2;omega
   ·omega
  rw[this,I.rt]
  omega
 | d+1,p,hp,hd=>by
  have hpn:=I.tr.pos hp `am
  obtain⟨h1,h2⟩:=I.tr.d p hpn
  have ih:=I.tm_ge d (s.t.ov p) h1 `am
  have hl:=I.lk p hpn
  obtain⟨j1,j2⟩:=I.jn p hpn
  obtain⟨a1,a2,a3⟩:=wN (N.ln (s.t.hk p))
  have hc:ab (N.ln (s.t.hk p))<=Cm N:=ul (λj _=>(wN _).1) j1
  have he:((d+1:Nat):Int)*Cm N=(d:Int)*Cm N+Cm N:=by grind
  unfold lack at hl
  rcases j2 with ⟨z1,z2⟩ | ⟨z1,z2⟩
  all_goals grind
theorem jz:∀(n:Nat) (L:List Nat),L.Nodup->(∀x∈L,x<n)->L.length<=n
 | 0,L,_,h=>by
  cases L with
  | nil=>simp
  | cons x L=>exact absurd (h x υ) (Y8 _)
 | n+1,L,hn,h=>by
  have h1:=jz n (L.erase n) (hn.erase n) λx hx=>by
   grind
  grind
theorem Tree.dp_le(T:Tree n ov dp)(hp:p<=n):dp p<=n:=by
 have:=jz n (aw ov (dp p) p) (T.way_nd hp (ξ _)) λx hx=>(T.inway hp (ξ _) hx).1
 rwa[iL] at this
noncomputable def lw(N:Net):Int:=-((N.n:Int)*Cm N)
theorem Inv.tm_lw(I:Inv N s)(hp:p<=N.n):lw N<=s.tm p:=by
 have h1:=I.tm_ge (s.dp p) p hp rfl
 have h2:=I.tr.dp_le hp
 have h3:0<=Cm N:=yC λj _=>(wN _).1
 have:=Int.mul_le_mul_of_nonneg_right (show((s.dp p:Nat):Int)<=(N.n:Int) by omega) h3
 unfold lw
 omega
noncomputable def m1(N:Net)(s:St):Nat:=(Wm N-wo N s.fl).toNat
noncomputable def m2(N:Net)(s:St):Nat:=(sm N.n s.tm-sm N.n (λ_=>lw N)).toNat
def yb(N:Net)(s' s:St):Prop:=m1 N s'<m1 N s\/(m1 N s'=m1 N s/\m2 N s'<m2 N s)
theorem rq(I':Inv N s')(h:wo N s.fl<wo N s'.fl):yb N s' s:=by
 have:=I'.wo_le
 exact .inl (by unfold m1;omega)
theorem C7(I':Inv N s')(h:wo N s.fl<=wo N s'.fl)(ht:sm N.n s'.tm<sm N.n s.tm):yb N s' s:=by
 have h2:sm N.n (λ_=>lw N)<=sm N.n s'.tm:=pR λj hj=>I'.tm_lw `am
 rcases Int.lt_or_eq_of_le h with z | z
 ·exact rq I' z
 ·exact .inr ⟨by unfold m1;rw[z],by unfold m2;omega⟩
theorem shf_lt{ov:Nat->Nat}{p:Nat}{δ:Int}{tm:Nat->Int}(hp:p<N.n)(hd:δ<0):sm N.n (shf ov p δ tm)<sm N.n tm:=by
 refine sm_lt (λj _=>?_) hp ?_
 ·unfold shf
  omega
 ·unfold shf
  rw[if_pos ⟨0,rfl⟩]
  omega
theorem C6(N:Net):WellFounded (λs' s=>yb N s' s):=by
 refine Subrelation.wf (r:=InvImage (Prod.Lex (· < ·) (· < ·)) λs=>(m1 N s,m2 N s)) (λ{a b} h=>?_) (InvImage.wf _ (Prod.lex Nat.lt_wfRel Nat.lt_wfRel).wf)
 rcases h with h | ⟨h1,h2⟩
 ·exact Prod.Lex.left _ _ h
 ·show Prod.Lex (· < ·) (· < ·) (m1 N a,m2 N a) (m1 N b,m2 N b)
  rw[h1]
  exact Prod.Lex.right _ h2
end
theorem nY(f:Nat->Int)(m:Nat):∀n,sm (m+n) f=sm m f+sm n (λp=>f (m+p))
 | 0=>by rw[Nat.add_zero];show _=_+0;omega
 | n+1=>by rw[<-Nat.add_assoc,sm,nY f m n,sm];omega
structure Nw(N:Net)(m:Nat)(must:Nat->Bool)(tt:Int)(T:Nat->Int):Prop where
 mm:N.m=m+N.n
 lo:∀k,k<m->N.lo k<N.n
 hi:∀k,k<m->N.hi k<N.n
 tl:∀p,p<N.n->N.lo (m+p)=p/\N.hi (m+p)=N.n
 ts:sm m (λk=>if must k=true then 0 else N.bd k)=tt
 mb:∀k,k<m->must k=true->N.bd k=tt+1
 kp:∀k,k<m->must k=true->N.ln k<=T (N.hi k)-T (N.lo k)
structure Good(N:Net)(m:Nat)(must:Nat->Bool)(s:St):Prop where
 bb:∀k,k<m->0<=s.fl k/\(must k=false->s.fl k<=N.bd k)
 cs:∀p,p<N.n->sm m (λk=>s.fl k*inc N p k)=0
 mu:∀k,k<m->must k=true->lack N s.tm k<=0
 eq:sm m (λk=>s.fl k*N.ln k)=sm m (λk=>if must k=true then 0 else N.bd k*max 0 (lack N s.tm k))
section
theorem sK{π:Nat->Int}{n a b:Nat}(ha:a<n)(hb:b<n):sm n (λp=>π p*((if a=p then 1 else 0)-(if b=p then 1 else 0)))=π a-π b:=by
 rw[bv (g:=λp=>(if a=p then π p else 0)-(if b=p then π p else 0)) λp _=>?_,yA,nl ha,nl hb]
 grind
theorem Inv.ends(I:Inv N s)(W:Nw N m must tt T)(h:∀k,k<m->¬Wr N s k):Good N m must s:=by
 have hm:∀k,k<m->k<N.m:=λk hk=>by rw[W.mm];omega
 have h0:∀p,p<N.n->s.fl (m+p)=0:=by
  have c:=I.cs N.n
  rw[W.mm,nY,bv (k:=m) (g:=λ_=>0) λk hk=>?_,iN,bv (k:=N.n) (g:=λp=>s.fl (m+p)) λp hp=>?_] at c
  ·intro p hp
   have h1:=ul (f:=λp=>s.fl (m+p)) (k:=N.n) (i:=p) (λj hj=>(I.bb (m+j) (by rw[W.mm];omega)).1) hp
   have h2:=(I.bb (m+p) (by rw[W.mm];omega)).1
   try dsimp only at h1
   omega
  ·obtain⟨z1,z2⟩:=W.tl p hp
   unfold inc
   rw[z1,z2,if_pos rfl,if_neg `am]
   omega
  ·have z1:=W.lo k hk
   have z2:=W.hi k hk
   unfold inc
   rw[if_neg `am,if_neg `am]
   omega
 have cs:∀p,p<N.n->sm m (λk=>s.fl k*inc N p k)=0:=λp hp=>by
  have c:=I.cs p
  rw[W.mm,nY,bv (k:=N.n) (g:=λ_=>0) λq hq=>?_,iN] at c
  ·omega
  ·rw[h0 q hq,Int.zero_mul]
 have pot:∀π:Nat->Int,sm m (λk=>s.fl k*(π (N.hi k)-π (N.lo k)))=0:=λπ=>by
  rw[bv (g:=λk=>sm N.n (λp=>π p*(s.fl k*inc N p k))) λk hk=>?_,qP,bv (g:=λ_=>0) λp hp=>?_,iN]
  ·rw[nZ,cs p hp,U7]
  ·rw[<-sK (π:=π) (W.hi k hk) (W.lo k hk),<-nZ]
   refine bv λp _=>?_
   unfold inc
   rw[<-Int.mul_assoc,<-Int.mul_assoc,Int.mul_comm (π p)]
 have bb:=λk hk=>I.bb k (hm k hk)
 have wr:∀k,k<m->(0<lack N s.tm k->s.fl k=N.bd k)/\(lack N s.tm k<0->s.fl k=0):=λk hk=>by
  have h1:=h k hk
  have h2:=bb k hk
  refine⟨λz=>?_,λz=>?_⟩
  ·rcases Int.lt_or_eq_of_le h2.2 with w | w
   ·exact absurd ⟨hm k hk,.inl ⟨z,w⟩⟩ h1
   ·exact w
  ·rcases Int.lt_or_eq_of_le h2.1 with w | w
   ·exact absurd ⟨hm k hk,.inr ⟨z,w⟩⟩ h1
   ·exact w.symm
 have mk:∀k,k<m->must k=true->lack N s.tm k<=0:=λk hk hmu=>by
  apply Int.not_lt.mp
  intro hl
  have hfl:=(wr k hk).1 hl
  rw[W.mb k hk hmu] at hfl
  have hk1:=W.kp k hk hmu
  obtain⟨d,hd⟩:∃d:Nat->Int,d=λp=>s.tm p-T p:=⟨_,rfl⟩
  have hdd:∀p,d p=s.tm p-T p:=λp=>by rw[hd]
  have hc:=pot (λp=>if d (N.lo k)<=d p then 1 else 0)
  have hle:sm m (λj=>s.fl j*((if d (N.lo k)<=d (N.hi j) then 1 else 0)-(if d (N.lo k)<=d (N.lo j) then 1 else 0)))<=sm m (λj=>(if must j=true then 0 else N.bd j)+(if k=j then -(tt+1) else 0)):=by
   refine pR λj hj=>?_
   have hbj:=bb j hj
   by_cases e:k=j
   ·subst e
    rw[if_pos (V0 _),if_pos hmu,if_pos rfl,hfl]
    have:¬d (N.lo k)<=d (N.hi k):=by
     rw[hdd,hdd]
     unfold lack at hl
     omega
    rw[if_neg this]
    omega
   ·rw[if_neg e]
    by_cases hmj:must j=true
    ·rw[if_pos hmj]
     have hj1:=W.kp j hj hmj
     have hj2:=(wr j hj).2
     by_cases q1:d (N.lo k)<=d (N.hi j)
     ·rw[if_pos q1]
      by_cases q2:d (N.lo k)<=d (N.lo j)
      ·rw[if_pos q2];omega
      ·rw[if_neg q2]
       have:s.fl j=0:=hj2 (by
        rw[hdd,hdd] at q1 q2
        unfold lack
        omega)
       rw[this]
       omega
     ·rw[if_neg q1]
      split<;>omega
    ·rw[if_neg hmj]
     split<;>split<;>omega
  rw[hc,n0,W.ts,nl hk] at hle
  omega
 refine⟨λk hk=>⟨(bb k hk).1,λ_=>(bb k hk).2⟩,cs,mk,?_⟩
 have hz:=pot s.tm
 have:sm m (λk=>s.fl k*N.ln k)=sm m (λk=>s.fl k*lack N s.tm k)+sm m (λk=>s.fl k*(s.tm (N.hi k)-s.tm (N.lo k))):=by
  rw[<-n0]
  refine bv λk _=>?_
  rw[<-Int.mul_add]
  congr 1
  unfold lack
  omega
 rw[this,hz,U8]
 refine bv λk hk=>?_
 obtain⟨w1,w2⟩:=wr k hk
 by_cases hmk:must k=true
 ·rw[if_pos hmk]
  have:=mk k hk hmk
  rcases Int.lt_or_eq_of_le this with z | z
  ·rw[w2 z,Int.zero_mul]
  ·rw[z,U7]
 ·rw[if_neg hmk]
  rcases Int.lt_trichotomy (lack N s.tm k) 0 with z | z | z
  ·rw[w2 z,Int.zero_mul,Int.max_eq_left `am,U7]
  ·rw[z,U7,Int.max_eq_left `am,U7]
  ·rw[w1 z,Int.max_eq_right `am]
end
section
variable{n:Nat}{ov dp:Nat->Nat}{un:Nat->List Nat}
theorem Tree.root(T:Tree n ov dp)(hx:x<=n)(h:dp x<=i):upN ov i x=n:=by
 obtain⟨h1,h2⟩:=T.up (dp x) hx (ξ _)
 have hr:∀j,upN ov j n=n:=λj=>by
  induction j with
  | zero=>rfl
  | succ j ih=>rw[di,ih,T.o]
 have hy:upN ov (dp x) x=n:=by
  rcases Z6 (upN ov (dp x) x) n with z | z
  ·have:=(T.d _ z).2;omega
  ·omega
 rw[show i=dp x+(i-dp x) by omega,lc,hy,hr]
theorem Tree.sub_dep(T:Tree n ov dp)(hx:x<=n)(hc:c<n)(h:upN ov i x=c):dp c+i=dp x:=by
 rcases Z6 i (dp x) with z | z
 ·have:=(T.up i hx `am).2
  simp_all
 ·rw[T.root hx z] at h;omega
theorem Tree.sub_disj(T:Tree n ov dp){x c d:Nat}(hx:x<=n)(hc:c<n)(hd:d<n)(e:dp c=dp d)(h1:sub ov c x)(h2:sub ov d x):c=d:=by
 obtain⟨i,h1⟩:=h1
 obtain⟨j,h2⟩:=h2
 have a:=T.sub_dep hx hc h1
 have b:=T.sub_dep hx hd h2
 grind
theorem Tree.sub_iff(T:Tree n ov dp)(U:Und n ov un)(hp:p<n)(hx:x<=n):sub ov p x↔x=p\/∃c∈un p,sub ov c x:=by
 constructor
 ·rintro⟨i,h⟩
  cases i with
  | zero=>exact .inl h
  | succ i =>
   rw[di] at h
   have hle:=(T.ups i hx).1
   have hlt:upN ov i x<n:=by
    rcases Z6 (upN ov i x) n with z | z
    ·exact z
    ·rw[show upN ov i x=n by omega,T.o] at h;omega
   exact .inr ⟨_,((U p `am).2 _).mpr ⟨hlt,h⟩,i,rfl⟩
 ·rintro(rfl | ⟨c,hc,i,h⟩)
  ·exact⟨0,rfl⟩
  ·exact⟨i+1,by rw[di,h];exact(((U p `am).2 c).mp hc).2⟩
end
section
theorem Rv.down:∀{j p q r:Nat} {t:Tr},Rv N j p q r t->∀y∈aw t.ov j p,∃i,upN (eL j p q r t).ov i y=q
 | 0,_,_,_,_,_,y,hy=>by cases hy
 | j+1,p,q,r,t,R,y,hy=>by
  have hw:aw (put t.ov p q) j (t.ov p)=aw t.ov j (t.ov p):=eY R.not_in
  have hp:(eL (j+1) p q r t).ov p=q:=(R.next.out p (by show p∉aw (put t.ov p q) j (t.ov p);rw[hw];exact R.not_in)).1.trans aZ
  rcases ψ.mp hy with rfl | hy
  ·exact⟨1,hp⟩
  ·obtain⟨i,hi⟩:=R.next.down y (by show y∈aw (put t.ov p q) j (t.ov p);simp_all)
   refine⟨i+1,?_⟩
   rw[di]
   show(eL (j+1) p q r t).ov (upN (eL j (t.ov p) p (t.hk p) (t.re p q r)).ov i y)=q
   simp_all
theorem Hg.dep(I:Inv N s)(h:Hg N s k i p q fl)(T:Tree N.n (eL (i+1) p q k s.t).ov d):∀(m x:Nat),s.dp x=m->x<=N.n->¬sub (eL (i+1) p q k s.t).ov p x->s.dp x=d x:=by
 have R:=h.rv I
 have hw:aw (put s.t.ov p q) i (s.t.ov p)=aw s.t.ov i (s.t.ov p):=eY R.not_in
 have hdn:∀y∈aw s.t.ov (i+1) p,sub (eL (i+1) p q k s.t).ov p y:=λy hy=>by
  rcases ψ.mp hy with rfl | hy
  ·exact⟨0,rfl⟩
  ·exact R.next.down y (by show y∈aw (put s.t.ov p q) i (s.t.ov p);simp_all)
 intro m
 induction m with
 | zero =>
  intro x hm hx _
  have:x=N.n:=by
   rcases Z6 x N.n with z | z
   ·have:=(I.tr.d x z).2;omega
   ·omega
  rw[this,T.r,I.tr.r]
 | succ m ih =>
  intro x hm hx hs
  have hxn:=I.tr.pos hx `am
  obtain⟨o1,o2⟩:=I.tr.d x hxn
  have ho:=(R.out x λz=>hs (hdn x z)).1
  have e:=ih (s.t.ov x) `am o1 λ⟨j,z⟩=>hs ⟨j+1,by rw[upN,ho];exact z⟩
  have:=(T.d x hxn).2
  simp_all
end
end TR
namespace SL
section
variable{f fo fi fe:av->Sto->R (Val×Sto)}{fa:av->Sto->R (List Val×Sto)}{fc:av->Sto->R (Bool×Sto)}{g:SG}{δ δ':av}{μ μ' μ1 μ2 μ3:Sto}{v:Val}{n:Nat}
theorem aX:lvN k μ (.d x)=some x:=by cases k<;>rfl
theorem al(h:δ[i]?=some (some x))(h2:lvN 4 μ x=some d):ac i (viewN 4 μ δ)=M.ret d:=by
 refine aa ?_
 unfold viewN
 rw[Γ,h]
 show some (match lvN 4 μ x with | some d=>Sl.vl d | none=>.un)=_
 rw[h2]
theorem vB(h:δ[i]?=some (some x))(h2:lvN 4 μ x=some d):DL.jt (viewN 4 μ δ) i=.vl d:=by
 unfold DL.jt viewN
 rw[Γ,h]
 have h3:v1N 4 μ (some x)=.vl d:=by
  show(match lvN 4 μ x with | some d=>Sl.vl d | none=>.un)=_
  rw[h2]
 simp_all
theorem bJ{f:DS->M D}{d:D}(h:f (viewN 4 μ δ)=M.ret d)(hf:bA d=true):br f δ μ=R.ret (.d d,μ):=by
 unfold br;rw[h];show(if bA d=true then _ else _)=_;simp_all
theorem jQ(h:fb (viewN 4 μ δ)=M.ret b):iO fb δ μ=R.ret (b,μ):=by unfold iO;rw[h];rfl
theorem gQ(h:fn (viewN 4 μ δ)=M.ret ds)(hf:aD ds=true):gl fn δ μ=R.ret (.h μ.length,μ++[.lst (ds.map Val.d)]):=by
 unfold gl;rw[h];show(if aD ds=true then _ else _)=_;simp_all
theorem jR{f:DS->M D}{ds:List D}(h:f (viewN 4 μ δ)=M.ret (.list ds))(hf:aD ds=true):gW f δ μ=R.ret (.h μ.length,μ++[.lst (ds.map Val.d)]):=by
 unfold gW;rw[h];show(if aD ds=true then _ else _)=_;simp_all
theorem es_at(h1:fo δ μ=R.ret (.h k,μ1))(h2:μ1[k]?=some (.ins c fs))(h3:fs.lookup x=some v):sAt c x fo δ μ=R.ret (v,μ1):=by
 unfold sAt
 rw[h1,aQ]
 simp_all
theorem cS(h1:fe δ μ=R.ret (v,μ1))(h2:fo δ μ1=R.ret (.h k,μ2))(h3:μ2[k]?=some (.ins c fs))(h4:fs.length<1000):dL c x fo fe n δ μ=R.ret (.nx δ (μ2.set k (.ins c (fK x v fs)))):=by
 unfold dL
 rw[h1,aQ]
 rw[h2,aQ]
 simp_all
theorem mF(h1:fo δ μ=R.ret (.h k,μ1))(h2:μ1[k]?=some (.ins c fs))(h3:fs.lookup m=none)(h4:fa δ μ1=R.ret (xs,μ2))(h5:F (.h k::xs) μ2=R.ret (v,μ3)):lf c m F fo fa δ μ=R.ret (v,μ3):=by
 unfold lf
 rw[h1,aQ]
 dsimp only
 rw[h2]
 dsimp only
 rw[if_pos ⟨rfl,h3⟩,h4,aQ]
 rw[h5]
 rfl
theorem es_mk(h1:fa δ μ=R.ret (xs,μ1))(h2:F (.h μ1.length::xs) (μ1++[.ins c []])=R.ret (.d .none,μ2)):sMk c F fa δ μ=R.ret (.h μ1.length,μ2):=by
 unfold sMk
 rw[h1,aQ]
 rw[h2]
 rfl
theorem es_rem{k:Nat}{m:Int}{is:List Int}{ys:List Val}(h1:fo δ μ=R.ret (.h k,μ1))(h2:μ1[k]?=some (.lst ys))(h3:f δ μ1=R.ret (.d (.int m),μ2))(h4:μ2[k]?=some (.lst (is.map λi=>Val.d (.int i))))(h5:m∈is):wU fo f δ μ=R.ret (.d .none,μ2.set k (.lst ((is.eraseIdx (is.idxOf m)).map λi=>Val.d (.int i)))):=by
 unfold wU
 rw[h1,aQ]
 dsimp only
 rw[h2]
 rw[h3,aQ]
 rw[h4]
 dsimp only
 rw[ql]
 simp_all
theorem es_pop(h1:fo δ μ=R.ret (.h k,μ1))(h2:μ1[k]?=some (.lst xs))(h3:xs[xs.length-1]?=some v):wV fo δ μ=R.ret (v,μ1.set k (.lst xs.dropLast)):=by
 unfold wV
 rw[h1,aQ]
 simp_all
theorem es_ext(h1:fo δ μ=R.ret (.h k,μ1))(h2:μ1[k]?=some (.lst ys))(h3:f δ μ1=R.ret (.h j,μ2))(h4:μ2[k]?=some (.lst xs))(h5:μ2[j]?=some (.lst zs))(h6:aJ (xs.length+zs.length)=true):yG fo f δ μ=R.ret (.d .none,μ2.set k (.lst (xs++zs))):=by
 unfold yG
 rw[h1,aQ]
 dsimp only
 rw[h2]
 rw[h3,aQ]
 simp_all
theorem es_cat(h1:fo δ μ=R.ret (.h k,μ1))(h3:f δ μ1=R.ret (.h j,μ2))(h4:μ2[k]?=some (.lst xs))(h5:μ2[j]?=some (.lst zs))(h6:aJ (xs.length+zs.length)=true):BO fo f δ μ=R.ret (.h μ2.length,μ2++[.lst (xs++zs)]):=by
 unfold BO
 rw[h1,aQ]
 rw[h3,aQ]
 simp_all
theorem wy(h1:fo δ μ=R.ret (.h k,μ1))(h2:fi δ μ1=R.ret (.d (.int i),μ2))(h3:μ2[k]?=some (.lst xs))(h4:L2.atI xs i=some (.d (.int x)))(h5:f δ μ2=R.ret (.d (.int m),μ3))(h6:μ3[k]?=some (.lst ys))(h7:ixN ys.length i=some j):oi h fo fi f n δ μ=R.ret (.nx δ (μ3.set k (.lst (ys.set j (.d (.int (h x m))))))):=by
 unfold oi
 rw[h1,aQ]
 dsimp only
 rw[h2,aQ]
 rw[h3]
 dsimp only
 rw[h4]
 dsimp only
 rw[h5,aQ]
 simp_all
theorem lN(h:g μ.length (iM k xs) μ=R.ret (.nx δ μ')):kK k g xs μ=R.ret (.d .none,μ'):=by unfold kK;rw[h];rfl
theorem AR(h:fc δ μ=R.ret (false,μ1)):df fc g n δ μ=R.ret (.nx δ μ1):=by
 refine mH (n:=1) ?_
 unfold dI
 rw[h]
 rfl
theorem AQ(h1:fc δ μ=R.ret (true,μ1))(h2:g n δ μ1=R.ret (.nx δ' μ'))(h3:df fc g n δ' μ'=R.ret r):df fc g n δ μ=R.ret r:=by
 obtain⟨k,hk⟩:=n9 (show df fc g n δ' μ'=some (.ok r) from h3)
 refine mH (n:=k+1) ?_
 unfold dI
 rw[h1,aQ]
 rw[if_pos rfl,h2,aQ]
 exact hk
theorem Dy{f:DS->M D}{d:D}(h:f (viewN 4 μ δ)=M.ret d):pT f 0 δ μ=R.ret (.rt (.d d) []):=by unfold pT;rw[if_pos rfl,h];rfl
theorem wx{fa:DS->M (List D)}{t:D->av->Option av}{xs ds:List D}{r:R OutS}(h1:fa (viewN 4 μ δ)=M.ret xs)(h2:fJ xs=some ds)(h3:hJ t (g n) ds δ μ=r):sE fa t g n δ μ=r:=by
 unfold sE
 rw[h1]
 show(match fJ xs with | some ds=>hJ t (g n) ds δ μ | none=>none)=r
 simp_all
end
end SL
namespace CT
noncomputable def rg(L:Nat)(f:Nat->D):List D:=(Ψ L).map f
theorem ur(L:Nat)(f:Nat->D):(rg L f).length=L:=by unfold rg;simp
theorem ut(h:k<L):(rg L f)[k]?=some (f k):=by
 unfold rg
 simp_all
theorem vY{ds:List D}{k:Nat}{d:D}(h:ds[k]?=some d):oIx (.list ds) (.int (k:Int))=some d:=by
 have hk:= (ρ.mp h).1
 show L2.atI ds (k:Int)=some d
 unfold L2.atI
 rw[show L2.ixN ds.length (k:Int)=some k by unfold L2.ixN;simp;omega]
 exact h
theorem de{L:Nat}{f:Nat->D}{k:Nat}(h:k<L):oIx (.list (rg L f)) (.int (k:Int))=some (f k):=vY (ut h)
theorem rg_set:(rg L f).set k d=rg L (TR.put f k d):=by
 refine List.ext_getElem? λi=>?_
 rw[List.getElem?_set]
 unfold rg
 rw[Γ,Γ,ς,W0]
 by_cases e:k=i
 ·subst e
  rw[if_pos rfl]
  by_cases hk:k<L
  ·rw[if_pos hk,T4 hk]
   show some d=some (TR.put f k d k)
   rw[TR.aZ]
  simp_all
 ·rw[if_neg e]
  cases h:(Ψ L)[i]? with
  | none=>rfl
  | some j =>
   have hj:j=i:=by
    grind
   subst hj
   show some (f j)=some (TR.put f k d j)
   rw[TR.bx (λz=>e z.symm)]
theorem jw(h:∀k,k<L->f k=g k):rg L f=rg L g:=by
 unfold rg
 simp_all
structure Tn where
 n:Nat
 m:Nat
 rs:List Rl
 bd:Nat->Int
 b:Nat
noncomputable def Tn.r(E:Tn)(k:Nat):Rl:=E.rs.getD k r0
noncomputable def Tn.net(E:Tn):TR.Net:=⟨E.n,E.rs.length,λk=>(E.r k).lo,λk=>(E.r k).hi,λk=>(E.r k).le,E.bd⟩
theorem tN{E:Tn}{k:Nat}(h:k<E.rs.length):oIx (.list (E.rs.map rl)) (.int (k:Int))=some (rl (E.r k)):=by
 refine vY ?_
 rw[Γ,Δ h]
 unfold Tn.r
 simp_all
noncomputable def ovD(n x p:Nat):D:=if p<n then .int (x:Int) else .none
noncomputable def nS(a b c d e f g h i j:D):D:=iY "Tree" [("many",a),("rules",b),("bounds",c),("flow",d),("times",e),("over",f),("under",g),("hooks",h),("depths",i),("begin",j)]
section
variable(a b c d e f g h i j:D)
theorem Dq:aV "Tree" "many" (nS a b c d e f g h i j)=some a:=by rfl
theorem AB:aV "Tree" "rules" (nS a b c d e f g h i j)=some b:=by rfl
theorem xF:aV "Tree" "bounds" (nS a b c d e f g h i j)=some c:=by rfl
theorem Dr:aV "Tree" "flow" (nS a b c d e f g h i j)=some d:=by rfl
theorem AA:aV "Tree" "times" (nS a b c d e f g h i j)=some e:=by rfl
theorem Do:aV "Tree" "over" (nS a b c d e f g h i j)=some f:=by rfl
theorem AC:aV "Tree" "hooks" (nS a b c d e f g h i j)=some h:=by rfl
theorem xE:aV "Tree" "depths" (nS a b c d e f g h i j)=some i:=by rfl
theorem AD:aV "Tree" "begin" (nS a b c d e f g h i j)=some j:=by rfl
noncomputable def tats:List D:=[.tuple [.str "many",a],.tuple [.str "rules",b],.tuple [.str "bounds",c],.tuple [.str "flow",d],.tuple [.str "times",e],.tuple [.str "over",f],.tuple [.str "under",g],.tuple [.str "hooks",h],.tuple [.str "depths",i],.tuple [.str "begin",j]]
theorem at_t:kH "Tree" (nS a b c d e f g h i j)=some (tats a b c d e f g h i j):=by rfl
end
def noF(m:Str):Prop:=∀a b c d e f g h i j:D,iz m (tats a b c d e f g h i j)=true
theorem nG:noF "lack_of" := λ_ _ _ _ _ _ _ _ _ _=>by rfl
theorem zP:noF "is_wrong" := λ_ _ _ _ _ _ _ _ _ _=>by rfl
theorem zQ:noF "worst_rule" := λ_ _ _ _ _ _ _ _ _ _=>by rfl
theorem uH:noF "meeting" := λ_ _ _ _ _ _ _ _ _ _=>by rfl
theorem uG:noF "way" := λ_ _ _ _ _ _ _ _ _ _=>by rfl
theorem C0:noF "step_down" := λ_ _ _ _ _ _ _ _ _ _=>by rfl
theorem nf_up:noF "step_up" := λ_ _ _ _ _ _ _ _ _ _=>by rfl
theorem j0:noF "room" := λ_ _ _ _ _ _ _ _ _ _=>by rfl
theorem xq:noF "timing" := λ_ _ _ _ _ _ _ _ _ _=>by rfl
theorem nf_fr:noF "flow_of_rules" := λ_ _ _ _ _ _ _ _ _ _=>by rfl
structure Tf(E:Tn)(s:TR.St)(X:D):Prop where
 many:aV "Tree" "many" X=some (.int (E.m:Int))
 rules:aV "Tree" "rules" X=some (.list (E.rs.map rl))
 bounds:aV "Tree" "bounds" X=some (.list (rg E.rs.length λk=>.int (E.bd k)))
 flow:aV "Tree" "flow" X=some (.list (rg E.rs.length λk=>.int (s.fl k)))
 times:aV "Tree" "times" X=some (.list (rg (E.n+1) λp=>.int (s.tm p)))
 over:aV "Tree" "over" X=some (.list (rg (E.n+1) λp=>ovD E.n (s.t.ov p) p))
 hooks:aV "Tree" "hooks" X=some (.list (rg (E.n+1) λp=>ovD E.n (s.t.hk p) p))
 depths:aV "Tree" "depths" X=some (.list (rg (E.n+1) λp=>.int (s.dp p:Int)))
 begin_:aV "Tree" "begin" X=some (.int (E.b:Int))
 me:∃r,kH "Tree" X=some r/\∀m,noF m->iz m r=true
section
variable{E:Tn}{s:TR.St}{X:D}
theorem cn(T:Tf E s X){m:Str}(hm:noF m){F:List D->M D}{fo:DS->M D}{fa:DS->M (List D)}{δ:DS}{d:D}{ds:List D}(h1:fo δ=M.ret X)(h4:fa δ=M.ret ds)(h5:F (X::ds)=M.ret d):dMe "Tree" m (λds=>noX (F ds)) fo fa δ=M.ret d:=by
 obtain⟨r,h2,h3⟩:=T.me
 exact ev_me h1 h2 (h3 m hm) h4 h5
def Pin(E:Tn):Prop:=∀k,k<E.rs.length->(E.r k).lo<=E.n/\(E.r k).hi<=E.n
theorem rB(T:Tf E s X)(hP:Pin E)(hk:k<E.rs.length):bU [X,.int (k:Int)]=M.ret (.int (TR.lack E.net s.tm k)):=by
 obtain⟨h1,h2⟩:=hP k hk
 refine bh ?_
 refine ax (aN (ag (bW `on T.rules) `on (tN hk))) ?_
 exact bX (ag (ag (ag `on aj (rF _)) (ag (bW `on T.times) (ag `on aj (gx _)) (de `am)) iw) (ag (bW `on T.times) (ag `on aj (g9 _)) (de `am)) bD)
theorem yf(T:Tf E s X){k:Nat}(hk:k<E.rs.length)(l:Int):cC [X,.int (k:Int),.int l]=M.ret (.bool (if 0<l then decide (s.fl k<E.bd k) else decide (0<s.fl k))):=by
 refine bh ?_
 refine bX (kF (bi (ag `on aj rb)) ?_)
 by_cases h:0<l
 ·rw[if_pos h]
  exact qj h (ag (ag (bW `on T.flow) `on (de hk)) (ag (bW `on T.bounds) `on (de hk)) oF)
 ·rw[if_neg h]
  exact qk h (ag (ag (bW `on T.flow) `on (de hk)) aj rb)
theorem rc(i:Int):rf [.int i]=some (.int (TR.ab i)):=by
 unfold TR.ab
 show some (ζ _)=some (ζ _)
 grind
theorem oU{x:Nat}{p:Nat}(h:p<E.n):ovD E.n x p=.int (x:Int):=if_pos h
theorem sdn_ev(T:Tf E s X)(hq:q<E.n)(hk:s.t.hk q<E.rs.length):cx [X,.int (q:Int)]=M.ret (.tuple [.int (q:Int),.int (s.t.hk q:Int),.bool (decide ((E.r (s.t.hk q)).hi=q))]):=by
 have g:oIx (.list (rg (E.n+1) λp=>ovD E.n (s.t.hk p) p)) (.int (q:Int))=some (.int (s.t.hk q:Int)):=by rw[de `am,oU hq]
 have e:(decide (((E.r (s.t.hk q)).hi:Int)=(q:Int)))=decide ((E.r (s.t.hk q)).hi=q):=decide_eq_decide.mpr `am
 refine bh ?_
 rw[<-e]
 exact bX (bR (ad `on (ad (ag (bW `on T.hooks) `on g) (ad (ag (ag (ag (bW `on T.rules) (ag (bW `on T.hooks) `on g) (tN hk)) aj (gx _)) `on zK) af))) rfl)
theorem sup_ev(T:Tf E s X)(hq:q<E.n)(hk:s.t.hk q<E.rs.length):cZ [X,.int (q:Int)]=M.ret (.tuple [.int (q:Int),.int (s.t.hk q:Int),.bool (decide ((E.r (s.t.hk q)).lo=q))]):=by
 have g:oIx (.list (rg (E.n+1) λp=>ovD E.n (s.t.hk p) p)) (.int (q:Int))=some (.int (s.t.hk q:Int)):=by rw[de `am,oU hq]
 have e:(decide (((E.r (s.t.hk q)).lo:Int)=(q:Int)))=decide ((E.r (s.t.hk q)).lo=q):=decide_eq_decide.mpr `am
 refine bh ?_
 rw[<-e]
 exact bX (bR (ad `on (ad (ag (bW `on T.hooks) `on g) (ad (ag (ag (ag (bW `on T.rules) (ag (bW `on T.hooks) `on g) (tN hk)) aj (g9 _)) `on zK) af))) rfl)
theorem vF(T:Tf E s X)(hk:k<E.rs.length)(x:D)(b:Bool):c6 [X,.tuple [x,.int (k:Int),.bool b]]=M.ret (.int (if b=true then E.bd k-s.fl k else s.fl k)):=by
 refine bh ?_
 refine bX (kF (bi (ag `on aj (rfl:oIx (.tuple [x,.int (k:Int),.bool b]) (.int 2)=some (.bool b)))) ?_)
 cases b with
 | true=>exact fM rfl (ag (ag (bW `on T.bounds) `on (de hk)) (ag (bW `on T.flow) `on (de hk)) iw)
 | false=>exact gy rfl (ag (bW `on T.flow) `on (de hk))
theorem uJ(T:Tf E s X)(Tr:TR.Tree E.n s.t.ov s.dp)(hm:TR.Meet s.t.ov s.dp p q t)(hp:p<=E.n)(hq:q<=E.n):eJ [X,.int (p:Int),.int (q:Int)]=M.ret (.int (t:Int)):=by
 have key:cO (dB (d2 oNe (ac 1) (ac 2))) eX [.vl X,.vl (.int (p:Int)),.vl (.int (q:Int))]=M.ret (.nx [.vl X,.vl (.int (t:Int)),.vl (.int (t:Int))]):=by
  induction hm with
  | done p=>exact kS (bi (ag `on `on (by rw[uD,decide_eq_true rfl];rfl)))
  | @one p q t h hd m ih =>
   have hpn:p<E.n:=by
    rcases Z6 p E.n with z | z
    ·exact z
    ·have e:p=E.n:=by omega
     rw[e,Tr.r] at hd
     rcases Z6 q E.n with z | z
     ·have:=(Tr.d q z).2;omega
     ·omega
   refine i0 (bi (ag `on `on (by rw[uD,decide_eq_false `am];rfl))) ?_ (ih (Tr.d p hpn).1 hq)
   exact hV (bi (ag (ag (bW `on T.depths) `on (de `am)) (ag (bW `on T.depths) `on (de `am)) o_ge)) (qj `am (aN (ag (bW `on T.over) `on (by rw[de `am,oU hpn]))))
  | @two p q t h hd m ih =>
   have hqn:=Tr.pos hq `am
   refine i0 (bi (ag `on `on (by rw[uD,decide_eq_false `am];rfl))) ?_ (ih hp (Tr.d q hqn).1)
   exact hV (bi (ag (ag (bW `on T.depths) `on (de `am)) (ag (bW `on T.depths) `on (de `am)) o_ge)) (qk `am (aN (ag (bW `on T.over) `on (by rw[de `am,oU hqn]))))
 refine bh ?_
 exact ax key (bX `on)
noncomputable def be(L:List Nat):List D:=L.map λq:Nat=>ζ (q:Int)
theorem jA(L:List Nat):aD (be L)=true:=by
 induction L with
 | nil=>rfl
 | cons a L ih=>exact ih
theorem nP(T:Tf E s X)(Tr:TR.Tree E.n s.t.ov s.dp)(b:DS->M Out)(hb:b=jd):∀(k p:Nat) (acc:List D),p<=E.n->k<=s.dp p->acc.length+k<=1000->cO (dB (d2 oNe (ac 1) (ac 2))) b [.vl X,.vl (.int (p:Int)),.vl (.int (TR.upN s.t.ov k p:Int)),.ow acc]=M.ret (.nx [.vl X,.vl (.int (TR.upN s.t.ov k p:Int)),.vl (.int (TR.upN s.t.ov k p:Int)),.ow (acc++be (TR.aw s.t.ov k p))])
 | 0,p,acc,hp,hk,_=>by
  show _=M.ret (Out.nx [.vl X,.vl (.int (p:Int)),.vl (.int (p:Int)),.ow (acc++[])])
  rw[Z3]
  exact kS (bi (ag `on `on (by show some (PyData.bool (!decide ((p:Int)=(p:Int))))=_;simp)))
 | k+1,p,acc,hp,hk,hz=>by
  have hpn:=Tr.pos hp `am
  obtain⟨h1,h2⟩:=Tr.d p hpn
  obtain⟨h3,h4⟩:=Tr.up (k+1) hp hk
  have ih:=nP T Tr b hb k (s.t.ov p) (acc++[ζ (p:Int)]) h1 `am (by grind)
  rw[T7] at ih
  refine i0 (δ':=[.vl X,.vl (.int (s.t.ov p:Int)),.vl (.int (TR.upN s.t.ov (k+1) p:Int)),.ow (acc++[ζ (p:Int)])]) (bi (ag `on `on (by
   rw[uD,decide_eq_false (λz=>?_)]
   all_goals grind))) ?_ ih
  rw[hb]
  exact ax (kT rfl `on (aF `am)) (aN (ag (bW `on T.over) `on (by rw[de `am,oU hpn])))
theorem uf(T:Tf E s X)(Tr:TR.Tree E.n s.t.ov s.dp)(hp:p<=E.n)(hk:k<=s.dp p)(hn:E.n<=900)(ht:TR.upN s.t.ov k p=t):gG [X,.int (p:Int),.int (t:Int)]=M.ret (.list (be (TR.aw s.t.ov k p))):=by
 have hd:=Tr.dp_le hp
 have h:=nP T Tr _ rfl k p [] hp hk (by grind)
 rw[ht] at h
 refine bh ?_
 refine ax (gP (bB af rfl)) (ax h ?_)
 rfl
theorem ue(T:Tf E s X)(Tr:TR.Tree E.n s.t.ov s.dp)(hp:p<=E.n)(hk:k<=s.dp p)(hn:E.n<=900)(ht:TR.upN s.t.ov k p=t):eI [X,.int (p:Int),.int (t:Int)]=M.ret (.list (be (TR.aw s.t.ov k p))):=by
 have hd:=Tr.dp_le hp
 have h:=nP T Tr eW rfl k p [] hp hk (by grind)
 rw[ht] at h
 refine bh ?_
 have seqN:∀{g h:DS->M Out} {δ δ':DS} {r:M Out},g δ=M.ret (.nx δ')->h δ'=r->dS g h δ=r:=λ{g h δ δ' r} h1 h2=>by unfold dS;rw[h1];exact h2
 refine seqN (gP (bB af rfl)) (seqN h ?_)
 exact wm rfl (jA _)
end
section
theorem rng_at{b m:Nat}{p q:List D}{d:D}(e:bF (b:Int) m=p++d::q):d=.int ((b+p.length:Nat):Int)/\p.length<m:=by
 have h:(bF (b:Int) m)[p.length]?=some d:=by simp_all
 unfold bF at h
 grind
theorem yg(T:Tf E s X)(hP:Pin E)(hm:E.m<=E.rs.length)(hz:E.m<=1000)(hbe:b<=e)(hem:e<=E.m):∃w:Option Nat,cL [X,.int (b:Int),.int (e:Int)]=M.ret (zd w)/\(w=none->∀k,b<=k->k<e->¬TR.Wr E.net s k)/\(∀k,w=some k->k<E.m/\TR.Wr E.net s k):=by
 let S:List D->DS->Prop:=λp δ=>∃(w:Option Nat) (mo:Int) (x5 x6:Sl),δ=[.vl X,.vl (.int (b:Int)),.vl (.int (e:Int)),.vl (zd w),.vl (.int mo),x5,x6]/\0<=mo/\(w=none->mo=0/\∀k,b<=k->k<b+p.length->¬TR.Wr E.net s k)/\(∀k,w=some k->k<E.m/\TR.Wr E.net s k)
 have hloop:∃δ',iB (cr (tgN 5) bK) (bF (b:Int) (e-b)) [.vl X,.vl (.int (b:Int)),.vl (.int (e:Int)),.vl .none,.vl (.int 0),.un,.un]=M.ret (.nx δ')/\S (bF (b:Int) (e-b)) δ':=by
  have main:∀(q p:List D) (δ:DS),bF (b:Int) (e-b)=p++q->S p δ->∃δ',iB (cr (tgN 5) bK) q δ=M.ret (.nx δ')/\S (bF (b:Int) (e-b)) δ':=by
   intro q
   induction q with
   | nil =>
    intro p δ ee h
    rw[Z3] at ee
    exact⟨δ,rfl,ee▸h⟩
   | cons d q ih =>
    rintro p δ ee ⟨w,mo,x5,x6,rfl,h0,h1,h2⟩
    obtain⟨rfl,hp⟩:=rng_at ee
    obtain⟨kk,hkk⟩:∃kk,kk=b+p.length:=⟨_,rfl⟩
    rw[<-hkk]
    have hk:kk<E.rs.length:=by omega
    obtain⟨l,hl⟩:∃l,l=TR.lack E.net s.tm kk:=⟨_,rfl⟩
    have hlk:=rB T hP hk
    rw[<-hl] at hlk
    have hwr:=yf T hk l
    obtain⟨bw,hb⟩:∃bw:Bool,bw=(if 0<l then decide (s.fl kk<E.bd kk) else decide (0<s.fl kk)):=⟨_,rfl⟩
    rw[<-hb] at hwr
    have hW:TR.Wr E.net s kk↔(l≠0/\bw=true):=by
     unfold TR.Wr
     rw[<-hl,hb]
     show(kk<E.rs.length/\((0<l/\s.fl kk<E.bd kk)\/(l<0/\0<s.fl kk)))↔_
     grind
    have hab:0<=TR.ab l/\(TR.ab l=0↔l=0):=by unfold TR.ab;omega
    have step:∃δ',cr (tgN 5) bK (.int (kk:Int)) [.vl X,.vl (.int (b:Int)),.vl (.int (e:Int)),.vl (zd w),.vl (.int mo),x5,x6]=M.ret (.nx δ')/\S (p++[.int (kk:Int)]) δ':=by
     have hc:jT (dB (d2 oGt (dCB rf (ae (ac 6) ak)) (ac 4))) (dB (dMe "Tree" "is_wrong" (λds=>noX (cC ds)) (ac 0) (ae (ac 5) (ae (ac 6) ak)))) [.vl X,.vl (.int (b:Int)),.vl (.int (e:Int)),.vl (zd w),.vl (.int mo),.vl (.int (kk:Int)),.vl (.int l)]=M.ret (decide (mo<TR.ab l)&&bw) :=
      rN (bi (ag (bS (ad `on af) (rc l)) `on rb)) (bi (cn T zP `on (ad `on (ad `on af)) hwr))
     by_cases hcc:(decide (mo<TR.ab l)&&bw)=true
     ·rw[hcc] at hc
      rw[Z2,decide_eq_true_eq] at hcc
      have hl0:l≠0:=λz=>by
       omega
      refine⟨[.vl X,.vl (.int (b:Int)),.vl (.int (e:Int)),.vl (zd (some kk)),.vl (.int (TR.ab l)),.vl (.int (kk:Int)),.vl (.int l)],?_,some kk,TR.ab l,_,_,rfl,hab.1,(λz=>nomatch z),(λk z=>by grind)⟩
      refine ax (aN (cn T nG `on (ad `on af) hlk)) ?_
      refine hV hc (fM rfl ?_)
      refine ax (aN `on) ?_
      exact aN (bS (ad `on af) (rc l))
     ·rw[Bool.eq_false_iff.mpr hcc] at hc
      refine⟨[.vl X,.vl (.int (b:Int)),.vl (.int (e:Int)),.vl (zd w),.vl (.int mo),.vl (.int (kk:Int)),.vl (.int l)],?_,w,mo,_,_,rfl,h0,λz=>⟨(h1 z).1,λk hk1 hk2=>?_⟩,h2⟩
      ·refine ax (aN (cn T nG `on (ad `on af) hlk)) ?_
       exact hV hc (gy rfl rfl)
      grind
    obtain⟨δ',g1,g2⟩:=step
    obtain⟨δ2,g3,g4⟩:=ih (p++[.int (kk:Int)]) δ' (by simp_all) g2
    exact⟨δ2,cm g1 g3,g4⟩
  exact main (bF (b:Int) (e-b)) [] _ rfl ⟨none,0,.un,.un,rfl,V0 _,λ_=>⟨rfl,λk hk1 (hk2:k<b+0)=>by omega⟩,λk z=>by cases z⟩
 obtain⟨δ',g1,w,mo,x5,x6,rfl,h0,h1,h2⟩:=hloop
 refine⟨w,?_,λz k hk1 hk=>(h1 z).2 k hk1 (by unfold bF;simp_all),h2⟩
 refine bh ?_
 refine ax (aN aj) (ax (aN aj) (ax (e9 (gN (ad `on (ad `on af)) ?_) g1) ?_))
 ·show(if (b62 (b:Int)&&b62 (e:Int))=true then some (bF (b:Int) ((e:Int)-(b:Int)).toNat) else none)=_
  rw[if_pos (by unfold b62;simp;omega),show((e:Int)-(b:Int)).toNat=e-b by omega]
 rfl
end
end CT
namespace SL
section
theorem i9(h:f δ μ=R.ret (v,μ')):il f n δ μ=R.ret (.nx δ μ'):=by
 unfold il
 rw[h]
 rfl
theorem es_app(h1:fo δ μ=R.ret (.h k,μ1))(h2:μ1[k]?=some (.lst ys))(h3:f δ μ1=R.ret (v,μ'))(h4:μ'[k]?=some (.lst xs))(hs:aJ (xs.length+1)=true):wY fo f δ μ=R.ret (.d .none,μ'.set k (.lst (xs++[v]))):=by
 unfold wY
 rw[h1,aQ]
 dsimp only
 rw[h2]
 rw[h3,aQ]
 simp_all
theorem es_ix(h1:fo δ μ=R.ret (.h k,μ1))(h2:fi δ μ1=R.ret (.d (.int i),μ'))(h3:μ'[k]?=some (.lst xs))(h4:L2.atI xs i=some v):sIx fo fi δ μ=R.ret (v,μ'):=by
 unfold sIx
 rw[h1,aQ]
 rw[h2,aQ]
 simp_all
end
end SL
namespace CT
noncomputable def tfs(E:Tn):List (Str×Val):=[("many",.d (.int (E.m:Int))),("rules",.d (.list (E.rs.map rl))),("bounds",.h 1),("flow",.h 2),("times",.h 3),("over",.h 4),("under",.h (8+E.n)),("hooks",.h (9+E.n)),("depths",.h (10+E.n)),("begin",.d (.int (E.b:Int)))]
abbrev vls(ds:List D):Ob:=.lst (ds.map Val.d)
structure Rp(E:Tn)(s:TR.St)(μ:Sto):Prop where
 h0:μ[0]?=some (.ins "Tree" (tfs E))
 h1:μ[1]?=some (vls (rg E.rs.length λk=>.int (E.bd k)))
 h2:μ[2]?=some (vls (rg E.rs.length λk=>.int (s.fl k)))
 h3:μ[3]?=some (vls (rg (E.n+1) λp=>.int (s.tm p)))
 h4:μ[4]?=some (vls (rg (E.n+1) λp=>ovD E.n (s.t.ov p) p))
 hu:μ[8+E.n]?=some (.lst ((Ψ (E.n+1)).map λp=>Val.h (6+p)))
 hc:∀p,p<=E.n->μ[6+p]?=some (vls (be (s.t.un p)))
 hh:μ[9+E.n]?=some (vls (rg (E.n+1) λp=>ovD E.n (s.t.hk p) p))
 hd:μ[10+E.n]?=some (vls (rg (E.n+1) λp=>.int (s.dp p:Int)))
section
variable{E:Tn}{s s':TR.St}{μ μ':Sto}
theorem Rp.len(P:Rp E s μ):11+E.n<=μ.length:=by
 have:=(ρ.mp P.hd).1
 omega
theorem Rp.keep(P:Rp E s μ)(h:∀i,i<11+E.n->μ'[i]?=μ[i]?):Rp E s μ' :=
 ⟨(h _ `am).trans P.h0,(h _ `am).trans P.h1,(h _ `am).trans P.h2,(h _ `am).trans P.h3,(h _ `am).trans P.h4,(h _ `am).trans P.hu,λp hp=>(h _ `am).trans (P.hc p hp),(h _ `am).trans P.hh,(h _ `am).trans P.hd⟩
theorem Rp.app(P:Rp E s μ)(L:Sto):Rp E s (μ++L):=P.keep λi hi=>ι (by have:=P.len;omega)
theorem Rp.setO(P:Rp E s μ)(hi:11+E.n<=i):Rp E s (μ.set i x):=P.keep λj hj=>by grind
theorem bY{i:Nat}{x:Ob}(h:i<μ.length):(μ.set i x)[i]?=some x:=by simp_all
theorem ar{i j:Nat}{x:Ob}(h:i≠j):(μ.set i x)[j]?=μ[j]?:=by simp_all
theorem Rp.fl(P:Rp E s μ)(f:Nat->Int):Rp E { s with fl:=f } (μ.set 2 (vls (rg E.rs.length λk=>.int (f k)))):=by
 have hl:=P.len
 exact⟨(ar `am).trans P.h0,(ar `am).trans P.h1,bY `am,(ar `am).trans P.h3,(ar `am).trans P.h4,(ar `am).trans P.hu,λp hp=>(ar `am).trans (P.hc p hp),(ar `am).trans P.hh,(ar `am).trans P.hd⟩
theorem Rp.tm(P:Rp E s μ)(f:Nat->Int):Rp E { s with tm:=f } (μ.set 3 (vls (rg (E.n+1) λp=>.int (f p)))):=by
 have hl:=P.len
 exact⟨(ar `am).trans P.h0,(ar `am).trans P.h1,(ar `am).trans P.h2,bY `am,(ar `am).trans P.h4,(ar `am).trans P.hu,λp hp=>(ar `am).trans (P.hc p hp),(ar `am).trans P.hh,(ar `am).trans P.hd⟩
theorem Rp.ov(P:Rp E s μ)(f:Nat->Nat):Rp E { s with t:={ s.t with ov:=f } } (μ.set 4 (vls (rg (E.n+1) λp=>ovD E.n (f p) p))):=by
 have hl:=P.len
 exact⟨(ar `am).trans P.h0,(ar `am).trans P.h1,(ar `am).trans P.h2,(ar `am).trans P.h3,bY `am,(ar `am).trans P.hu,λp hp=>(ar `am).trans (P.hc p hp),(ar `am).trans P.hh,(ar `am).trans P.hd⟩
theorem Rp.hk(P:Rp E s μ)(f:Nat->Nat):Rp E { s with t:={ s.t with hk:=f } } (μ.set (9+E.n) (vls (rg (E.n+1) λp=>ovD E.n (f p) p))):=by
 have hl:=P.len
 exact⟨(ar `am).trans P.h0,(ar `am).trans P.h1,(ar `am).trans P.h2,(ar `am).trans P.h3,(ar `am).trans P.h4,(ar `am).trans P.hu,λp hp=>(ar `am).trans (P.hc p hp),bY `am,(ar `am).trans P.hd⟩
theorem Rp.dp(P:Rp E s μ)(f:Nat->Nat):Rp E { s with dp:=f } (μ.set (10+E.n) (vls (rg (E.n+1) λp=>.int (f p:Int)))):=by
 have hl:=P.len
 exact⟨(ar `am).trans P.h0,(ar `am).trans P.h1,(ar `am).trans P.h2,(ar `am).trans P.h3,(ar `am).trans P.h4,(ar `am).trans P.hu,λp hp=>(ar `am).trans (P.hc p hp),(ar `am).trans P.hh,bY `am⟩
theorem Rp.un(P:Rp E s μ){q:Nat}(hq:q<=E.n)(L:List Nat):Rp E { s with t:={ s.t with un:=TR.put s.t.un q L } } (μ.set (6+q) (vls (be L))):=by
 have hl:=P.len
 refine⟨(ar `am).trans P.h0,(ar `am).trans P.h1,(ar `am).trans P.h2,(ar `am).trans P.h3,(ar `am).trans P.h4,(ar `am).trans P.hu,λp hp=>?_,(ar `am).trans P.hh,(ar `am).trans P.hd⟩
 show _=some (vls (be (TR.put s.t.un q L p)))
 by_cases e:p=q
 ·subst e
  rw[TR.aZ]
  exact bY `am
 ·rw[TR.bx e]
  exact(ar `am).trans (P.hc p hp)
theorem Rp.congr(P:Rp E s μ)(h1:s'.fl=s.fl)(h2:s'.t=s.t)(h3:∀x,x<=E.n->s'.tm x=s.tm x/\s'.dp x=s.dp x):Rp E s' μ:=by
 refine⟨P.h0,P.h1,by rw[h1];exact P.h2,?_,by rw[h2];exact P.h4,P.hu,by rw[h2];exact P.hc,by rw[h2];exact P.hh,?_⟩
 ·rw[P.h3,jw (g:=λp=>.int (s'.tm p)) λk hk=>by grind]
 ·rw[P.hd,jw (g:=λp=>.int (s'.dp p:Int)) λk hk=>by grind]
theorem ma:∀{l:List α},(∀x∈l,f x=some (g x))->cH (l.map f)=some (l.map g)
 | [],_=>rfl
 | x::l,h=>by
  rw[ω,h x υ]
  show(cH (l.map f)).map (g x :: ·)=_
  rw[ma λy hy=>h y (θ _ hy)]
  rfl
theorem b8(h:μ[k]?=some (vls ds)):lvN (f+1) μ (.h k)=some (.list ds):=by
 show(match μ[k]? with
   | some (.lst xs)=>(cH (xs.map (lvN f μ))).map Θ
   | some (.ins c fs)=>(cH ((fs.map Prod.snd).map (lvN f μ))).map λds=>iY c ((fs.map Prod.fst).zip ds)
   | _=>none)=_
 rw[h]
 show(cH ((ds.map Val.d).map (lvN f μ))).map Θ=_
 rw[Y9,ma (f:=lvN f μ∘Val.d) λx _=>aX,List.map_id']
 rfl
theorem Rp.tf(P:Rp E s μ):∃X,lvN 4 μ (.h 0)=some X/\Tf E s X:=by
 have hU:lvN 3 μ (.h (8+E.n))=some (.list ((Ψ (E.n+1)).map λp=>Θ (be (s.t.un p)))):=by
  show(match μ[8+E.n]? with
    | some (.lst xs)=>(cH (xs.map (lvN 2 μ))).map Θ
    | some (.ins c fs)=>(cH ((fs.map Prod.snd).map (lvN 2 μ))).map λds=>iY c ((fs.map Prod.fst).zip ds)
    | _=>none)=_
  rw[P.hu]
  show(cH (((Ψ (E.n+1)).map λp=>Val.h (6+p)).map (lvN 2 μ))).map Θ=_
  rw[Y9,ma (f:=lvN 2 μ∘λp=>Val.h (6+p)) λp hp=>b8 (P.hc p (by grind))]
  rfl
 refine⟨nS (.int (E.m:Int)) (.list (E.rs.map rl)) (.list (rg E.rs.length λk=>.int (E.bd k))) (.list (rg E.rs.length λk=>.int (s.fl k))) (.list (rg (E.n+1) λp=>.int (s.tm p))) (.list (rg (E.n+1) λp=>ovD E.n (s.t.ov p) p)) (.list ((Ψ (E.n+1)).map λp=>Θ (be (s.t.un p)))) (.list (rg (E.n+1) λp=>ovD E.n (s.t.hk p) p)) (.list (rg (E.n+1) λp=>.int (s.dp p:Int))) (.int (E.b:Int)),?_,⟨Dq _ _ _ _ _ _ _ _ _ _,AB _ _ _ _ _ _ _ _ _ _,xF _ _ _ _ _ _ _ _ _ _,Dr _ _ _ _ _ _ _ _ _ _,AA _ _ _ _ _ _ _ _ _ _,Do _ _ _ _ _ _ _ _ _ _,AC _ _ _ _ _ _ _ _ _ _,xE _ _ _ _ _ _ _ _ _ _,AD _ _ _ _ _ _ _ _ _ _,_,at_t _ _ _ _ _ _ _ _ _ _,λm hm=>hm _ _ _ _ _ _ _ _ _ _⟩⟩
 show(match μ[0]? with
   | some (.lst xs)=>(cH (xs.map (lvN 3 μ))).map Θ
   | some (.ins c fs)=>(cH ((fs.map Prod.snd).map (lvN 3 μ))).map λds=>iY c ((fs.map Prod.fst).zip ds)
   | _=>none)=_
 rw[P.h0]
 show(cH [lvN 3 μ (.d _),lvN 3 μ (.d _),lvN 3 μ (.h 1),lvN 3 μ (.h 2),lvN 3 μ (.h 3),lvN 3 μ (.h 4),lvN 3 μ (.h (8+E.n)),lvN 3 μ (.h (9+E.n)),lvN 3 μ (.h (10+E.n)),lvN 3 μ (.d _)]).map _=_
 rw[aX,aX,aX,b8 P.h1,b8 P.h2,b8 P.h3,b8 P.h4,hU,b8 P.hh,b8 P.hd]
 rfl
theorem rQ(P:Rp E s μ)(h0:δ[0]?=some (some (.h 0)))(h:(tfs E).lookup x=some v):sAt "Tree" x (aI 0) δ μ=R.ret (v,μ):=es_at (aL h0) P.h0 h
theorem zY:(tfs E).lookup ("times" : Str)=some (.h 3):=rfl
theorem C4:(tfs E).lookup ("over" : Str)=some (.h 4):=rfl
theorem C5:(tfs E).lookup ("flow" : Str)=some (.h 2):=rfl
theorem zX:(tfs E).lookup ("under" : Str)=some (.h (8+E.n)):=rfl
theorem zZ:(tfs E).lookup ("hooks" : Str)=some (.h (9+E.n)):=rfl
theorem xw:(tfs E).lookup ("depths" : Str)=some (.h (10+E.n)):=rfl
theorem vh{α:Type}{xs:List α}{k:Nat}{v:α}(h:xs[k]?=some v):L2.atI xs (k:Int)=some v:=by
 have hk:= (ρ.mp h).1
 unfold L2.atI
 rw[mB hk]
 exact h
theorem uX{δ:av}{fi:av->Sto->R (Val×Sto)}{q:Nat}(P:Rp E s μ)(h0:δ[0]?=some (some (.h 0)))(hi:fi δ μ=R.ret (.d (.int (q:Int)),μ))(hq:q<=E.n):sIx (sAt "Tree" "under" (aI 0)) fi δ μ=R.ret (.h (6+q),μ):=by
 refine es_ix (rQ P h0 zX) hi P.hu (vh ?_)
 rw[Γ,T4 `am]
 rfl
theorem vset:((rg L f).map Val.d).set k (.d d)=(rg L (TR.put f k d)).map Val.d:=by rw[<-rg_set,List.map_set]
theorem rO(P:Rp E s μ)(h0:δ[0]?=some (some (.h 0)))(hx:(tfs E).lookup x=some (.h k))(hk:μ[k]?=some (vls (rg L g)))(hi:fi δ μ=R.ret (.d (.int (p:Int)),μ))(hp:p<L)(hf:f δ μ=R.ret (.d d,μ)):ju (sAt "Tree" x (aI 0)) fi f n δ μ=R.ret (.nx δ (μ.set k (vls (rg L (TR.put g p d))))):=by
 unfold vls
 rw[<-vset]
 exact Dx hf (rQ P h0 hx) hi hk (by rw[ς,ur];exact mB hp)
theorem vJ:TR.put (λp=>ζ (f p)) p (.int x)=λq=>ζ (TR.put f p x q):=by
 funext q
 unfold TR.put
 split<;>rfl
theorem BX{f:Nat->Nat}{p x:Nat}:TR.put (λp=>ζ (f p:Int)) p (.int (x:Int))=λq=>ζ ((TR.put f p x q:Nat):Int):=by
 funext q
 unfold TR.put
 split<;>rfl
theorem vI{n:Nat}{f:Nat->Nat}{p x:Nat}(hp:p<n):TR.put (λp=>ovD n (f p) p) p (.int (x:Int))=λq=>ovD n (TR.put f p x q) q:=by
 funext q
 unfold TR.put
 by_cases e:q=p
 ·rw[if_pos e,if_pos e,e,ovD,if_pos hp]
 simp_all
end
structure Nx(E:Tn)(P:Nat->Prop)(δ:Int)(d:Nat->Nat)(s1 s2:TR.St):Prop where
 t:s2.t=s1.t
 f:s2.fl=s1.fl
 i:∀x,x<=E.n->P x->s2.tm x=s1.tm x+δ/\s2.dp x=d x
 o:∀x,x<=E.n->¬P x->s2.tm x=s1.tm x/\s2.dp x=s1.dp x
section
variable{E:Tn}{s:TR.St}{μ:Sto}
theorem tu(a b:List Nat):be (a++b)=be a++be b:=Z0
theorem gr(a:List Nat):(be a).length=a.length:=ς _
theorem zV{p:Nat}{s:TR.St}(hp:p<E.n):oIx (.list (rg (E.n+1) λp=>ovD E.n (s.t.ov p) p)) (.int (p:Int))=some (.int (s.t.ov p:Int)):=by rw[de `am,oU hp]
theorem BH(P:Rp E s μ){hp N p:Nat}{x:D}{δ:Int}{st:List D}(hhp:11+E.n<=hp)(hs:μ[hp]?=some (vls (st++[.int (p:Int)])))(hpn:p<E.n)(ho:s.t.ov p<=E.n)(hz:st.length+(s.t.un p).length<=1000000) :
  ∃μ2,cW N [some (.h 0),some (.d x),some (.d (.int δ)),some (.h hp)] μ=R.ret (.nx [some (.h 0),some (.d (.int (p:Int))),some (.d (.int δ)),some (.h hp)] μ2)/\μ2[hp]?=some (vls (st++be (s.t.un p)))/\Rp E { s with tm:=TR.put s.tm p (s.tm p+δ),dp:=TR.put s.dp p (s.dp (s.t.ov p)+1) } μ2:=by
 have hl:hp<μ.length:=(ρ.mp hs).1
 unfold cW
 obtain⟨μ1,h1⟩:∃μ1,μ1=μ.set hp (vls st):=⟨_,rfl⟩
 have P1:Rp E s μ1:=by rw[h1];exact P.setO hhp
 have e1:wV (aI 3) [some (.h 0),some (.d x),some (.d (.int δ)),some (.h hp)] μ=R.ret (.d (.int (p:Int)),μ1):=by
  have:=es_pop (v:=.d (.int (p:Int))) (fo:=aI 3) (δ:=[some (.h 0),some (.d x),some (.d (.int δ)),some (.h hp)]) (aL rfl) hs (by
   rw[Z0,η]
   show(_++[Val.d (.int (p:Int))])[(st.map Val.d).length+1-1]?=_
   rw[Nat.add_sub_cancel,ο (ξ _),Y4]
   rfl)
  rw[this,h1]
  congr 3
  rw[Z0]
  show Ob.lst ((st.map Val.d)++[Val.d (.int (p:Int))]).dropLast=_
  rw[List.dropLast_concat]
 obtain⟨μ2,h2⟩:∃μ2,μ2=μ1.set 3 (vls (rg (E.n+1) λq=>.int (TR.put s.tm p (s.tm p+δ) q))):=⟨_,rfl⟩
 have P2:=P1.tm (TR.put s.tm p (s.tm p+δ))
 rw[<-h2] at P2
 have e2:oi (λi j=>i+j) (sAt "Tree" "times" (aI 0)) (aI 1) (aI 2) N [some (.h 0),some (.d (.int (p:Int))),some (.d (.int δ)),some (.h hp)] μ1=R.ret (.nx [some (.h 0),some (.d (.int (p:Int))),some (.d (.int δ)),some (.h hp)] μ2):=by
  have:=wy (h:=λi j=>i+j) (n:=N) (fo:=sAt "Tree" "times" (aI 0)) (fi:=aI 1) (f:=aI 2) (δ:=[some (.h 0),some (.d (.int (p:Int))),some (.d (.int δ)),some (.h hp)]) (rQ P1 rfl zY) (aL rfl) P1.h3 (vh (k:=p) (v:=Val.d (.int (s.tm p))) (by rw[Γ,ut `am];rfl)) (aL rfl) P1.h3 (j:=p) (by rw[ς,ur];exact mB `am)
  rw[this,vset,vJ,h2]
 obtain⟨X,hX,T⟩:=P2.tf
 obtain⟨μ3,h3⟩:∃μ3,μ3=μ2.set (10+E.n) (vls (rg (E.n+1) λq=>.int ((TR.put s.dp p (s.dp (s.t.ov p)+1) q:Nat):Int))):=⟨_,rfl⟩
 have P3:=P2.dp (TR.put s.dp p (s.dp (s.t.ov p)+1))
 rw[<-h3] at P3
 have e3:ju (sAt "Tree" "depths" (aI 0)) (aI 1) (br (d2 bf (d2 oIx (d1 (aV "Tree" "depths") (ac 0)) (d2 oIx (d1 (aV "Tree" "over") (ac 0)) (ac 1))) (dC (.int 1)))) N [some (.h 0),some (.d (.int (p:Int))),some (.d (.int δ)),some (.h hp)] μ2=R.ret (.nx [some (.h 0),some (.d (.int (p:Int))),some (.d (.int δ)),some (.h hp)] μ3):=by
  have:=rO (n:=N) (fi:=aI 1) (f:=br (d2 bf (d2 oIx (d1 (aV "Tree" "depths") (ac 0)) (d2 oIx (d1 (aV "Tree" "over") (ac 0)) (ac 1))) (dC (.int 1)))) (δ:=[some (.h 0),some (.d (.int (p:Int))),some (.d (.int δ)),some (.h hp)]) (d:=.int ((s.dp (s.t.ov p)+1:Nat):Int)) (p:=p) P2 rfl xw P2.hd (aL rfl) `am (bJ (ag (ag (bW (al rfl hX) T.depths) (ag (bW (al rfl hX) T.over) (al rfl aX) (zV hpn)) (de (by show s.t.ov p<E.n+1;omega))) aj bD) rfl)
  rw[this,BX,h3]
 have g3:μ3[hp]?=some (vls st):=by
  rw[h3,h2,h1,ar `am,ar `am]
  exact bY hl
 refine⟨μ3.set hp (vls (st++be (s.t.un p))),?_,bY (by rw[h3,h2,h1,Λ,Λ,Λ];exact hl),P3.setO hhp⟩
 refine az (bz e1) (az e2 (az e3 ?_))
 have:=es_ext (fo:=aI 3) (f:=sIx (sAt "Tree" "under" (aI 0)) (aI 1)) (δ:=[some (.h 0),some (.d (.int (p:Int))),some (.d (.int δ)),some (.h hp)]) (aL rfl) g3 (uX P3 rfl (aL rfl) (by omega:p<=E.n)) g3 (P3.hc p `am) (aF (by rw[ς,ς,gr];show st.length+(s.t.un p).length<=_;omega))
 refine i9 (v:=.d .none) ?_
 rw[this,<-Z0]
section
variable{d:Nat->Nat}{t:TR.Tr}{δ:Int}{hp N:Nat}
noncomputable abbrev shW(N:Nat)(δ:Int)(hp:Nat)(x:D)(μ:Sto):R OutS:=df (iO (dTr (ac 3))) cW N [some (.h 0),some (.d x),some (.d (.int δ)),some (.h hp)] μ
theorem vC(h:μ[hp]?=some (vls ds)):iO (dTr (ac 3)) [some (.h 0),some (.d x),some (.d (.int δ)),some (.h hp)] μ=R.ret (!ds.isEmpty,μ):=by
 refine jQ ?_
 unfold dTr
 rw[al rfl (b8 h)]
 rfl
theorem vD(T:TR.Tree E.n t.ov d)(U:TR.Und E.n t.ov t.un)(hn:E.n<=900)(hhp:11+E.n<=hp):∀(h p:Nat) (st:List D) (s:TR.St) (μ:Sto) (x:D),E.n<d p+h->p<E.n->s.t=t->Rp E s μ->μ[hp]?=some (vls (st++[.int (p:Int)]))->s.dp (t.ov p)=d (t.ov p)->st.length<=d p*E.n->∃s2 μ2 x2,Nx E (TR.sub t.ov p) δ d s s2/\Rp E s2 μ2/\μ2[hp]?=some (vls st)/\∀r,shW N δ hp x2 μ2=R.ret r->shW N δ hp x μ=R.ret r
 | 0,p,st,s,μ,x,hh,hpn,_,_,_,_,_=>by
  have:=T.dp_le (X5 hpn)
  omega
 | h+1,p,st,s,μ,x,hh,hpn,ht,P,hs,hd,hz=>by
  obtain⟨o1,o2⟩:=T.d p hpn
  obtain⟨u1,u2⟩:=U p (X5 hpn)
  have hul:(t.un p).length<=E.n:=TR.jz E.n _ u1 λy hy=>((u2 y).mp hy).1
  have hdn:=T.dp_le (X5 hpn)
  have hzz:d p*E.n<=900*900:=Nat.mul_le_mul `am hn
  obtain⟨μ1,e1,e2,P1⟩:=BH (N:=N) (x:=x) (δ:=δ) P hhp hs hpn (by rw[ht];exact o1) (by rw[ht];omega)
  rw[ht] at e2 P1
  have list:∀(M:List Nat) (s':TR.St) (μ':Sto) (x':D),M.Nodup->(∀c∈M,c∈t.un p)->s'.t=t->s'.dp p=d p->Rp E s' μ'->μ'[hp]?=some (vls (st++be M.reverse))->∃s2 μ2 x2,Nx E (λy=>∃c∈M,TR.sub t.ov c y) δ d s' s2/\Rp E s2 μ2/\μ2[hp]?=some (vls st)/\∀r,shW N δ hp x2 μ2=R.ret r->shW N δ hp x' μ'=R.ret r:=by
   intro M
   induction M with
   | nil =>
    intro s' μ' x' _ _ _ _ P' hs'
    refine⟨s',μ',x',⟨rfl,rfl,(λy _ ⟨c,hc,_⟩=>nomatch hc),λy _ _=>⟨rfl,rfl⟩⟩,P',?_,λr h=>h⟩
    rw[hs',List.reverse_nil]
    show some (vls (st++[]))=_
    rw[Z3]
   | cons c M ih =>
    intro s' μ' x' hnd hM ht' hdp P' hs'
    obtain⟨n1,n2⟩:=X0.mp hnd
    obtain⟨c1,c2⟩:=(u2 c).mp (hM c υ)
    obtain⟨c3,c4⟩:=T.d c c1
    have hMl:M.length<=E.n:=TR.jz E.n _ n2 λy hy=>((u2 y).mp (hM y (θ _ hy))).1
    rw[U2,tu,<-T7] at hs'
    obtain⟨s3,μ3,x3,X3,P3,g3,r3⟩:=vD T U hn hhp h c (st++be M.reverse) s' μ' x' (by rw[c2] at c4;omega) c1 ht' P' hs' (by rw[c2];exact hdp) (by
     rw[η,gr,List.length_reverse,c4,c2,Nat.succ_mul]
     omega)
    have npc:¬TR.sub t.ov c p:=λ⟨i,z⟩=>by
     have:=T.sub_dep (X5 hpn) c1 z
     rw[c2] at c4
     omega
    obtain⟨s4,μ4,x4,X4,P4,g4,r4⟩:=ih s3 μ3 x3 n2 (λy hy=>hM y (θ _ hy)) (X3.t.trans ht') (by rw[(X3.o p (X5 hpn) npc).2];exact hdp) P3 g3
    refine⟨s4,μ4,x4,⟨X4.t.trans X3.t,X4.f.trans X3.f,λy hy hq=>?_,λy hy hq=>?_⟩,P4,g4,λr h=>r3 r (r4 r h)⟩
    ·obtain⟨e,he,hq⟩:=hq
     by_cases hc:TR.sub t.ov c y
     ·have hno:¬∃c∈M,TR.sub t.ov c y:=λ⟨e,he,hq⟩=>by
       obtain⟨q1,q2⟩:=(u2 e).mp (hM e (θ _ he))
       have q3:=(T.d e q1).2
       rw[q2] at q3
       rw[c2] at c4
       have:=T.sub_disj hy c1 q1 `am hc hq
       exact n1 (this▸he)
      obtain⟨w1,w2⟩:=X3.i y hy hc
      obtain⟨w3,w4⟩:=X4.o y hy hno
      exact⟨w3.trans w1,w4.trans w2⟩
     ·have he2:e∈M:=by
       rcases ψ.mp he with rfl | he
       ·exact absurd hq hc
       ·exact he
      obtain⟨w1,w2⟩:=X3.o y hy hc
      obtain⟨w3,w4⟩:=X4.i y hy ⟨e,he2,hq⟩
      exact⟨by rw[w3,w1],w4⟩
    ·obtain⟨w1,w2⟩:=X3.o y hy λz=>hq ⟨c,υ,z⟩
     obtain⟨w3,w4⟩:=X4.o y hy λ⟨e,he,z⟩=>hq ⟨e,θ _ he,z⟩
     exact⟨w3.trans w1,w4.trans w2⟩
  obtain⟨s2,μ2,x2,X2,P2,g2,r2⟩:=list (t.un p).reverse ⟨s.fl,TR.put s.tm p (s.tm p+δ),t,TR.put s.dp p (s.dp (t.ov p)+1)⟩ μ1 (.int (p:Int)) (List.pairwise_reverse.mpr (u1.imp λh=>Ne.symm h)) (λc hc=>S5.mp hc) rfl (by show TR.put s.dp p (s.dp (t.ov p)+1) p=d p;rw[TR.aZ,hd,o2]) P1 (by rw[List.reverse_reverse];exact e2)
  have npp:∀c∈(t.un p).reverse,¬TR.sub t.ov c p:=λc hc ⟨i,z⟩=>by
   obtain⟨c1,c2⟩:=(u2 c).mp (S5.mp hc)
   have:=T.sub_dep (X5 hpn) c1 z
   have c4:=(T.d c c1).2
   rw[c2] at c4
   omega
  refine⟨s2,μ2,x2,⟨X2.t.trans ht.symm,X2.f,λy hy hq=>?_,λy hy hq=>?_⟩,P2,g2,λr hr=>?_⟩
  ·rcases (T.sub_iff U hpn hy).mp hq with rfl | ⟨c,hc,hq⟩
   ·obtain⟨w1,w2⟩:=X2.o y hy λ⟨c,hc,z⟩=>npp c hc z
    refine⟨w1.trans TR.aZ,w2.trans ?_⟩
    show TR.put s.dp y (s.dp (t.ov y)+1) y=d y
    rw[TR.aZ,hd,o2]
   ·have hne:y≠p:=λz=>npp c (S5.mpr hc) (z▸hq)
    obtain⟨w1,w2⟩:=X2.i y hy ⟨c,S5.mpr hc,hq⟩
    refine⟨w1.trans ?_,w2⟩
    show TR.put s.tm p (s.tm p+δ) y+δ=_
    rw[TR.bx hne]
  ·have hne:y≠p:=λz=>hq ((T.sub_iff U hpn hy).mpr (.inl z))
   obtain⟨w1,w2⟩:=X2.o y hy λ⟨c,hc,z⟩=>hq ((T.sub_iff U hpn hy).mpr (.inr ⟨c,S5.mp hc,z⟩))
   exact⟨w1.trans (TR.bx hne),w2.trans (TR.bx hne)⟩
  ·exact AQ (by rw[vC hs];cases st<;>rfl) e1 (r2 r hr)
end
open Classical in
theorem yD{d:Nat->Nat}{p:Nat}{δ:Int}(P:Rp E s μ)(T:TR.Tree E.n s.t.ov d)(U:TR.Und E.n s.t.ov s.t.un)(hn:E.n<=900)(hp:p<E.n)(hd:∀x,x<=E.n->¬TR.sub s.t.ov p x->s.dp x=d x):∃μ2,fC [.h 0,.d (.int (p:Int)),.d (.int δ)] μ=R.ret (.d .none,μ2)/\Rp E ⟨s.fl,TR.shf s.t.ov p δ s.tm,s.t,d⟩ μ2:=by
 have hl:=P.len
 obtain⟨o1,o2⟩:=T.d p hp
 have hno:¬TR.sub s.t.ov p (s.t.ov p):=λ⟨i,z⟩=>by
  have:=T.sub_dep o1 hp z
  omega
 have g:(μ++[vls [.int (p:Int)]])[μ.length]?=some (vls ([]++[.int (p:Int)])):=by simp
 obtain⟨s2,μ2,x2,X2,P2,g2,r2⟩:=vD (δ:=δ) T U hn `am (E.n+1) p [] s (μ++[vls [.int (p:Int)]]) (.int (p:Int)) `am hp rfl (P.app _) g (hd _ o1 hno) (Y5 _)
 refine⟨μ2,?_,P2.congr X2.f.symm X2.t.symm λx hx=>?_⟩
 ·refine lN (δ:=[some (.h 0),some (.d x2),some (.d (.int δ)),some (.h μ.length)]) ?_
  exact r2 _ (AR (vC g2))
 ·show TR.shf s.t.ov p δ s.tm x=s2.tm x/\d x=s2.dp x
  unfold TR.shf
  by_cases hs:TR.sub s.t.ov p x
  ·obtain⟨w1,w2⟩:=X2.i x hx hs
   simp_all
  ·obtain⟨w1,w2⟩:=X2.o x hx hs
   simp_all
end
theorem qw(p:Nat):∀L:List Nat,((L.map λq:Nat=>(q:Int)).eraseIdx ((L.map λq:Nat=>(q:Int)).idxOf (p:Int)))=(L.erase p).map λq:Nat=>(q:Int)
 | []=>rfl
 | q::L=>by
  rw[ω,List.idxOf_cons,List.erase_cons]
  by_cases e:q=p
  ·simp_all
  ·have h1:((q:Int)==(p:Int))=false:=beq_eq_false_iff_ne.mpr λz=>e `am
   have h2:= beq_eq_false_iff_ne.mpr e
   rw[h1,h2]
   simp only[cond_false,if_neg Z8,List.eraseIdx_cons_succ,ω]
   rw[qw p L]
theorem natV(L:List Nat):(be L).map Val.d=(L.map λq:Nat=>(q:Int)).map λi=>Val.d (.int i):=by
 unfold be
 simp
section
variable{E:Tn}{s:TR.St}{μ:Sto}
abbrev hgE(a1 a2 a3 a4 a5:D)(h6 h7 h8:Nat)(x9 x10:Option Val):av:=[some (.h 0),some (.d a1),some (.d a2),some (.d a3),some (.d a4),some (.d a5),some (.h h6),some (.h h7),some (.h h8),x9,x10]
theorem Dg(P:Rp E s μ){a1 a2 a3 a4 a5:D}{h6 h7 h8 N i p q r:Nat}{OL HL:List Nat}(g7:μ[h7]?=some (vls (be HL)))(g8:μ[h8]?=some (vls (be OL)))(l7:11+E.n<=h7)(l8:11+E.n<=h8)(hO:OL[i]?=some q)(hH:HL[i]?=some r)(hp:p<E.n)(ho:s.t.ov p<=E.n)(hq:q<=E.n)(hm:p∈s.t.un (s.t.ov p))(hz:∀x,x<=E.n->(s.t.un x).length<=E.n)(hn:E.n<=900) :
  ∃μ2,b9 N (hgE a1 a2 a3 a4 a5 h6 h7 h8 (some (.d (.int (i:Int)))) (some (.d (.int (p:Int))))) μ=R.ret (.nx (hgE a1 a2 a3 a4 a5 h6 h7 h8 (some (.d (.int (i:Int)))) (some (.d (.int (p:Int))))) μ2)/\Rp E { s with t:=s.t.re p q r } μ2/\∀j,11+E.n<=j->μ2[j]?=μ[j]?:=by
 unfold b9
 obtain⟨δ,hδ⟩:∃δ,δ=hgE a1 a2 a3 a4 a5 h6 h7 h8 (some (.d (.int (i:Int)))) (some (.d (.int (p:Int)))):=⟨_,rfl⟩
 have d0:δ[0]?=some (some (.h 0)):=by rw[hδ];rfl
 have d7:δ[7]?=some (some (.h h7)):=by rw[hδ];rfl
 have d8:δ[8]?=some (some (.h h8)):=by rw[hδ];rfl
 have d9:δ[9]?=some (some (.d (.int (i:Int)))):=by rw[hδ];rfl
 have d10:δ[10]?=some (some (.d (.int (p:Int)))):=by rw[hδ];rfl
 rw[<-hδ]
 clear hδ
 obtain⟨X,hX,T⟩:=P.tf
 obtain⟨L1,hL1⟩:∃L1,L1=(s.t.un (s.t.ov p)).erase p:=⟨_,rfl⟩
 obtain⟨μ1,h1⟩:∃μ1,μ1=μ.set (6+s.t.ov p) (vls (be L1)):=⟨_,rfl⟩
 have P1:=P.un ho L1
 rw[<-h1] at P1
 have e1:wU (sIx (sAt "Tree" "under" (aI 0)) (br (d2 oIx (d1 (aV "Tree" "over") (ac 0)) (ac 10)))) (aI 10) δ μ=R.ret (.d .none,μ1):=by
  have hc:=P.hc _ ho
  unfold vls at hc
  rw[natV] at hc
  have:=es_rem (fo:=sIx (sAt "Tree" "under" (aI 0)) (br (d2 oIx (d1 (aV "Tree" "over") (ac 0)) (ac 10)))) (f:=aI 10) (uX P d0 (bJ (ag (bW (al d0 hX) T.over) (al d10 aX) (zV hp)) rfl) ho) hc (aL d10) hc (List.mem_map_of_mem (f:=λq:Nat=>(q:Int)) hm)
  rw[this,qw,<-natV,h1,hL1]
 obtain⟨X1,hX1,T1⟩:=P1.tf
 have g8':μ1[h8]?=some (vls (be OL)):=by rw[h1,ar `am];exact g8
 have iq:oIx (.list (be OL)) (.int (i:Int))=some (.int (q:Int)):=vY (by unfold be;rw[Γ,hO];rfl)
 have ir:oIx (.list (be HL)) (.int (i:Int))=some (.int (r:Int)):=vY (by unfold be;rw[Γ,hH];rfl)
 obtain⟨u1,hu1⟩:∃u1,u1=TR.put s.t.un (s.t.ov p) L1:=⟨_,rfl⟩
 rw[<-hu1] at P1
 have hlen:(u1 q).length<=E.n:=by
  rw[hu1]
  by_cases e:q=s.t.ov p
  ·rw[e,TR.aZ,hL1]
   have:=List.length_erase_le (a:=p) (l:=s.t.un (s.t.ov p))
   have:=hz _ ho
   omega
  ·rw[TR.bx e];exact hz q hq
 obtain⟨μ2,h2⟩:∃μ2,μ2=μ1.set (6+q) (vls (be (u1 q++[p]))):=⟨_,rfl⟩
 have P2:=P1.un hq (u1 q++[p])
 rw[<-h2] at P2
 have e2:wY (sIx (sAt "Tree" "under" (aI 0)) (br (d2 oIx (ac 8) (ac 9)))) (aI 10) δ μ1=R.ret (.d .none,μ2):=by
  have hc:=P1.hc q hq
  have:=es_app (fo:=sIx (sAt "Tree" "under" (aI 0)) (br (d2 oIx (ac 8) (ac 9)))) (f:=aI 10) (uX P1 d0 (bJ (ag (al d8 (b8 g8')) (al d9 aX) iq) rfl) hq) hc (aL d10) hc (aF (by rw[ς,gr];show(u1 q).length+1<=_;omega))
  rw[this,h2,tu,vls,Z0]
  rfl
 have g8'':μ2[h8]?=some (vls (be OL)):=by rw[h2,ar `am];exact g8'
 obtain⟨μ3,h3⟩:∃μ3,μ3=μ2.set 4 (vls (rg (E.n+1) λy=>ovD E.n (TR.put s.t.ov p q y) y)):=⟨_,rfl⟩
 have P3:=P2.ov (TR.put s.t.ov p q)
 rw[<-h3] at P3
 have e3:ju (sAt "Tree" "over" (aI 0)) (aI 10) (br (d2 oIx (ac 8) (ac 9))) N δ μ2=R.ret (.nx δ μ3):=by
  have:=rO (n:=N) (d:=.int (q:Int)) (f:=br (d2 oIx (ac 8) (ac 9))) P2 d0 C4 P2.h4 (aL d10) `am (bJ (ag (al d8 (b8 g8'')) (al d9 aX) iq) rfl)
  rw[this,h3,vI hp]
 have g7':μ3[h7]?=some (vls (be HL)):=by rw[h3,h2,h1,ar `am,ar `am,ar `am];exact g7
 obtain⟨μ4,h4⟩:∃μ4,μ4=μ3.set (9+E.n) (vls (rg (E.n+1) λy=>ovD E.n (TR.put s.t.hk p r y) y)):=⟨_,rfl⟩
 have P4:=P3.hk (TR.put s.t.hk p r)
 rw[<-h4] at P4
 have e4:ju (sAt "Tree" "hooks" (aI 0)) (aI 10) (br (d2 oIx (ac 7) (ac 9))) N δ μ3=R.ret (.nx δ μ4):=by
  have:=rO (n:=N) (d:=.int (r:Int)) (f:=br (d2 oIx (ac 7) (ac 9))) P3 d0 zZ P3.hh (aL d10) `am (bJ (ag (al d7 (b8 g7')) (al d9 aX) ir) rfl)
  rw[this,h4,vI hp]
 refine⟨μ4,az (i9 e1) (az (i9 e2) (az e3 e4)),?_,λj hj=>?_⟩
 ·have:(s.t.re p q r:TR.Tr)=⟨TR.put s.t.ov p q,TR.put s.t.hk p r,TR.put u1 q (u1 q++[p])⟩:=by rw[hu1,hL1];rfl
  rw[this]
  exact P4
 ·rw[h4,h3,h2,h1,ar `am,ar `am,ar `am,ar `am]
theorem Bo(U:TR.Und n ov un):∀x,x<=n->(un x).length<=n:=λx hx=>TR.jz n _ (U x hx).1 λy hy=>(((U x hx).2 y).mp hy).1
theorem v7{a1 a2 a3 a4 a5:D}{h6 h7 h8 N:Nat}{OL HL:List Nat}{xs:List Val}(l6:11+E.n<=h6)(l7:11+E.n<=h7)(l8:11+E.n<=h8)(hn:E.n<=900):∀(j p q r i:Nat) (s:TR.St) (μ:Sto) (x9 x10:Option Val),TR.Rv E.net j p q r s.t->Rp E s μ->μ[h6]?=some (.lst xs)->μ[h7]?=some (vls (be HL))->μ[h8]?=some (vls (be OL))->OL.drop i=q::TR.aw s.t.ov j p->HL.drop i=r::(TR.aw s.t.ov j p).map s.t.hk->∃μ2 y9 y10,cQ h6 xs (mW 2 (et (agN 9) (et (agN 10) mX))) (b9 N) (bH i (be (TR.aw s.t.ov j p))) (hgE a1 a2 a3 a4 a5 h6 h7 h8 x9 x10) μ=R.ret (.nx (hgE a1 a2 a3 a4 a5 h6 h7 h8 y9 y10) μ2)/\Rp E { s with t:=TR.eL j p q r s.t } μ2
 | 0,p,q,r,i,s,μ,x9,x10,R,P,g6,g7,g8,hO,hH=>⟨μ,x9,x10,j4 g6,P⟩
 | j+1,p,q,r,i,s,μ,x9,x10,Rv,P,g6,g7,g8,hO,hH=>by
  have hp:=Rv.p_lt
  obtain⟨dp,T,hj⟩:=Rv.tr
  obtain⟨o1,o2⟩:=T.d p hp
  have hO1:OL[i]?=some q:=by
   have:=congrArg List.head? hO
   rw[List.head?_drop] at this
   simp_all
  have hH1:HL[i]?=some r:=by
   have:=congrArg List.head? hH
   rw[List.head?_drop] at this
   simp_all
  have hO2:OL.drop (i+1)=TR.aw s.t.ov (j+1) p:=by
   rw[<-U4,hO]
   rfl
  have hH2:HL.drop (i+1)=(TR.aw s.t.ov (j+1) p).map s.t.hk:=by
   rw[<-U4,hH]
   rfl
  have hw:TR.aw (TR.put s.t.ov p q) j (s.t.ov p)=TR.aw s.t.ov j (s.t.ov p):=TR.eY Rv.not_in
  obtain⟨μ1,e1,P1,k1⟩:=Dg P g7 g8 l7 l8 hO1 hH1 hp o1 Rv.lq (((Rv.un _ o1).2 p).mpr ⟨hp,rfl⟩) (Bo Rv.un) hn
  obtain⟨μ2,y9,y10,e2,P2⟩:=v7 l6 l7 l8 hn j (s.t.ov p) p (s.t.hk p) (i+1) { s with t:=s.t.re p q r } μ1 (some (.d (.int (i:Int)))) (some (.d (.int (p:Int)))) Rv.next P1 ((k1 _ l6).trans g6) ((k1 _ l7).trans g7) ((k1 _ l8).trans g8) (by
   show _=p::TR.aw (TR.put s.t.ov p q) j (s.t.ov p)
   rw[hw,hO2]
   rfl) (by
   show _=s.t.hk p::(TR.aw (TR.put s.t.ov p q) j (s.t.ov p)).map (TR.put s.t.hk p r)
   rw[hw,hH2]
   show s.t.hk p::(TR.aw s.t.ov j (s.t.ov p)).map s.t.hk=_
   congr 1
   exact List.map_congr_left λy hy=>(TR.bx λz=>Rv.not_in (by simp_all)).symm)
  have e2:cQ h6 xs (mW 2 (et (agN 9) (et (agN 10) mX))) (b9 N) (bH (i+1) (be (TR.aw (TR.put s.t.ov p q) j (s.t.ov p)))) (hgE a1 a2 a3 a4 a5 h6 h7 h8 (some (.d (.int (i:Int)))) (some (.d (.int (p:Int))))) μ1=R.ret (.nx (hgE a1 a2 a3 a4 a5 h6 h7 h8 y9 y10) μ2):=e2
  rw[hw] at e2
  exact⟨μ2,y9,y10,eQ g6 rfl e1 e2,P2⟩
end
section
def Fla(E:Tn):Prop:=∀k,k<E.rs.length->bA (rl (E.r k))=true
theorem oV(T:Tf E s X):∀(L:List Nat) (x:Sl),(∀q∈L,q<E.n)->cz (tgN 0) (nX eU) (nX (d2 oIx (d1 (aV "Tree" "hooks") (ac 1)) (ac 0))) (be L) [x,.vl X]=M.ret (be (L.map s.t.hk))
 | [],x,_=>rfl
 | q::L,x,h=>dq (δ':=[.vl (.int (q:Int)),.vl X]) rfl (ag (bW `on T.hooks) `on (by rw[de (by have:=h q υ;omega),oU (h q υ)])) (oV T L _ λy hy=>h y (θ _ hy))
theorem Dh(I:TR.Inv E.net s)(h:TR.Hg E.net s k i p q fl)(P:Rp E { s with fl:=fl } μ)(hP:Pin E)(hf:Fla E)(hn:E.n<=900):∃μ2 d,c9 [.h 0,.d (.int (TR.upN s.t.ov i p:Int)),.d (.int (p:Int)),.d (.int (k:Int))] μ=R.ret (.d .none,μ2)/\Rp E ⟨fl,TR.shf (TR.eL (i+1) p q k s.t).ov p (TR.dlt E.net s k p) s.tm,TR.eL (i+1) p q k s.t,d⟩ μ2/\TR.Inv E.net ⟨fl,TR.shf (TR.eL (i+1) p q k s.t).ov p (TR.dlt E.net s k p) s.tm,TR.eL (i+1) p q k s.t,d⟩/\p<E.n:=by
 have hk:k<E.rs.length:=h.km
 have Rv:=h.rv I
 obtain⟨d,T',U',I',hp⟩:=h.inv I
 have hp:p<E.n:=hp
 have hid:i<s.dp p:=h.id
 have Tr:TR.Tree E.n s.t.ov s.dp:=I.tr
 have hx:TR.upN s.t.ov i p<E.n:=by
  obtain⟨z1,z2⟩:=Tr.up i (X5 hp) `am
  exact Tr.pos z1 `am
 have hL:∀y∈TR.aw s.t.ov (i+1) p,y<E.n:=λy hy=>(Tr.inway (X5 hp) `am hy).1
 have hLl:(TR.aw s.t.ov (i+1) p).length<=900:=by rw[TR.iL];have:=Tr.dp_le (X5 hp);omega
 have hpq:p≠q:=λz=>h.cl 0 (by show q∈_;rw[<-z];exact υ)
 obtain⟨la,hla⟩:∃la,la=TR.lack E.net s.tm k:=⟨_,rfl⟩
 obtain⟨X,hX,T⟩:=P.tf
 have hlk:=rB T hP hk
 have hlk:bU [X,.int (k:Int)]=M.ret (.int la):=by rw[hla];exact hlk
 have hw:=ue (k:=i+1) (p:=p) T Tr (X5 hp) (show i+1<=s.dp p by omega) hn rfl
 have hov:oIx (.list (rg (E.n+1) λy=>ovD E.n (s.t.ov y) y)) (.int (TR.upN s.t.ov i p:Int))=some (.int (TR.upN s.t.ov (i+1) p:Int)):=by rw[TR.di];exact zV hx
 have hl:=P.len
 obtain⟨W,hW⟩:∃W,W=TR.aw s.t.ov (i+1) p:=⟨_,rfl⟩
 rw[<-hW] at hw hL hLl
 obtain⟨μ1,h1⟩:∃μ1,μ1=μ++[vls (be W)]:=⟨_,rfl⟩
 have P1:Rp E { s with fl:=fl } μ1:=by rw[h1];exact P.app _
 have m1:μ1.length=μ.length+1:=by rw[h1,η];rfl
 have g1:μ1[μ.length]?=some (vls (be W)):=by rw[h1,ο (ξ _),Y4];rfl
 obtain⟨X1,hX1,T1⟩:=P1.tf
 obtain⟨HL,hHL⟩:∃HL:List Nat,HL=k::W.map s.t.hk:=⟨_,rfl⟩
 obtain⟨OL,hOL⟩:∃OL:List Nat,OL=q::W:=⟨_,rfl⟩
 obtain⟨μ2,h2⟩:∃μ2,μ2=μ1++[vls (be HL)]:=⟨_,rfl⟩
 have P2:Rp E { s with fl:=fl } μ2:=by rw[h2];exact P1.app _
 have m2:μ2.length=μ.length+2:=by rw[h2,η,m1];rfl
 have g2:μ2[μ.length+1]?=some (vls (be HL)):=by rw[h2,<-m1,ο (ξ _),Y4];rfl
 have g21:μ2[μ.length]?=some (vls (be W)):=by rw[h2,ι `am];exact g1
 obtain⟨μ3,h3⟩:∃μ3,μ3=μ2++[vls (be OL)]:=⟨_,rfl⟩
 have P3:Rp E { s with fl:=fl } μ3:=by rw[h3];exact P2.app _
 have g3:μ3[μ.length+2]?=some (vls (be OL)):=by rw[h3,<-m2,ο (ξ _),Y4];rfl
 have g32:μ3[μ.length+1]?=some (vls (be HL)):=by rw[h3,ι `am];exact g2
 have g31:μ3[μ.length]?=some (vls (be W)):=by rw[h3,ι `am];exact g21
 obtain⟨μ4,y9,y10,e4,P4⟩:=v7 (a1:=.int (TR.upN s.t.ov i p:Int)) (a2:=.int (p:Int)) (a3:=.int (k:Int)) (a4:=rl (E.r k)) (a5:=.int la) (h6:=μ.length) (h7:=μ.length+1) (h8:=μ.length+2) (N:=μ.length) (OL:=OL) (HL:=HL) `am `am `am hn (i+1) p q k 0 { s with fl:=fl } μ3 none none Rv P3 g31 g32 g3 (by rw[hOL,hW];rfl) (by rw[hHL,hW];rfl)
 have e4:cQ μ.length ((be W).map Val.d) (mW 2 (et (agN 9) (et (agN 10) mX))) (b9 μ.length) (bH 0 (be (TR.aw s.t.ov (i+1) p))) (hgE (.int (TR.upN s.t.ov i p:Int)) (.int (p:Int)) (.int (k:Int)) (rl (E.r k)) (.int la) μ.length (μ.length+1) (μ.length+2) none none) μ3=R.ret (.nx (hgE (.int (TR.upN s.t.ov i p:Int)) (.int (p:Int)) (.int (k:Int)) (rl (E.r k)) (.int la) μ.length (μ.length+1) (μ.length+2) y9 y10) μ4):=e4
 rw[<-hW] at e4
 obtain⟨dl,hdl⟩:∃dl,dl=TR.dlt E.net s k p:=⟨_,rfl⟩
 obtain⟨μ5,e5,P5⟩:=yD (d:=d) (p:=p) (δ:=dl) P4 T' U' hn hp λx hx hs=>h.dep I T' _ x rfl hx hs
 refine⟨μ5,d,?_,by rw[<-hdl];exact P5,I',hp⟩
 refine lN (δ:=hgE (.int (TR.upN s.t.ov i p:Int)) (.int (p:Int)) (.int (k:Int)) (rl (E.r k)) (.int la) μ.length (μ.length+1) (μ.length+2) y9 y10) ?_
 unfold jO
 refine az (bz (bJ (ag (bW (al rfl hX) T.rules) (al rfl aX) (tN hk)) (hf k hk))) ?_
 refine az (bz (bJ (cn T nG (al rfl hX) (ad (al rfl aX) af) hlk) rfl)) ?_
 refine az (bz (jR (ds:=be W) (cn T uG (al rfl hX) (ad (al rfl aX) (ad (ag (bW (al rfl hX) T.over) (al rfl aX) hov) af)) hw) (jA W))) ?_
 rw[show μ++[Ob.lst ((be W).map Val.d)]=μ1 from h1.symm]
 refine az (bz (gQ (ds:=be HL) ?_ (jA HL))) ?_
 ·rw[hHL]
  refine fU (xs:=[.int (k:Int)]) (eR (bB (ad (al rfl aX) af) rfl)) (cR (ds:=be W) (i8 (al rfl (b8 g1)) rfl) (aF (by rw[gr];omega)) ?_) (aF (by show 1+(List.map _ (List.map _ W)).length<=16000000;rw[ς,ς];omega))
  show cz _ _ _ _ [Sl.un,_]=_
  rw[vB rfl hX1]
  exact oV T1 W _ hL
 rw[show μ1++[Ob.lst ((be HL).map Val.d)]=μ2 from h2.symm,m1]
 refine az (bz (gQ (ds:=be OL) ?_ (jA OL))) ?_
 ·rw[hOL]
  refine fU (xs:=[.int (q:Int)]) (ys:=be W) (eR (bB (ad (kF (bi (ag (ag (al rfl aX) aj (g9 _)) (al rfl aX) zK)) ?_) af) rfl)) (al rfl (b8 g21)) (aF (by rw[gr];show 1+W.length<=_;omega))
  rcases h.jn with ⟨z1,z2⟩ | ⟨z1,z2⟩
  ·have z1:(E.r k).lo=p:=z1
   have z2:(E.r k).hi=q:=z2
   rw[<-z2]
   exact qj `am (ag (al rfl aX) aj (gx _))
  ·have z2:(E.r k).lo=q:=z2
   rw[<-z2]
   exact qk `am (ag (al rfl aX) aj (g9 _))
 rw[show μ2++[Ob.lst ((be OL).map Val.d)]=μ3 from h3.symm,m2]
 refine az (lP (ds:=be W) (aL rfl) g31 e4) ?_
 refine i9 (v:=.d .none) (mF (xs:=[.d (.int (p:Int)),.d (.int dl)]) (aL rfl) P4.h0 rfl (cf (aL rfl) (cf (bL (kF (bi (ag (ag `on aj (gx _)) `on zK)) ?_)) gE)) e5)
 rw[hdl]
 unfold TR.dlt
 show _=M.ret (ζ (if (E.r k).hi=p then TR.lack E.net s.tm k else -TR.lack E.net s.tm k))
 rw[<-hla]
 by_cases z:(E.r k).hi=p
 ·rw[if_pos z]
  exact qj `am `on
 ·rw[if_neg z]
  exact qk `am (bW `on rfl)
end
section
noncomputable def sdD(E:Tn)(s:TR.St)(q:Nat):D:=.tuple [.int (q:Int),.int (s.t.hk q:Int),.bool (decide ((E.r (s.t.hk q)).hi=q))]
noncomputable def suD(E:Tn)(s:TR.St)(q:Nat):D:=.tuple [.int (q:Int),.int (s.t.hk q:Int),.bool (decide ((E.r (s.t.hk q)).lo=q))]
theorem wE(T:Tf E s X):∀(L:List Nat) (x:Sl),(∀q∈L,q<E.n/\s.t.hk q<E.rs.length)->cz (tgN 0) (nX eU) (nX (dMe "Tree" "step_down" (λds=>noX (cx ds)) (ac 1) (ae (ac 0) ak))) (be L) [x,.vl X]=M.ret (L.map (sdD E s))
 | [],x,_=>rfl
 | q::L,x,h=>dq (δ':=[.vl (.int (q:Int)),.vl X]) rfl (cn T C0 `on (ad `on af) (sdn_ev T (h q υ).1 (h q υ).2)) (wE T L _ λy hy=>h y (θ _ hy))
theorem vq(T:Tf E s X):∀(L:List Nat) (x:Sl),(∀q∈L,q<E.n/\s.t.hk q<E.rs.length)->cz (tgN 0) (nX eU) (nX (dMe "Tree" "step_up" (λds=>noX (cZ ds)) (ac 1) (ae (ac 0) ak))) (be L) [x,.vl X]=M.ret (L.map (suD E s))
 | [],x,_=>rfl
 | q::L,x,h=>dq (δ':=[.vl (.int (q:Int)),.vl X]) rfl (cn T nf_up `on (ad `on af) (sup_ev T (h q υ).1 (h q υ).2)) (vq T L _ λy hy=>h y (θ _ hy))
theorem vE(L:List Nat):aD (L.map (sdD E s))=true:=by
 induction L with
 | nil=>rfl
 | cons a L ih=>exact ih
theorem vv(L:List Nat):aD (L.map (suD E s))=true:=by
 induction L with
 | nil=>rfl
 | cons a L ih=>exact ih
abbrev mdE(k:Nat)(a2:D)(mo:Bool)(tl hd tp:Nat)(h7 h8:Nat)(A:Int)(lv:D)(x11:Option Val):av:=[some (.h 0),some (.d (.int (k:Int))),some (.d a2),some (.d (.bool mo)),some (.d (.int (tl:Int))),some (.d (.int (hd:Int))),some (.d (.int (tp:Int))),some (.h h7),some (.h h8),some (.d (.int A)),some (.d lv),x11]
noncomputable def lvT(l0:D)(e:Nat):Option Nat->D
 | none=>l0
 | some x=>.tuple [.int (x:Int),.int (e:Int)]
theorem oN(P:Rp E s μ)(g7:μ[h7]?=some (.lst xs)):∀(L:List Nat) (A:Int) (l:Option Nat) (x11:Option Val),(∀q∈L,s.t.hk q<E.rs.length/\(if decide ((E.r (s.t.hk q)).hi=q)=true then E.bd (s.t.hk q)-s.fl (s.t.hk q) else s.fl (s.t.hk q))=rm q)->∃y11,cQ h7 xs (agN 11) (ib N) (L.map (sdD E s)) (mdE k a2 mo tl hd tp h7 h8 A (lvT l0 tl l) x11) μ=R.ret (.nx (mdE k a2 mo tl hd tp h7 h8 (TR.chD rm L A l).1 (lvT l0 tl (TR.chD rm L A l).2) y11) μ)
 | [],A,l,x11,_=>⟨x11,j4 g7⟩
 | q::L,A,l,x11,h=>by
  obtain⟨X,hX,T⟩:=P.tf
  obtain⟨hk,hr⟩:=h q υ
  have hro:=vF T hk (.int (q:Int)) (decide ((E.r (s.t.hk q)).hi=q))
  rw[hr] at hro
  have hL:=λy hy=>h y (θ _ hy)
  by_cases c:rm q<A
  ·obtain⟨y11,e⟩:=oN P g7 L (rm q) (some q) (some (.d (sdD E s q))) hL
   refine⟨y11,?_⟩
   rw[TR.chD,if_pos c,ω]
   refine eQ g7 rfl ?_ e
   refine jl (jQ (bi (ag (cn T j0 (al rfl hX) (ad (al rfl aX) af) hro) (al rfl aX) oF))) (qj c ?_)
   refine az (bz (bJ (cn T j0 (al rfl hX) (ad (al rfl aX) af) hro) rfl)) ?_
   rfl
  ·obtain⟨y11,e⟩:=oN P g7 L A l (some (.d (sdD E s q))) hL
   refine⟨y11,?_⟩
   rw[TR.chD,if_neg c,ω]
   refine eQ g7 rfl ?_ e
   exact jl (jQ (bi (ag (cn T j0 (al rfl hX) (ad (al rfl aX) af) hro) (al rfl aX) oF))) (qk c rfl)
theorem oM(P:Rp E s μ)(g8:μ[h8]?=some (.lst xs)):∀(L:List Nat) (A:Int) (l:Option Nat) (x11:Option Val),(∀q∈L,s.t.hk q<E.rs.length/\(if decide ((E.r (s.t.hk q)).lo=q)=true then E.bd (s.t.hk q)-s.fl (s.t.hk q) else s.fl (s.t.hk q))=rm q)->∃y11,cQ h8 xs (agN 11) (ia N) (L.map (suD E s)) (mdE k a2 mo tl hd tp h7 h8 A (lvT l0 hd l) x11) μ=R.ret (.nx (mdE k a2 mo tl hd tp h7 h8 (TR.chU rm L A l).1 (lvT l0 hd (TR.chU rm L A l).2) y11) μ)
 | [],A,l,x11,_=>⟨x11,j4 g8⟩
 | q::L,A,l,x11,h=>by
  obtain⟨X,hX,T⟩:=P.tf
  obtain⟨hk,hr⟩:=h q υ
  have hro:=vF T hk (.int (q:Int)) (decide ((E.r (s.t.hk q)).lo=q))
  rw[hr] at hro
  have hL:=λy hy=>h y (θ _ hy)
  have oleD:∀a b:Int,mr (.int a) (.int b)=some (.bool (decide (a<=b))):=λ_ _=>rfl
  by_cases c:rm q<=A
  ·obtain⟨y11,e⟩:=oM P g8 L (rm q) (some q) (some (.d (suD E s q))) hL
   refine⟨y11,?_⟩
   rw[TR.chU,if_pos c,ω]
   refine eQ g8 rfl ?_ e
   refine jl (jQ (bi (ag (cn T j0 (al rfl hX) (ad (al rfl aX) af) hro) (al rfl aX) (oleD _ _)))) (qj c ?_)
   refine az (bz (bJ (cn T j0 (al rfl hX) (ad (al rfl aX) af) hro) rfl)) ?_
   rfl
  ·obtain⟨y11,e⟩:=oM P g8 L A l (some (.d (suD E s q))) hL
   refine⟨y11,?_⟩
   rw[TR.chU,if_neg c,ω]
   refine eQ g8 rfl ?_ e
   exact jl (jQ (bi (ag (cn T j0 (al rfl hX) (ad (al rfl aX) af) hro) (al rfl aX) (oleD _ _)))) (qk c rfl)
noncomputable def spD(x:D×Nat×Bool):D:=.tuple [x.1,.int (x.2.1:Int),.bool x.2.2]
theorem tG(hhp:11+E.n<=hp):∀(L:List (D×Nat×Bool)) (s:TR.St) (μ:Sto) (x11:Option Val),Rp E s μ->μ[hp]?=some (.lst xs)->(∀x∈L,x.2.1<E.rs.length)->∃y11 μ2,cQ hp xs (agN 11) (fy N) (L.map spD) (mdE k a2 mo tl hd tp h7 h8 A lv x11) μ=R.ret (.nx (mdE k a2 mo tl hd tp h7 h8 A lv y11) μ2)/\Rp E { s with fl:=TR.push A (L.map Prod.snd) s.fl } μ2
 | [],s,μ,x11,P,g,_=>⟨x11,μ,j4 g,P⟩
 | (x,j,b)::L,s,μ,x11,P,g,h=>by
  have hj:= h (x,j,b) υ
  have P1:=P.fl (TR.put s.fl j (s.fl j+TR.sg A b))
  obtain⟨y11,μ2,e,P2⟩:=tG hhp L _ _ (some (.d (spD (x,j,b)))) P1 (by rw[ar `am];exact g) λy hy=>h y (θ _ hy)
  refine⟨y11,μ2,?_,P2⟩
  refine eQ (δ1:=mdE k a2 mo tl hd tp h7 h8 A lv (some (.d (spD (x,j,b))))) g rfl ?_ e
  unfold fy
  have:=wy (h:=λi j=>i+j) (n:=N) (fo:=sAt "Tree" "flow" (aI 0)) (fi:=bN (d2 oIx (ac 11) (dC (.int 1)))) (f:=bN (dIf (dB (d2 oIx (ac 11) (dC (.int 2)))) (ac 9) (d1 m6 (ac 9)))) (δ:=mdE k a2 mo tl hd tp h7 h8 A lv (some (.d (spD (x,j,b))))) (i:=(j:Int)) (m:=TR.sg A b) (rQ P rfl C5) (bL (ag (x:=spD (x,j,b)) `on aj rfl)) P.h2 (vh (k:=j) (v:=Val.d (.int (s.fl j))) (by rw[Γ,ut hj];rfl)) (bL (kF (bi (ag (x:=spD (x,j,b)) `on aj (rfl:oIx (spD (x,j,b)) (.int 2)=some (.bool b)))) (by
   cases b with
   | true=>rfl
   | false=>rfl))) P.h2 (j:=j) (by rw[ς,ur];exact mB hj)
  rw[this,vset,vJ]
end
section
theorem o4:∀{a b:List D},aD a=true->aD b=true->aD (a++b)=true
 | [],_,_,h=>h
 | x::a,b,h1,h2=>by
  have h1:(bA x&&aD a)=true:=h1
  rw[Z2] at h1
  show(bA x&&aD (a++b))=true
  rw[h1.1,o4 h1.2 h2]
  rfl
theorem C1(I:TR.Inv E.net s)(w:TR.Wr E.net s k)(P:Rp E s μ)(hP:Pin E)(hf:Fla E)(hn:E.n<=900):∃s2 μ2,gh [.h 0,.d (.int (k:Int))] μ=R.ret (.d .none,μ2)/\Rp E s2 μ2/\TR.Inv E.net s2/\TR.yb E.net s2 s:=by
 have hk:k<E.rs.length:=w.1
 obtain⟨p1,p2⟩:=hP k hk
 have Tr:TR.Tree E.n s.t.ov s.dp:=I.tr
 obtain⟨tl,htl⟩:∃tl,tl=TR.tl E.net s k:=⟨_,rfl⟩
 obtain⟨hd,hhd⟩:∃hd,hd=TR.hd E.net s k:=⟨_,rfl⟩
 obtain⟨mo,hmo⟩:∃mo,mo=TR.more E.net s k:=⟨_,rfl⟩
 have ltl:tl<=E.n:=by
  rw[htl]
  unfold TR.tl
  show(if _ then (E.r k).lo else (E.r k).hi)<=E.n
  split<;>assumption
 have lhd:hd<=E.n:=by
  rw[hhd]
  unfold TR.hd
  show(if _ then (E.r k).hi else (E.r k).lo)<=E.n
  split<;>assumption
 obtain⟨t,hm⟩:=Tr.meet _ tl hd (ξ _) ltl lhd
 obtain⟨a,b,Me⟩:=Tr.met hm ltl lhd
 have MM:=I.mend w (show TR.tl E.net s k<=E.net.n by rw[<-htl];exact ltl) (show TR.hd E.net s k<=E.net.n by rw[<-hhd];exact lhd) (by rw[<-htl,<-hhd];exact Me)
 rw[<-htl,<-hhd] at MM
 have hD:∀q∈TR.aw s.t.ov a tl,q<E.n:=λq hq=>(Tr.inway ltl Me.la hq).1
 have hU:∀q∈TR.aw s.t.ov b hd,q<E.n:=λq hq=>(Tr.inway lhd Me.lb hq).1
 have hh:∀q,q<E.n->s.t.hk q<E.rs.length:=λq hq=>(I.jn q hq).1
 have rD:∀q∈TR.aw s.t.ov a tl,s.t.hk q<E.rs.length/\(if decide ((E.r (s.t.hk q)).hi=q)=true then E.bd (s.t.hk q)-s.fl (s.t.hk q) else s.fl (s.t.hk q))=TR.rmD E.net s q:=λq hq=>by
  refine⟨hh q (hD q hq),?_⟩
  have hne:=I.ne (hD q hq)
  unfold TR.rmD TR.room
  show _=(if (E.r (s.t.hk q)).lo=s.t.ov q then _ else _)
  rcases (I.jn q (hD q hq)).2 with ⟨z1,z2⟩ | ⟨z1,z2⟩
  ·have z1:(E.r (s.t.hk q)).lo=q:=z1
   have z2:(E.r (s.t.hk q)).hi=s.t.ov q:=z2
   rw[decide_eq_false (by rw[z2];exact λz=>hne z.symm),if_neg Z8,if_neg (by rw[z1];exact hne)]
  ·have z1:(E.r (s.t.hk q)).hi=q:=z1
   have z2:(E.r (s.t.hk q)).lo=s.t.ov q:=z2
   rw[decide_eq_true z1,if_pos rfl,if_pos z2]
   rfl
 have rU:∀q∈TR.aw s.t.ov b hd,s.t.hk q<E.rs.length/\(if decide ((E.r (s.t.hk q)).lo=q)=true then E.bd (s.t.hk q)-s.fl (s.t.hk q) else s.fl (s.t.hk q))=TR.rmU E.net s q:=λq hq=>by
  refine⟨hh q (hU q hq),?_⟩
  unfold TR.rmU TR.room
  show _=(if (E.r (s.t.hk q)).lo=q then _ else _)
  by_cases z:(E.r (s.t.hk q)).lo=q
  ·rw[decide_eq_true z,if_pos rfl,if_pos z]
   rfl
  ·rw[decide_eq_false z,if_neg Z8,if_neg z]
 have la:a<=900:=by have:=Tr.dp_le ltl;have:=Me.la;omega
 have lb:b<=900:=by have:=Tr.dp_le lhd;have:=Me.lb;omega
 obtain⟨X,hX,T⟩:=P.tf
 have hl:=P.len
 obtain⟨Dl,hDl⟩:∃Dl,Dl=TR.aw s.t.ov a tl:=⟨_,rfl⟩
 obtain⟨Ul,hUl⟩:∃Ul,Ul=TR.aw s.t.ov b hd:=⟨_,rfl⟩
 have lD:Dl.length<=900:=by rw[hDl,TR.iL];exact la
 have lU:Ul.length<=900:=by rw[hUl,TR.iL];exact lb
 have w1:=uf T Tr ltl Me.la hn Me.ta
 have w2:=uf T Tr lhd Me.lb hn Me.tb
 rw[<-hDl] at w1 rD hD
 rw[<-hUl] at w2 rU hU
 obtain⟨μ1,h1⟩:∃μ1,μ1=μ++[vls (Dl.map (sdD E s))]:=⟨_,rfl⟩
 have P1:Rp E s μ1:=by rw[h1];exact P.app _
 have m1:μ1.length=μ.length+1:=by rw[h1,η];rfl
 have g1:μ1[μ.length]?=some (vls (Dl.map (sdD E s))):=by rw[h1,ο (ξ _),Y4];rfl
 obtain⟨X1,hX1,T1⟩:=P1.tf
 have w2:=uf T1 Tr lhd Me.lb hn Me.tb
 rw[<-hUl] at w2
 obtain⟨μ2,h2⟩:∃μ2,μ2=μ1++[vls (Ul.map (suD E s))]:=⟨_,rfl⟩
 have P2:Rp E s μ2:=by rw[h2];exact P1.app _
 have m2:μ2.length=μ.length+2:=by rw[h2,η,m1];rfl
 have g2:μ2[μ.length+1]?=some (vls (Ul.map (suD E s))):=by rw[h2,<-m1,ο (ξ _),Y4];rfl
 have g21:μ2[μ.length]?=some (vls (Dl.map (sdD E s))):=by rw[h2,ι `am];exact g1
 obtain⟨X2,hX2,T2⟩:=P2.tf
 obtain⟨A1,l1,c1⟩:∃A1 l1,TR.chD (TR.rmD E.net s) Dl (E.bd k) none=(A1,l1):=⟨_,_,rfl⟩
 obtain⟨A,l2,c2⟩:∃A l2,TR.chU (TR.rmU E.net s) Ul A1 none=(A,l2):=⟨_,_,rfl⟩
 obtain⟨y,e1⟩:=oN (k:=k) (tl:=tl) (hd:=hd) (tp:=t) (h7:=μ.length) (h8:=μ.length+1) (N:=μ.length) (a2:=rl (E.r k)) (mo:=mo) P2 g21 (rm:=TR.rmD E.net s) (l0:=.none) Dl (E.bd k) none none rD
 obtain⟨y',e2⟩:=oM (k:=k) (tl:=tl) (hd:=hd) (tp:=t) (h7:=μ.length) (h8:=μ.length+1) (N:=μ.length) (a2:=rl (E.r k)) (mo:=mo) P2 g2 (rm:=TR.rmU E.net s) (l0:=lvT .none tl l1) Ul A1 none y rU
 rw[c1] at e1
 rw[c2] at e2
 obtain⟨L,hL⟩:∃L:List (D×Nat×Bool),L=(.none,k,mo)::(Dl.map (λq:Nat=>(ζ (q:Int),TR.dnS E.net s.t.hk q))++Ul.map (λq:Nat=>(ζ (q:Int),TR.upS E.net s.t.hk q))):=⟨_,rfl⟩
 have hLs:L.map spD=([.tuple [.none,.int (k:Int),.bool mo]]++Dl.map (sdD E s))++Ul.map (suD E s):=by
  rw[hL,ω,Z0,Y9,Y9]
  rfl
 have hLp:L.map Prod.snd=TR.ring E.net s k a b:=by
  rw[hL,ω,Z0,Y9,Y9,hDl,hUl,htl,hhd,hmo]
  rfl
 have hLm:∀x∈L,x.2.1<E.rs.length:=λx hx=>by
  rw[hL] at hx
  rcases ψ.mp hx with rfl | hx
  ·exact hk
  ·rcases Z7.mp hx with hx | hx
   ·obtain⟨q,hq,rfl⟩:=V6.mp hx
    exact hh q (hD q hq)
   ·obtain⟨q,hq,rfl⟩:=V6.mp hx
    exact hh q (hU q hq)
 obtain⟨μ3,h3⟩:∃μ3,μ3=μ2++[vls (L.map spD)]:=⟨_,rfl⟩
 have P3:Rp E s μ3:=by rw[h3];exact P2.app _
 have g3:μ3[μ.length+2]?=some (vls (L.map spD)):=by rw[h3,<-m2,ο (ξ _),Y4];rfl
 obtain⟨lv,hlv⟩:∃lv,lv=lvT (lvT .none tl l1) hd l2:=⟨_,rfl⟩
 obtain⟨y3,μ4,e3,P4⟩:=tG (E:=E) (k:=k) (tl:=tl) (hd:=hd) (tp:=t) (h7:=μ.length) (h8:=μ.length+1) (N:=μ.length) (a2:=rl (E.r k)) (mo:=mo) (hp:=μ.length+2) (A:=A) (lv:=lv) `am L s μ3 y' P3 g3 hLm
 rw[hLp] at P4
 have fin:∃s2 μ5 δ5,(sIf (gK (dB (d2 gZ (ac 10) (dC .none)))) (il (lf "Tree" "hang" c9 (aI 0) (bZ (bN (d2 oIx (ac 10) `DY)) (bZ (bN (d2 oIx (ac 10) (dC (.int 1)))) (bZ (aI 1) iP))))) jv) μ.length (mdE k (rl (E.r k)) mo tl hd t μ.length (μ.length+1) A lv y3) μ4=R.ret (.nx δ5 μ5)/\Rp E s2 μ5/\TR.Inv E.net s2/\TR.yb E.net s2 s:=by
  have hang:∀{i p q:Nat},lv=.tuple [.int (TR.upN s.t.ov i p:Int),.int (p:Int)]->TR.Hg E.net s k i p q (TR.push A (TR.ring E.net s k a b) s.fl)->(TR.wo E.net s.fl<TR.wo E.net (TR.push A (TR.ring E.net s k a b) s.fl)\/(TR.wo E.net s.fl<=TR.wo E.net (TR.push A (TR.ring E.net s k a b) s.fl)/\TR.dlt E.net s k p<0))->∃s2 μ5 δ5,(sIf (gK (dB (d2 gZ (ac 10) (dC .none)))) (il (lf "Tree" "hang" c9 (aI 0) (bZ (bN (d2 oIx (ac 10) `DY)) (bZ (bN (d2 oIx (ac 10) (dC (.int 1)))) (bZ (aI 1) iP))))) jv) μ.length (mdE k (rl (E.r k)) mo tl hd t μ.length (μ.length+1) A lv y3) μ4=R.ret (.nx δ5 μ5)/\Rp E s2 μ5/\TR.Inv E.net s2/\TR.yb E.net s2 s:=by
   intro i p q hlv2 hg hle
   obtain⟨μ5,d,e5,P5,I5,hp⟩:=Dh I hg P4 hP hf hn
   refine⟨_,μ5,mdE k (rl (E.r k)) mo tl hd t μ.length (μ.length+1) A lv y3,?_,P5,I5,?_⟩
   ·rw[hlv2]
    refine jl (b:=true) (fg (bi (ag (x:=.tuple [.int (TR.upN s.t.ov i p:Int),.int (p:Int)]) `on aj rfl))) (fM rfl ?_)
    exact i9 (mF (aL rfl) P4.h0 rfl (cf (bL (ag (x:=.tuple [.int (TR.upN s.t.ov i p:Int),.int (p:Int)]) `on aj rfl)) (cf (bL (ag (x:=.tuple [.int (TR.upN s.t.ov i p:Int),.int (p:Int)]) `on aj rfl)) (cf (aL rfl) gE))) e5)
   ·rcases hle with z | ⟨z1,z2⟩
    ·exact TR.rq I5 z
    ·exact TR.C7 I5 z1 (TR.shf_lt (N:=E.net) hp z2)
  rcases MM with ⟨k1,k2,I5,hw⟩ | ⟨i,A',hi,k1,k2,hg,hw,hdl⟩ | ⟨i,A',A1',l1',hi,k1,k2,hg,hw⟩
  ·rw[<-hDl] at k1
   rw[<-hUl] at k2
   have k1:TR.chD (TR.rmD E.net s) Dl (E.bd k) none=(E.bd k,none):=k1
   have k2:TR.chU (TR.rmU E.net s) Ul (E.bd k) none=(E.bd k,none):=k2
   rw[c1] at k1
   cases k1
   rw[c2] at k2
   cases k2
   refine⟨_,μ4,mdE k (rl (E.r k)) mo tl hd t μ.length (μ.length+1) (E.bd k) lv y3,?_,P4,I5,TR.rq I5 hw⟩
   rw[hlv]
   exact jl (b:=false) (fg (bi (ag (x:=.none) `on aj rfl))) (gy rfl rfl)
  ·rw[<-hDl] at k1
   rw[<-hUl] at k2
   have k1:TR.chD (TR.rmD E.net s) Dl (E.bd k) none=(A',some (TR.upN s.t.ov i tl)):=k1
   rw[c1] at k1
   cases k1
   rw[c2] at k2
   cases k2
   exact hang hlv hg (.inr ⟨hw,hdl⟩)
  ·rw[<-hDl] at k1
   rw[<-hUl] at k2
   have k1:TR.chD (TR.rmD E.net s) Dl (E.bd k) none=(A1',l1'):=k1
   rw[c1] at k1
   cases k1
   rw[c2] at k2
   cases k2
   exact hang hlv hg (.inl hw)
 obtain⟨s2,μ5,δ5,e5,P5,I5,hls⟩:=fin
 refine⟨s2,μ5,?_,P5,I5,hls⟩
 refine lN (δ:=δ5) ?_
 unfold jK
 have hlk:=rB T hP hk
 have e_tl:∀{δ:DS},ac 3 δ=M.ret (.bool mo)->ac 2 δ=M.ret (rl (E.r k))->dIf (dB (ac 3)) (d2 oIx (ac 2) `DY) (d2 oIx (ac 2) (dC (.int 1))) δ=M.ret (.int (tl:Int)):=λ{δ} d3 d2'=>by
  refine kF (bi d3) ?_
  rw[htl,hmo]
  unfold TR.tl
  cases TR.more E.net s k with
  | true=>exact fM rfl (ag d2' aj (g9 _))
  | false=>exact gy rfl (ag d2' aj (gx _))
 have e_hd:∀{δ:DS},ac 3 δ=M.ret (.bool mo)->ac 2 δ=M.ret (rl (E.r k))->dIf (dB (ac 3)) (d2 oIx (ac 2) (dC (.int 1))) (d2 oIx (ac 2) `DY) δ=M.ret (.int (hd:Int)):=λ{δ} d3 d2'=>by
  refine kF (bi d3) ?_
  rw[hhd,hmo]
  unfold TR.hd
  cases TR.more E.net s k with
  | true=>exact fM rfl (ag d2' aj (gx _))
  | false=>exact gy rfl (ag d2' aj (g9 _))
 refine az (bz (bJ (ag (bW (al rfl hX) T.rules) (al rfl aX) (tN hk)) (hf k hk))) ?_
 refine az (bz (v:=.d (.bool mo)) (bJ (by rw[hmo];exact ag (cn T nG (al rfl hX) (ad (al rfl aX) af) hlk) aj rb) rfl)) ?_
 refine az (bz (bL (e_tl `on `on))) ?_
 refine az (bz (bL (e_hd `on `on))) ?_
 refine az (bz (bJ (cn T uH (al rfl hX) (ad (al rfl aX) (ad (al rfl aX) af)) (uJ T Tr hm ltl lhd)) rfl)) ?_
 refine az (bz (jR (ds:=Dl.map (sdD E s)) (cR (ds:=be Dl) (i8 (cn T uG (al rfl hX) (ad (al rfl aX) (ad (al rfl aX) af)) w1) rfl) (aF (by rw[gr];omega)) ?_) (vE Dl))) ?_
 ·show cz _ _ _ _ [Sl.un,_]=_
  rw[vB rfl hX]
  exact wE T Dl _ λq hq=>⟨hD q hq,hh q (hD q hq)⟩
 rw[show μ++[Ob.lst ((Dl.map (sdD E s)).map Val.d)]=μ1 from h1.symm]
 refine az (bz (jR (ds:=Ul.map (suD E s)) (cR (ds:=be Ul) (i8 (cn T1 uG (al rfl hX1) (ad (al rfl aX) (ad (al rfl aX) af)) w2) rfl) (aF (by rw[gr];omega)) ?_) (vv Ul))) ?_
 ·show cz _ _ _ _ [Sl.un,_]=_
  rw[vB rfl hX1]
  exact vq T1 Ul _ λq hq=>⟨hU q hq,hh q (hU q hq)⟩
 rw[show μ1++[Ob.lst ((Ul.map (suD E s)).map Val.d)]=μ2 from h2.symm,m1]
 refine az (bz (bJ (ag (bW (al rfl hX2) T2.bounds) (al rfl aX) (de hk)) rfl)) ?_
 refine az (bz (bL aj)) ?_
 refine az (lP (ds:=Dl.map (sdD E s)) (aL rfl) g21 e1) ?_
 refine az (lP (ds:=Ul.map (suD E s)) (aL rfl) g2 e2) ?_
 rw[<-hlv]
 refine az (lP (ds:=L.map spD) (μ':=μ3) ?_ g3 e3) e5
 have hnew:=gQ (δ:=mdE k (rl (E.r k)) mo tl hd t μ.length (μ.length+1) A lv y') (μ:=μ2) (fn:=jB (gI (jB (gI (cj (ae (bM (ae (dC .none) (ae (ac 1) (ae (ac 3) ak)))) ak))) (ac 7))) (ac 8)) (ds:=([.tuple [.none,.int (k:Int),.bool mo]]++Dl.map (sdD E s))++Ul.map (suD E s)) (fU (eR (fU (eR (bB (ad (bR (ad aj (ad (al rfl aX) (ad (al rfl aX) af))) rfl) af) rfl)) (al rfl (b8 g21)) (aF (by rw[ς];show 1+Dl.length<=_;omega)))) (al rfl (b8 g2)) (aF (by rw[η,ς,ς];show 1+Dl.length+Ul.length<=_;omega))) (o4 (o4 rfl (vE Dl)) (vv Ul))
 rw[hnew,<-hLs,m2,h3]
end
section
variable{E:Tn}{s:TR.St}{μ:Sto}
theorem lh(n:Nat):bF 0 n=(W4 0 n).map λj:Nat=>ζ (j:Int):=by
 unfold bF
 rw[List.range_eq_range']
 simp
theorem put_begin{b:Nat}:fK "begin" (.d (.int (b:Int))) (tfs E)=tfs { E with b:=b }:=rfl
noncomputable def Tn.at(E:Tn)(b:Nat):Tn:={ E with b:=b }
theorem Rp.begun(P:Rp E s μ):Rp (E.at b) s (μ.set 0 (.ins "Tree" (tfs (E.at b)))):=by
 have hs:∀j,0<j->(μ.set 0 (.ins "Tree" (tfs (E.at b))))[j]?=μ[j]?:=λj hj=>ar `am
 have hl:=P.len
 exact⟨bY `am,(hs 1 `am).trans P.h1,(hs 2 `am).trans P.h2,(hs 3 `am).trans P.h3,(hs 4 `am).trans P.h4,(hs _ `am).trans P.hu,λp hp=>(hs _ `am).trans (P.hc p hp),(hs _ `am).trans P.hh,(hs _ `am).trans P.hd⟩
def Bg(E:Tn):Prop:=E.b % 50=0/\(E.b=0\/E.b<E.m)
theorem wR(P:Rp E s μ)(hP:Pin E)(hm:E.m<=E.rs.length)(hz:E.m<=900)(hB:Bg E):∃(w:Option Nat) (e b':Nat),e=min (E.b+50) E.m/\b'=(if e<E.m then e else 0)/\(w=none->∀k,E.b<=k->k<e->¬TR.Wr E.net s k)/\(∀k,w=some k->TR.Wr E.net s k)/\cg N [some (.h 0),some (.d (.int i)),x2,x3] μ=(match w with
   | some k=>R.ret (.rt (.d (.int (k:Int))) (μ.set 0 (.ins "Tree" (tfs (E.at b')))))
   | none=>R.ret (.nx [some (.h 0),some (.d (.int i)),some (.d (.int (e:Int))),some (.d .none)] (μ.set 0 (.ins "Tree" (tfs (E.at b')))))):=by
 obtain⟨X,hX,T⟩:=P.tf
 obtain⟨e,he⟩:∃e,e=min (E.b+50) E.m:=⟨_,rfl⟩
 have hB2:=hB.2
 obtain⟨w,hw,w1,w2⟩:=yg T hP hm `am (b:=E.b) (e:=e) `am `am
 refine⟨w,e,if e<E.m then e else 0,he,rfl,w1,λk hk=>(w2 k hk).2,?_⟩
 have hmin:min ((E.b:Int)+50) (E.m:Int)=(e:Int):=by omega
 refine az (bz (bJ (bS (ad (ag (bW (al rfl hX) T.begin_) aj bD) (ad (bW (al rfl hX) T.many) af)) (o_min.trans (congrArg (λx=>some (ζ x)) hmin))) rfl)) ?_
 refine az (bz (bJ (cn T zQ (al rfl hX) (ad (bW (al rfl hX) T.begin_) (ad (al rfl aX) af)) hw) (by cases w<;>rfl))) ?_
 have hset:∃b':Nat,b'=(if e<E.m then e else 0)/\(if decide ((e:Int)<(E.m:Int))=true then M.ret (ζ (e:Int)) else M.ret (ζ 0))=M.ret (.int (b':Int)):=by
  grind
 obtain⟨b',hb',hst⟩:=hset
 rw[<-hb']
 refine az (cS (v:=.d (.int (b':Int))) (bJ (kF (bi (ag (al rfl aX) (bW (al rfl hX) T.many) oF)) ?_) rfl) (aL rfl) P.h0 (by show(10:Nat)<1000;omega)) ?_
 ·assumption
 cases w with
 | none=>rfl
 | some k=>rfl
def sd(m:Nat)(W:Nat->Prop)(a j b:Nat):Prop:=(∀k,k<m->¬W k)\/(b=a+50*j/\b<m/\∀k,a<=k->k<b->¬W k)\/(∃c,b=50*c/\b<m/\50*j+a<=m+49+50*c/\(∀k,a<=k->k<m->¬W k)/\∀k,k<b->¬W k)
theorem sd.next(h:sd m W a j b)(hn:∀k,b<=k->k<min (b+50) m->¬W k):sd m W a (j+1) (if min (b+50) m<m then min (b+50) m else 0):=by
 rcases h with h | ⟨h1,h2,h3⟩ | ⟨c,h1,h2,h3,h4,h5⟩
 ·exact .inl h
 ·by_cases hb:b+50<m
  ·rw[if_pos `am]
   refine .inr (.inl ⟨by omega,by omega,λk hk1 hk2=>?_⟩)
   grind
  ·rw[if_neg `am]
   refine .inr (.inr ⟨0,rfl,by omega,by omega,λk hk1 hk2=>?_,λk hk=>by omega⟩)
   grind
 ·by_cases hb:b+50<m
  ·rw[if_pos `am]
   refine .inr (.inr ⟨c+1,by omega,by omega,by omega,h4,λk hk=>?_⟩)
   grind
  ·refine .inl λk hk=>?_
   grind
theorem sd.all(ha:a % 50=0)(h:sd m W a (m / 50+1) b):∀k,k<m->¬W k:=by
 rcases h with h | ⟨h1,h2,h3⟩ | ⟨c,h1,h2,h3,h4,h5⟩
 all_goals grind
theorem nV(hP:Pin E)(hm:E.m<=E.rs.length)(hz:E.m<=900):∀(r j b:Nat) (μ:Sto) (x1 x2 x3:Option Val),Rp (E.at b) s μ->Bg (E.at b)->sd E.m (TR.Wr E.net s) a j b->∃(w:Option Nat) (b':Nat) (μ2:Sto) (y1 y2 y3:Option Val),hJ (agN 1) (cg N) ((W4 j r).map λi:Nat=>ζ (i:Int)) [some (.h 0),x1,x2,x3] μ=(match w with
   | some k=>R.ret (.rt (.d (.int (k:Int))) μ2)
   | none=>R.ret (.nx [some (.h 0),y1,y2,y3] μ2))/\Rp (E.at b') s μ2/\Bg (E.at b')/\(w=none->sd E.m (TR.Wr E.net s) a (j+r) b')/\(∀k,w=some k->TR.Wr E.net s k)
 | 0,j,b,μ,x1,x2,x3,P,B,h=>⟨none,b,μ,x1,x2,x3,rfl,P,B,λ_=>h,λk z=>by cases z⟩
 | r+1,j,b,μ,x1,x2,x3,P,B,h=>by
  obtain⟨w,e,b',he,hb',w1,w2,ev⟩:=wR (E:=E.at b) P hP hm hz B (N:=N) (i:=(j:Int)) (x2:=x2) (x3:=x3)
  have P':Rp (E.at b') s (μ.set 0 (.ins "Tree" (tfs (E.at b')))):=Rp.begun (E:=E.at b) (b:=b') P
  have he:e=min (b+50) E.m:=he
  have hb':b'=if e<E.m then e else 0:=hb'
  have B':Bg (E.at b'):=by
   have B1:b % 50=0:=B.1
   show b' % 50=0/\(b'=0\/b'<E.m)
   grind
  rw[List.range'_succ,ω]
  cases w with
  | some k=>exact⟨some k,b',_,none,none,none,tV (δ1:=[some (.h 0),some (.d (.int (j:Int))),x2,x3]) rfl ev,P',B',(λz=>nomatch z),λk' z=>by cases z;exact w2 k rfl⟩
  | none =>
   have h':=h.next (he▸w1 rfl)
   rw[<-he,<-hb'] at h'
   obtain⟨w',b2,μ2,y1,y2,y3,i1,i2,i3,i4,i5⟩:=nV hP hm hz (N:=N) (a:=a) r (j+1) b' _ (some (.d (.int (j:Int)))) (some (.d (.int (e:Int)))) (some (.d .none)) P' B' h'
   exact⟨w',b2,μ2,y1,y2,y3,mD (δ1:=[some (.h 0),some (.d (.int (j:Int))),x2,x3]) rfl ev i1,i2,i3,λz=>by grind,i5⟩
theorem ko(P:Rp E s μ)(hP:Pin E)(hm:E.m<=E.rs.length)(hz:E.m<=900)(hB:Bg E):∃(w:Option Nat) (b':Nat) (μ2:Sto),bV [.h 0] μ=R.ret (.d (zd w),μ2)/\Rp (E.at b') s μ2/\Bg (E.at b')/\(w=none->∀k,k<E.m->¬TR.Wr E.net s k)/\(∀k,w=some k->TR.Wr E.net s k):=by
 obtain⟨X,hX,T⟩:=P.tf
 have h0:sd E.m (TR.Wr E.net s) E.b 0 E.b:=by
  rcases Z6 E.b E.m with z | z
  ·exact .inr (.inl ⟨rfl,z,λk h1 h2=>by omega⟩)
  ·refine .inl λk hk=>?_
   rcases hB.2 with y | y<;>omega
 obtain⟨w,b',μ2,y1,y2,y3,i1,i2,i3,i4,i5⟩:=nV hP hm hz (E.m / 50+1) 0 E.b μ none none none P hB h0
 refine⟨w,b',μ2,o6 ?_,i2,i3,λz=>sd.all hB.1 (by have:=i4 z;rwa[W1] at this),i5⟩
 have hr:fJ [.int ((E.m:Int) / 50+1)]=some ((W4 0 (E.m / 50+1)).map λi:Nat=>ζ (i:Int)):=by
  show(if b62 ((E.m:Int) / 50+1)=true then some (bF 0 ((E.m:Int) / 50+1).toNat) else none)=_
  rw[if_pos (by unfold b62;grind),show((E.m:Int) / 50+1).toNat=E.m / 50+1 by omega,lh]
 have hfa:ae (d2 bf (d2 oI (d1 (aV "Tree" "many") (ac 0)) (dC (.int 50))) (dC (.int 1))) ak (viewN 4 μ (iM 4 [.h 0]))=M.ret [.int ((E.m:Int) / 50+1)]:=ad (ag (ag (bW (al rfl hX) T.many) aj (oG (je `am `am))) aj bD) af
 cases w with
 | some k=>exact rP (wx hfa hr i1)
 | none=>exact az (wx hfa hr i1) (AS (bL aj))
theorem wS(P:Rp E s μ)(I:TR.Inv E.net s)(hP:Pin E)(hf:Fla E)(hm:E.m<=E.rs.length)(hz:E.m<=900)(hB:Bg E)(hn:E.n<=900):∃s2 b2 μ2,eK [.h 0] μ=R.ret (.d .none,μ2)/\Rp (E.at b2) s2 μ2/\TR.Inv E.net s2/\∀k,k<E.m->¬TR.Wr E.net s2 k:=by
 have main:∀s:TR.St,∀(b:Nat) (μ:Sto) (w:Option Nat) (N:Nat),Rp (E.at b) s μ->Bg (E.at b)->TR.Inv E.net s->(w=none->∀k,k<E.m->¬TR.Wr E.net s k)->(∀k,w=some k->TR.Wr E.net s k)->∃s2 b2 μ2,df (gK (dB (d2 gZ (ac 1) (dC .none)))) dE N [some (.h 0),some (.d (zd w))] μ=R.ret (.nx [some (.h 0),some (.d .none)] μ2)/\Rp (E.at b2) s2 μ2/\TR.Inv E.net s2/\∀k,k<E.m->¬TR.Wr E.net s2 k:=by
  intro s
  refine(TR.C6 E.net).induction (C:=λs=>∀(b:Nat) (μ:Sto) (w:Option Nat) (N:Nat),Rp (E.at b) s μ->Bg (E.at b)->TR.Inv E.net s->(w=none->∀k,k<E.m->¬TR.Wr E.net s k)->(∀k,w=some k->TR.Wr E.net s k)->∃s2 b2 μ2,df (gK (dB (d2 gZ (ac 1) (dC .none)))) dE N [some (.h 0),some (.d (zd w))] μ=R.ret (.nx [some (.h 0),some (.d .none)] μ2)/\Rp (E.at b2) s2 μ2/\TR.Inv E.net s2/\∀k,k<E.m->¬TR.Wr E.net s2 k) s ?_
  intro s ih b μ w N P B I h1 h2
  cases w with
  | none=>exact⟨s,b,μ,AR (fg (bi (ag `on aj rfl))),P,I,h1 rfl⟩
  | some k =>
   obtain⟨s1,μ1,e1,P1,I1,l1⟩:=C1 (E:=E.at b) I (h2 k rfl) P hP hf hn
   obtain⟨w',b',μ2,e2,P2,B2,w1,w2⟩:=ko P1 hP hm hz B
   obtain⟨s3,b3,μ3,e3,P3,I3,h3⟩:=ih s1 l1 b' μ2 w' N P2 B2 I1 w1 w2
   refine⟨s3,b3,μ3,AQ (fg (bi (ag `on aj rfl))) ?_ e3,P3,I3,h3⟩
   exact az (i9 (mF (aL rfl) P.h0 rfl (cf (aL rfl) gE) e1)) (bz (mF (aL rfl) P1.h0 rfl gE e2))
 obtain⟨w,b1,μ1,e1,P1,B1,w1,w2⟩:=ko P hP hm hz hB
 obtain⟨s2,b2,μ2,e2,P2,I2,h2⟩:=main s b1 μ1 w μ.length P1 B1 I w1 w2
 refine⟨s2,b2,μ2,lN (δ:=[some (.h 0),some (.d .none)]) ?_,P2,I2,h2⟩
 exact az (bz (mF (aL rfl) P.h0 rfl gE e1)) e2
end
noncomputable def ss(n:Nat):Nat->List Int->List Rl
 | _,[]=>[]
 | i,t::q=>⟨i,n,-t,none,.tuple []⟩::ss n (i+1) q
noncomputable def wts:List Rl->List Int
 | []=>[]
 | r::rs=>match r.w with
  | none=>wts rs
  | some w=>w::wts rs
noncomputable def bdr(tt:Int)(r:Rl):Int:=match r.w with
 | none=>tt+1
 | some w=>w
noncomputable def ffr(r:Rl):Int:=if r.lo=r.hi/\0<r.le then r.w.getD 0 else 0
noncomputable def aS(T:List Int)(rs:List Rl):List Rl:=rs++ss T.length 0 T
noncomputable def Eo(T:List Int)(rs:List Rl):Tn:=⟨T.length,rs.length,aS T rs,λk=>bdr (wts rs).sum ((aS T rs).getD k r0),0⟩
noncomputable def so(T:List Int)(rs:List Rl):TR.St:=⟨λk=>ffr ((aS T rs).getD k r0),λp=>T.getD p 0,⟨λ_=>T.length,λp=>rs.length+p,λq=>if q=T.length then Ψ T.length else []⟩,λp=>if p<T.length then 1 else 0⟩
theorem ig(n:Nat):∀(i:Nat) (q:List Int),(ss n i q).length=q.length
 | _,[]=>rfl
 | i,t::q=>by rw[ss,Φ,ig,Φ]
theorem nT(n:Nat):∀(i:Nat) (q:List Int) (p:Nat),p<q.length->(ss n i q).getD p r0=⟨i+p,n,-q.getD p 0,none,.tuple []⟩
 | i,[],p,h=>absurd h (Y8 _)
 | i,t::q,0,_=>rfl
 | i,t::q,p+1,h=>by
  have:=nT n (i+1) q p (by simp_all)
  rw[ss,List.getD_cons_succ,this,List.getD_cons_succ,show i+1+p=i+(p+1) by omega]
theorem su(n:Nat):∀(q:List Int) (i:Nat) (x y:Sl),cz (dk 2 (aR (tgN 0) (aR (tgN 1) dm))) (nX eU) (nX (bM (ae (ac 0) (ae (ac 2) (ae (d1 m6 (ac 1)) (ae (dC .none) (ae (bM ak) ak))))))) (bH i (q.map ζ)) [x,y,.vl (.int (n:Int))]=M.ret ((ss n i q).map rl)
 | [],i,x,y=>rfl
 | t::q,i,x,y=>dq (δ':=[.vl (.int (i:Int)),.vl (.int t),.vl (.int (n:Int))]) rfl (bR (ad `on (ad `on (ad (bW `on rfl) (ad aj (ad (bR af rfl) af))))) rfl) (su n q (i+1) _ _)
theorem nN:∀(q:List Rl) (x:Sl),cz (tgN 0) (nX (nj (dB (aG (λds=>noX (bj ds)) (ae (ac 0) ak))))) (nX (d2 oIx (ac 0) (dC (.int 3)))) (q.map rl) [x]=M.ret ((wts q).map ζ)
 | [],x=>rfl
 | r::q,x=>by
  have hc:nj (dB (aG (λds=>noX (bj ds)) (ae (ac 0) ak))) [.vl (rl r)]=M.ret (!r.w.isNone):=mE (bi (aO (ad `on af) (rE r)))
  rw[wts,ω]
  cases hw:r.w with
  | none =>
   rw[hw] at hc
   exact AJ (δ':=[.vl (rl r)]) rfl hc (nN q _)
  | some w =>
   rw[hw] at hc
   exact AI (δ':=[.vl (rl r)]) rfl hc (ag `on aj (by rw[uP,hw];rfl)) (nN q _)
theorem wI(tt:Int):∀(q:List Rl) (x:Sl),cz (tgN 0) (nX eU) (nX (dIf (dB (aG (λds=>noX (bj ds)) (ae (ac 0) ak))) (d2 bf (ac 1) (dC (.int 1))) (d2 oIx (ac 0) (dC (.int 3))))) (q.map rl) [x,.vl (.int tt)]=M.ret (q.map λr=>.int (bdr tt r))
 | [],x=>rfl
 | r::q,x=>by
  refine dq rfl (kF (bi (aO (ad `on af) (rE r))) ?_) (wI tt q _)
  show _=M.ret (ζ (bdr tt r))
  cases hw:r.w with
  | none =>
   rw[show bdr tt r=tt+1 by unfold bdr;rw[hw]]
   rfl
  | some w =>
   rw[show bdr tt r=w by unfold bdr;rw[hw]]
   exact gy rfl (ag `on aj (by rw[uP,hw];rfl))
theorem ff_ev(h:r.lo=r.hi->0<r.le->r.w≠none):eE [rl r]=M.ret (.int (ffr r)):=by
 refine bh ?_
 refine bX (kF (rN (bi (ag (ag `on aj (g9 r)) (ag `on aj (gx r)) zK)) (bi (ag (ag `on aj (rF r)) aj rb))) ?_)
 unfold ffr
 by_cases c:r.lo=r.hi/\0<r.le
 ·rw[if_pos c]
  refine fM (by simp_all) (ag `on aj ?_)
  rw[uP]
  cases hw:r.w with
  | none=>simp_all
  | some w=>rfl
 ·rw[if_neg c]
  refine gy ?_ aj
  grind
theorem wk:∀(q:List Rl) (x:Sl),(∀r∈q,r.lo=r.hi->0<r.le->r.w≠none)->cz (tgN 0) (nX eU) (nX (aG (λds=>noX (eE ds)) (ae (ac 0) ak))) (q.map rl) [x]=M.ret (q.map λr=>.int (ffr r))
 | [],x,_=>rfl
 | r::q,x,h=>dq (δ':=[.vl (rl r)]) rfl (aO (ad `on af) (ff_ev (h r υ))) (wk q _ λy hy=>h y (θ _ hy))
theorem v6(m:Nat)(X:D)(hX:aV "Tree" "many" X=some (.int (m:Int))):∀(n i:Nat) (x:Sl),cz (tgN 0) (nX eU) (nX (d2 bf (d1 (aV "Tree" "many") (ac 1)) (ac 0))) ((W4 i n).map λj:Nat=>ζ (j:Int)) [x,.vl X]=M.ret ((W4 i n).map λj:Nat=>ζ ((m+j:Nat):Int))
 | 0,i,x=>rfl
 | n+1,i,x=>by
  exact dq rfl (ag (bW `on hX) `on bD) (v6 m X hX n (i+1) _)
theorem zT(l:List Rl)(f:Rl->D):l.map f=rg l.length λk=>f (l.getD k r0):=by
 refine List.ext_getElem? λi=>?_
 unfold rg
 rw[Γ,Γ]
 by_cases h:i<l.length
 ·rw[T4 h,Δ h]
  show some (f l[i])=some (f (l.getD i r0))
  rw[Y0,Δ h]
  rfl
 ·rw[S4 `am,S4 (by rw[W0];omega)]
  rfl
theorem li(n:Nat)(f:Nat->D):rg (n+1) f=rg n f++[f n]:=by
 unfold rg
 rw[List.range_succ,Z0]
 rfl
theorem yN(n:Nat)(d:D):χ n d=rg n λ_=>d:=by
 refine List.ext_getElem? λi=>?_
 unfold rg
 grind
theorem Dc(T:List Int):T.map ζ=rg T.length λp=>.int (T.getD p 0):=by
 refine List.ext_getElem? λi=>?_
 unfold rg
 grind
theorem j5{α:Type}{f:α->D}(h:∀x,bA (f x)=true):∀l:List α,aD (l.map f)=true
 | []=>rfl
 | x::l=>by
  show(bA (f x)&&aD (l.map f))=true
  rw[h x,j5 h l]
  rfl
theorem jY{n:Nat}{f:Nat->D}(h:∀k,bA (f k)=true):aD (rg n f)=true:=j5 h _
theorem addR:∀(n:Nat) (hs:List Val) (ν:Sto),k<ν.length->ν[k]?=some (.lst hs)->(dF k (χ n []) hs ν).length=ν.length+n/\(dF k (χ n []) hs ν)[k]?=some (.lst (hs++(W4 ν.length n).map Val.h))/\(∀i,i<n->(dF k (χ n []) hs ν)[ν.length+i]?=some (.lst []))/\∀j,j<ν.length->j≠k->(dF k (χ n []) hs ν)[j]?=ν[j]?
 | 0,hs,ν,hk,h=>⟨rfl,by rw[show W4 ν.length 0=[] from rfl,List.map_nil,Z3];exact h,λi hi=>absurd hi (Y8 _),λ_ _ _=>rfl⟩
 | n+1,hs,ν,hk,h=>by
  obtain⟨ν2,h2⟩:∃ν2,ν2=(ν++[Ob.lst (([]:List D).map Val.d)]).set k (.lst (hs++[Val.h ν.length])):=⟨_,rfl⟩
  have l2:ν2.length=ν.length+1:=by rw[h2,Λ,η];rfl
  obtain⟨i1,i2,i3,i4⟩:=addR (k:=k) n (hs++[Val.h ν.length]) ν2 `am (by rw[h2];exact bY (by rw[η];omega))
  have e:dF k (χ (n+1) []) hs ν=dF k (χ n []) (hs++[Val.h ν.length]) ν2:=by rw[List.replicate_succ,dF,h2]
  rw[e]
  refine⟨by rw[i1,l2];omega,by rw[i2,l2,T7,List.range'_succ];rfl,λi hi=>?_,λj hj hne=>?_⟩
  ·cases i with
   | zero =>
    rw[i4 (ν.length+0) `am `am,h2,ar `am,ο `am]
    simp
   | succ i =>
    have:=i3 i `am
    rw[l2] at this
    rw[show ν.length+(i+1)=ν.length+1+i by omega]
    exact this
  ·rw[i4 j `am hne,h2,ar (λz=>hne z.symm),ι hj]
theorem zW(h:μ[0]?=some (.ins "Tree" fs))(ha:cH ((fs.map Prod.snd).map (lvN 3 μ))=some ds):lvN 4 μ (.h 0)=some (iY "Tree" ((fs.map Prod.fst).zip ds)):=by
 show(match μ[0]? with
   | some (.lst xs)=>(cH (xs.map (lvN 3 μ))).map Θ
   | some (.ins c fs)=>(cH ((fs.map Prod.snd).map (lvN 3 μ))).map λds=>iY c ((fs.map Prod.fst).zip ds)
   | _=>none)=_
 simp_all
theorem Dz(h:fa δ μ=R.ret (xs,μ'))(hs:aJ xs.length=true):wW fa δ μ=R.ret (.h μ'.length,μ'++[.lst xs]):=by
 unfold wW
 rw[h,aQ,if_pos hs]
theorem AF(a b:D):aV "Tree" "rules" (iY "Tree" [("many",a),("rules",b)])=some b:=by kernel_rfl
theorem AE(a b c:D):aV "Tree" "rules" (iY "Tree" [("many",a),("rules",b),("bounds",c)])=some b:=by rfl
theorem Ds(a b c d e f g:D):aV "Tree" "many" (iY "Tree" [("many",a),("rules",b),("bounds",c),("flow",d),("times",e),("over",f),("under",g)])=some a:=by rfl
abbrev gF(m:Nat)(R:D)(n k:Nat):List (Str×Val):=List.take k [("many",.d (.int (m:Int))),("rules",.d R),("bounds",.h 1),("flow",.h 2),("times",.h 3),("over",.h 4),("under",.h (8+n)),("hooks",.h (9+n)),("depths",.h (10+n))]
abbrev iE(A B:D)(n:Nat)(t:Int):av:=[some (.h 0),some (.d A),some (.d B),some (.d (.int (n:Int))),some (.d (.int t))]
theorem De(hT:T.length<=900)(hr:rs.length<=1000)(hff:∀r∈rs,r.lo=r.hi->0<r.le->r.w≠none):∃μ0,gi [.h 0,.d (.list (T.map ζ)),.d (.list (rs.map rl))] [.ins "Tree" []]=R.ret (.d .none,μ0)/\Rp (Eo T rs) (so T rs) μ0:=by
 obtain⟨n,hn⟩:∃n,n=T.length:=⟨_,rfl⟩
 obtain⟨tt,htt⟩:∃tt,tt=(wts rs).sum:=⟨_,rfl⟩
 obtain⟨RL,hRL⟩:∃RL:D,RL=.list ((aS T rs).map rl):=⟨_,rfl⟩
 have hAl:(aS T rs).length=rs.length+n:=by unfold aS;rw[η,ig,hn]
 have hffA:∀r∈aS T rs,r.lo=r.hi->0<r.le->r.w≠none:=λr hm=>by
  rcases Z7.mp hm with hm | hm
  ·exact hff r hm
  ·intro hl _
   obtain⟨i,hi,rfl⟩:=List.mem_iff_getElem.mp hm
   have:=nT T.length 0 T i (by rw[ig] at hi;exact hi)
   rw[Y0,Δ hi] at this
   have e:(ss T.length 0 T)[i]=⟨0+i,T.length,-T.getD i 0,none,.tuple []⟩:=this
   rw[e] at hl
   have hl:0+i=T.length:=hl
   rw[ig] at hi
   omega
 obtain⟨B,hB⟩:∃B:List D,B=rg (aS T rs).length λk=>.int ((Eo T rs).bd k):=⟨_,rfl⟩
 obtain⟨Fl,hFl⟩:∃Fl:List D,Fl=rg (aS T rs).length λk=>.int ((so T rs).fl k):=⟨_,rfl⟩
 obtain⟨Tm,hTm⟩:∃Tm:List D,Tm=rg (n+1) λp=>.int ((so T rs).tm p):=⟨_,rfl⟩
 obtain⟨Ov,hOv⟩:∃Ov:List D,Ov=rg (n+1) λp=>ovD n ((so T rs).t.ov p) p:=⟨_,rfl⟩
 obtain⟨Hk,hHk⟩:∃Hk:List D,Hk=rg (n+1) λp=>ovD n ((so T rs).t.hk p) p:=⟨_,rfl⟩
 obtain⟨Dp,hDp⟩:∃Dp:List D,Dp=rg (n+1) λp=>.int ((so T rs).dp p:Int):=⟨_,rfl⟩
 have eB:(aS T rs).map (λr=>ζ (bdr tt r))=B:=by rw[hB,zT,htt];rfl
 have eF:(aS T rs).map (λr=>ζ (ffr r))=Fl:=by rw[hFl,zT];rfl
 have eT:T.map ζ++[.int 0]=Tm:=by
  rw[hTm,li,Dc,hn]
  congr 2
  show ζ 0=ζ (T.getD T.length 0)
  rw[Y0,S4 (ξ _)]
  rfl
 have eO:χ n (ζ (n:Int))++[.none]=Ov:=by
  rw[hOv,li,yN]
  congr 1
  ·exact jw λk hk=>by rw[ovD,if_pos hk,hn];rfl
  ·rw[ovD,if_neg (V9 _)]
 have eH:((W4 0 n).map λj:Nat=>ζ ((rs.length+j:Nat):Int))++[.none]=Hk:=by
  rw[hHk,li,<-List.range_eq_range']
  congr 1
  ·exact jw (f:=λj:Nat=>ζ ((rs.length+j:Nat):Int)) λk hk=>by rw[ovD,if_pos hk];rfl
  ·rw[ovD,if_neg (V9 _)]
 have eD:χ n (ζ 1)++[.int 0]=Dp:=by
  rw[hDp,li,yN]
  congr 1
  ·exact jw λk hk=>by
    show ζ 1=ζ ((if k<T.length then 1 else 0:Nat):Int)
    rw[if_pos `am]
    rfl
  ·show [ζ 0]=[ζ ((if n<T.length then 1 else 0:Nat):Int)]
   rw[if_neg `am]
   rfl
 have ovfl:∀x p,bA (ovD n x p)=true:=λx p=>by unfold ovD;split<;>rfl
 have fB:aD B=true:=by rw[hB];exact jY λ_=>rfl
 have fF:aD Fl=true:=by rw[hFl];exact jY λ_=>rfl
 have fT:aD Tm=true:=by rw[hTm];exact jY λ_=>rfl
 have fO:aD Ov=true:=by rw[hOv];exact jY λ_=>ovfl _ _
 have fH:aD Hk=true:=by rw[hHk];exact jY λ_=>ovfl _ _
 have fD:aD Dp=true:=by rw[hDp];exact jY λ_=>rfl
 obtain⟨TL,hTL⟩:∃TL:D,TL=.list (T.map ζ):=⟨_,rfl⟩
 obtain⟨RS,hRS⟩:∃RS:D,RS=.list (rs.map rl):=⟨_,rfl⟩
 have lenT:dM [TL]=some (.int (n:Int)):=by rw[hTL,hn];show some (ζ ((T.map ζ).length:Int))=_;rw[ς]
 have lenR:dM [RS]=some (.int (rs.length:Int)):=by rw[hRS];show some (ζ ((rs.map rl).length:Int))=_;rw[ς]
 obtain⟨μ6,h6⟩:∃μ6:Sto,μ6=[.ins "Tree" (gF rs.length RL n 6),vls B,vls Fl,vls Tm,vls Ov]:=⟨_,rfl⟩
 have l6:μ6.length=5:=by rw[h6];rfl
 obtain⟨ν,hν⟩:∃ν,ν=dF 5 (χ n []) [] (μ6++[.lst []]):=⟨_,rfl⟩
 obtain⟨a1,a2,a3,a4⟩:=addR (k:=5) n [] (μ6++[.lst []]) (by rw[η,l6];show 5<6;omega) (by rw[ο `am,l6];rfl)
 have l6':(μ6++[Ob.lst []]).length=6:=by rw[η,l6];rfl
 rw[<-hν,l6'] at a1 a2 a3 a4
 have nu0:∀j,j<5->ν[j]?=μ6[j]?:=λj hj=>by rw[a4 j `am `am,ι `am]
 obtain⟨Rg,hRg⟩:∃Rg:List D,Rg=be (Ψ n):=⟨_,rfl⟩
 obtain⟨HS,hHS⟩:∃HS:List Val,HS=(Ψ (n+1)).map λp=>Val.h (6+p):=⟨_,rfl⟩
 have eHS:[]++(W4 6 n).map Val.h++[Val.h (6+n)]=HS:=by
  rw[hHS,List.nil_append,List.range_succ,Z0,List.range_eq_range',List.range'_eq_map_range,Y9]
  congr 1
  rw[<-List.range_eq_range']
  rfl
 obtain⟨μ7,h7⟩:∃μ7,μ7=(((ν++[vls Rg])++[Ob.lst [Val.h (6+n)]])++[Ob.lst HS]).set 0 (.ins "Tree" (gF rs.length RL n 7)):=⟨_,rfl⟩
 have l7:μ7.length=9+n:=by rw[h7,Λ,η,η,η,a1];show 6+n+1+1+1=_;omega
 have b0:μ7[0]?=some (.ins "Tree" (gF rs.length RL n 7)):=by rw[h7];exact bY (by rw[η,η,η,a1];omega)
 have bb:∀j,0<j->j<6+n->μ7[j]?=ν[j]?:=λj h0 hj=>by
  rw[h7,ar `am,ι (by rw[η,η,a1];omega),ι (by rw[η,a1];omega),ι `am]
 have b1:μ7[1]?=some (vls B):=by rw[bb 1 `am `am,nu0 1 `am,h6];rfl
 have b2:μ7[2]?=some (vls Fl):=by rw[bb 2 `am `am,nu0 2 `am,h6];rfl
 have b3:μ7[3]?=some (vls Tm):=by rw[bb 3 `am `am,nu0 3 `am,h6];rfl
 have b4:μ7[4]?=some (vls Ov):=by rw[bb 4 `am `am,nu0 4 `am,h6];rfl
 have bn:μ7[6+n]?=some (vls Rg):=by
  rw[h7,ar `am,ι (by rw[η,η,a1];show 6+n<6+n+1+1;omega),ι (by rw[η,a1];show 6+n<6+n+1;omega),<-a1,ο (ξ _),Y4]
  rfl
 have bu:μ7[8+n]?=some (.lst HS):=by
  have e:((ν++[vls Rg])++[Ob.lst [Val.h (6+n)]]).length=8+n:=by rw[η,η,a1];show 6+n+1+1=_;omega
  rw[h7,ar `am,<-e,ο (ξ _),Y4]
  rfl
 have bc:∀p,p<=n->μ7[6+p]?=some (vls (be ((so T rs).t.un p))):=λp hp=>by
  show _=some (vls (be (if p=T.length then Ψ T.length else [])))
  by_cases e:p=T.length
  ·rw[if_pos e,e,<-hn,bn,hRg]
  ·rw[if_neg e,bb (6+p) `am `am,a3 p `am]
   rfl
 have hview:∃X,lvN 4 μ7 (.h 0)=some X/\aV "Tree" "many" X=some (.int (rs.length:Int)):=by
  have hU:lvN 3 μ7 (.h (8+n))=some (.list ((Ψ (n+1)).map λp=>Θ (be ((so T rs).t.un p)))):=by
   show(match μ7[8+n]? with
     | some (.lst xs)=>(cH (xs.map (lvN 2 μ7))).map Θ
     | some (.ins c fs)=>(cH ((fs.map Prod.snd).map (lvN 2 μ7))).map λds=>iY c ((fs.map Prod.fst).zip ds)
     | _=>none)=_
   rw[bu]
   show(cH (HS.map (lvN 2 μ7))).map Θ=_
   rw[hHS,Y9,ma (f:=lvN 2 μ7∘λp=>Val.h (6+p)) (g:=λp=>Θ (be ((so T rs).t.un p))) (l:=Ψ (n+1)) λp hp=>b8 (bc p (by have:=List.mem_range.mp hp;omega))]
   rfl
  refine⟨_,zW (ds:=[.int (rs.length:Int),RL,.list B,.list Fl,.list Tm,.list Ov,.list ((Ψ (n+1)).map λp=>Θ (be ((so T rs).t.un p)))]) b0 ?_,Ds _ _ _ _ _ _ _⟩
  show cH [lvN 3 μ7 (.d _),lvN 3 μ7 (.d _),lvN 3 μ7 (.h 1),lvN 3 μ7 (.h 2),lvN 3 μ7 (.h 3),lvN 3 μ7 (.h 4),lvN 3 μ7 (.h (8+n))]=_
  rw[aX,aX,b8 b1,b8 b2,b8 b3,b8 b4,hU]
  rfl
 obtain⟨X7,hX7,hm7⟩:=hview
 obtain⟨μ8,h8⟩:∃μ8,μ8=(μ7++[vls Hk]).set 0 (.ins "Tree" (gF rs.length RL n 8)):=⟨_,rfl⟩
 have l8:μ8.length=10+n:=by rw[h8,Λ,η,l7];show 9+n+1=_;omega
 obtain⟨μ9,h9⟩:∃μ9,μ9=(μ8++[vls Dp]).set 0 (.ins "Tree" (gF rs.length RL n 9)):=⟨_,rfl⟩
 have l9:μ9.length=11+n:=by rw[h9,Λ,η,l8];show 10+n+1=_;omega
 have c0:μ8[0]?=some (.ins "Tree" (gF rs.length RL n 8)):=by rw[h8];exact bY (by rw[η];omega)
 have d0:μ9[0]?=some (.ins "Tree" (gF rs.length RL n 9)):=by rw[h9];exact bY (by rw[η];omega)
 have cc:∀j,0<j->j<9+n->μ9[j]?=μ7[j]?:=λj h0 hj=>by
  rw[h9,ar `am,ι `am,h8,ar `am,ι `am]
 have ch:μ9[9+n]?=some (vls Hk):=by
  rw[h9,ar `am,ι `am,h8,ar `am,<-l7,ο (ξ _),Y4]
  rfl
 have cd:μ9[10+n]?=some (vls Dp):=by
  rw[h9,ar `am,<-l8,ο (ξ _),Y4]
  rfl
 refine⟨μ9.set 0 (.ins "Tree" (tfs (Eo T rs))),?_,?_⟩
 ·refine lN (δ:=(iE TL RS n tt)) ?_
  rw[<-hTL,<-hRS]
  unfold jN
  refine az (bz (bL (bS (ad `on af) lenT))) ?_
  refine az (bz (v:=.d (.int tt)) (bL (bS (ds:=[.list ((wts rs).map ζ)]) (ad (cR (ds:=rs.map rl) (i8 (x:=RS) `on (by rw[hRS];rfl)) (aF (by rw[ς];omega)) (nN rs _)) af) (by rw[htt];exact o_sumG _)))) ?_
  refine az (cS (fs:=[]) (bL (bS (ad `on af) lenR)) (aL rfl) rfl (by show(0:Nat)<1000;omega)) ?_
  refine az (cS (v:=.d RL) (fs:=(gF rs.length RL n 1)) (bL ?_) (aL rfl) rfl (by show(1:Nat)<1000;omega)) ?_
  ·rw[hRL]
   unfold aS
   rw[Z0]
   refine eR (fU (eR (qv (ad (by rw[<-hRS];exact aa rfl) af))) (cR (ds:=bH 0 (T.map ζ)) (iC (ad (by rw[<-hTL];exact aa rfl) af)) (aF ?_) ?_) (aF (by rw[ς,ς,ig];omega)))
   ·have:∀(i:Nat) (l:List D),(bH i l).length=l.length:=λi l=>by
     induction l generalizing i with
     | nil=>rfl
     | cons a l ih=>rw[bH,Φ,Φ,ih]
    rw[this,ς]
    omega
   ·rw[<-hn]
    exact su n T 0 _ _
  have v2:lvN 4 [Ob.ins "Tree" (gF rs.length RL n 2)] (.h 0)=some (iY "Tree" [("many",.int (rs.length:Int)),("rules",RL)]):=rfl
  refine az (cS (v:=.h 1) (μ1:=[.ins "Tree" (gF rs.length RL n 2),vls B]) (fs:=(gF rs.length RL n 2)) (jR (ds:=B) (cR (ds:=(aS T rs).map rl) (i8 (x:=RL) (bW (al rfl v2) (AF _ _)) (by rw[hRL];rfl)) (aF (by rw[ς];omega)) (by rw[<-eB];exact wI tt _ _)) fB) (aL rfl) rfl (by show(2:Nat)<1000;omega)) ?_
  have v3:lvN 4 [Ob.ins "Tree" (gF rs.length RL n 3),vls B] (.h 0)=some (iY "Tree" [("many",.int (rs.length:Int)),("rules",RL),("bounds",.list B)]):=by
   refine zW (μ:=[Ob.ins "Tree" (gF rs.length RL n 3),vls B]) (fs:=(gF rs.length RL n 3)) (ds:=[.int (rs.length:Int),RL,.list B]) rfl ?_
   show cH [lvN 3 _ (.d _),lvN 3 _ (.d _),lvN 3 _ (.h 1)]=_
   rw[aX,aX,b8 (ds:=B) rfl]
   rfl
  refine az (cS (v:=.h 2) (μ1:=[.ins "Tree" (gF rs.length RL n 3),vls B,vls Fl]) (fs:=(gF rs.length RL n 3)) (jR (ds:=Fl) (cR (ds:=(aS T rs).map rl) (i8 (x:=RL) (bW (al rfl v3) (AE _ _ _)) (by rw[hRL];rfl)) (aF (by rw[ς];omega)) (by rw[<-eF];exact wk _ _ hffA)) fF) (aL rfl) rfl (by show(3:Nat)<1000;omega)) ?_
  refine az (cS (v:=.h 3) (μ1:=[.ins "Tree" (gF rs.length RL n 4),vls B,vls Fl,vls Tm]) (fs:=(gF rs.length RL n 4)) (gQ (ds:=Tm) (by rw[<-eT];exact fU (eR (qv (ad (by rw[<-hTL];exact al rfl aX) af))) (eR (bB (ad aj af) rfl)) (aF (by rw[ς];show T.length+1<=_;omega))) fT) (aL rfl) rfl (by show(4:Nat)<1000;omega)) ?_
  refine az (cS (v:=.h 4) (μ1:=[.ins "Tree" (gF rs.length RL n 5),vls B,vls Fl,vls Tm,vls Ov]) (fs:=(gF rs.length RL n 5)) (gQ (ds:=Ov) (by
   rw[<-eO]
   refine fU (eR ?_) (eR (bB (ad aj af) rfl)) (aF (by rw[U0];show n+1<=_;omega))
   have:=nJ (δ:=viewN 4 [Ob.ins "Tree" (gF rs.length RL n 5),vls B,vls Fl,vls Tm] (iE TL RS n tt)) (fn:=cj (ae (ac 3) ak)) (g:=ac 3) (d:=.int (n:Int)) (k:=(n:Int)) (bB (ad (al rfl aX) af) rfl) (al rfl aX) `am `am
   rw[W2] at this
   exact this) fO) (aL rfl) rfl (by show(5:Nat)<1000;omega)) ?_
  refine az (cS (v:=.h (8+n)) (μ1:=((ν++[vls Rg])++[Ob.lst [Val.h (6+n)]])++[Ob.lst HS]) (μ2:=((ν++[vls Rg])++[Ob.lst [Val.h (6+n)]])++[Ob.lst HS]) (k:=0) (fs:=(gF rs.length RL n 6)) ?_ (aL rfl) ?_ (by show(6:Nat)<1000;omega)) ?_
  ·have hc:ml (jo fJ (ae (ac 3) ak)) (cj ak) (iE TL RS n tt) μ6=R.ret (.h 5,ν):=by
    have hrg:fJ [.int (n:Int)]=some (bF 0 n):=by
     show(if b62 (n:Int)=true then some (bF 0 (n:Int).toNat) else none)=_
     rw[if_pos (by unfold b62;simp;omega),W2]
    have hcn:∀l:List D,pq (cj ak) l=M.ret (χ l.length []):=λl=>by
     induction l with
     | nil=>rfl
     | cons a l ih =>
      show(nX (cj ak) [.vl a]).thn (λr=>if aD r=true then (pq (cj ak) l).thn λaB=>M.ret (r::aB) else none)=_
      rw[ih]
      rfl
    have hlr:(bF 0 n).length=n:=by unfold bF;rw[ς,W0]
    have:=AV (δ:=(iE TL RS n tt)) (μ:=μ6) (fi:=jo fJ (ae (ac 3) ak)) (fn:=cj ak) (ds:=bF 0 n) (rows:=χ n []) (gN (ad `on af) hrg) (aF (by rw[hlr];omega)) (by rw[hcn,hlr])
    rw[this,l6,hν]
   have hl:wW (bZ (gl (kO (ae (ac 3) ak))) iP) (iE TL RS n tt) ν=R.ret (.h (7+n),(ν++[vls Rg])++[Ob.lst [Val.h (6+n)]]):=by
    have e1:gl (kO (ae (ac 3) ak)) (iE TL RS n tt) ν=R.ret (.h (6+n),ν++[vls Rg]):=by
     have:=gQ (δ:=(iE TL RS n tt)) (μ:=ν) (fn:=kO (ae (ac 3) ak)) (ds:=Rg) (by
      unfold kO
      rw[ad (al rfl aX) af,ay]
      show(if 0<=(n:Int)/\(n:Int)<=100000 then M.ret _ else none)=_
      rw[if_pos ⟨by omega,by omega⟩,hRg,W2]
      rfl) (by rw[hRg];exact jA _)
     rw[this,a1]
    have e:(ν++[vls Rg]).length=7+n:=by rw[η,a1];show 6+n+1=_;omega
    have:=Dz (cf e1 gE) rfl
    rw[e] at this
    exact this
   rw[h6] at hc
   have hcat:=es_cat hc hl (xs:=[]++(W4 6 n).map Val.h) (zs:=[Val.h (6+n)]) (by
    rw[ι (by rw[η,a1];omega),ι `am]
    exact a2) (by
    have e:(ν++[vls Rg]).length=7+n:=by rw[η,a1];show 6+n+1=_;omega
    rw[<-e,ο (ξ _),Y4]
    rfl) (aF (by rw[η,ς,List.length_range'];show 0+n+1<=_;omega))
   rw[eHS] at hcat
   have e:((ν++[vls Rg])++[Ob.lst [Val.h (6+n)]]).length=8+n:=by rw[η,η,a1];show 6+n+1+1=_;omega
   rw[e] at hcat
   exact hcat
  ·rw[ι (by rw[η,η,a1];omega),ι (by rw[η,a1];omega),ι `am,nu0 0 `am,h6]
   rfl
  rw[show((((ν++[vls Rg])++[Ob.lst [Val.h (6+n)]])++[Ob.lst HS]).set 0 (.ins "Tree" (fK "under" (.h (8+n)) (gF rs.length RL n 6))):Sto)=μ7 from h7.symm]
  refine az (cS (v:=.h (9+n)) (μ1:=μ7++[vls Hk]) (μ2:=μ7++[vls Hk]) (k:=0) (fs:=(gF rs.length RL n 7)) ?_ (aL rfl) (by rw[ι `am];exact b0) (by show(7:Nat)<1000;omega)) ?_
  ·have hrg:fJ [.int (n:Int)]=some (bF 0 n):=by
    show(if b62 (n:Int)=true then some (bF 0 (n:Int).toNat) else none)=_
    rw[if_pos (by unfold b62;simp;omega),W2]
   have hlr:(bF 0 n).length=n:=by unfold bF;rw[ς,W0]
   have:=gQ (δ:=(iE TL RS n tt)) (μ:=μ7) (fn:=jB (cq 1 [0] (tgN 0) (jo fJ (ae (ac 3) ak)) eU (d2 bf (d1 (aV "Tree" "many") (ac 1)) (ac 0))) (gI (cj (ae (dC .none) ak)))) (ds:=Hk) (by
    rw[<-eH]
    refine fU (cR (ds:=bF 0 n) (gN (ad (al rfl aX) af) hrg) (aF (by rw[hlr];omega)) ?_) (eR (bB (ad aj af) rfl)) (aF (by rw[ς,List.length_range'];show n+1<=_;omega))
    show cz _ _ _ _ [Sl.un,_]=_
    rw[vB rfl hX7,lh]
    exact v6 rs.length X7 hm7 n 0 _) fH
   rw[l7] at this
   exact this
  rw[show((μ7++[vls Hk]).set 0 (.ins "Tree" (fK "hooks" (.h (9+n)) (gF rs.length RL n 7))):Sto)=μ8 from h8.symm]
  refine az (cS (v:=.h (10+n)) (μ1:=μ8++[vls Dp]) (μ2:=μ8++[vls Dp]) (k:=0) (fs:=(gF rs.length RL n 8)) ?_ (aL rfl) (by rw[ι `am];exact c0) (by show(8:Nat)<1000;omega)) ?_
  ·have:=gQ (δ:=(iE TL RS n tt)) (μ:=μ8) (fn:=jB (gI (rp (cj (ae (dC (.int 1)) ak)) (ac 3))) (gI (cj (ae `DY ak)))) (ds:=Dp) (by
    rw[<-eD]
    refine fU (eR ?_) (eR (bB (ad aj af) rfl)) (aF (by rw[U0];show n+1<=_;omega))
    have:=nJ (δ:=viewN 4 μ8 (iE TL RS n tt)) (fn:=cj (ae (dC (.int 1)) ak)) (g:=ac 3) (d:=.int 1) (k:=(n:Int)) (bB (ad aj af) rfl) (al rfl aX) `am `am
    rw[W2] at this
    exact this) fD
   rw[l8] at this
   exact this
  rw[show((μ8++[vls Dp]).set 0 (.ins "Tree" (fK "depths" (.h (10+n)) (gF rs.length RL n 8))):Sto)=μ9 from h9.symm]
  have hlast:=cS (n:=([.ins "Tree" []]:Sto).length) (x := "begin") (fe:=bN `DY) (fo:=aI 0) (δ:=(iE TL RS n tt)) (v:=.d (.int 0)) (μ:=μ9) (bL aj) (aL rfl) d0 (by show(9:Nat)<1000;omega)
  have ef:fK "begin" (.d (.int 0)) (gF rs.length RL n 9)=tfs (Eo T rs):=by
   unfold tfs Eo
   rw[hRL,hn]
   rfl
  rw[ef] at hlast
  exact hlast
 ·have hs:∀j,0<j->(μ9.set 0 (.ins "Tree" (tfs (Eo T rs))))[j]?=μ9[j]?:=λj hj=>ar `am
  refine⟨bY `am,?_,?_,?_,?_,?_,λp hp=>?_,?_,?_⟩
  ·rw[hs 1 `am,cc 1 `am `am,b1,hB];rfl
  ·rw[hs 2 `am,cc 2 `am `am,b2,hFl];rfl
  ·rw[hs 3 `am,cc 3 `am `am,b3,hTm,hn];rfl
  ·rw[hs 4 `am,cc 4 `am `am,b4,hOv,hn];rfl
  ·show(μ9.set 0 _)[8+T.length]?=some (.lst ((Ψ (T.length+1)).map λp=>Val.h (6+p)))
   rw[<-hn,hs _ `am,cc _ `am `am,bu,hHS]
  ·have hp:p<=n:=by rw[hn];exact hp
   rw[hs _ `am,cc _ `am `am]
   exact bc p hp
  ·show(μ9.set 0 _)[9+T.length]?=some (vls (rg (T.length+1) λp=>ovD T.length ((so T rs).t.hk p) p))
   rw[<-hn,hs _ `am,ch,hHk]
  ·show(μ9.set 0 _)[10+T.length]?=some (vls (rg (T.length+1) λp=>.int ((so T rs).dp p:Int)))
   rw[<-hn,hs _ `am,cd,hDp]
theorem DI(xs:List D):mJ none (some (-1)) (.list xs)=some (.list xs.dropLast):=by
 show some (Θ (nk xs none (some (-1))))=_
 unfold nk HT.sIx
 rw[List.dropLast_eq_take]
 grind
theorem DJ(xs:List D)(n:Nat):mJ none (some (n:Int)) (.list xs)=some (.list (xs.take n)):=by
 show some (Θ (nk xs none (some (n:Int))))=_
 rw[xR]
section
variable{T:List Int}{rs:List Rl}
theorem iI{k:Nat}(h:k<rs.length):(aS T rs).getD k r0=rs.getD k r0:=by
 unfold aS
 grind
theorem mY{p:Nat}(h:p<T.length):(aS T rs).getD (rs.length+p) r0=⟨p,T.length,-T.getD p 0,none,.tuple []⟩:=by
 unfold aS
 rw[Y0,ο `am,Nat.add_sub_cancel_left,<-Y0,nT _ _ _ _ h,W1]
theorem mG:(aS T rs).length=rs.length+T.length:=by unfold aS;rw[η,ig]
theorem wts_nn(hw:∀r∈rs,∀w,r.w=some w->0<=w):0<=(wts rs).sum:=by
 induction rs with
 | nil=>exact V0 _
 | cons r rs ih =>
  have ih:=ih λq hq=>hw q (θ _ hq)
  unfold wts
  grind
theorem dn{k:Nat}(h:k<rs.length):rs.getD k r0∈rs:=by
 simp_all
theorem vz(f:Nat->Int):∀k,TR.sm (k+1) f=f 0+TR.sm k λj=>f (j+1)
 | 0=>by show 0+f 0=f 0+0;omega
 | k+1=>by rw[TR.sm,vz f k,TR.sm];omega
theorem nu(f:Rl->Int):∀l:List Rl,TR.sm l.length (λk=>f (l.getD k r0))=(l.map f).sum
 | []=>rfl
 | a::l=>by
  rw[Φ,vz,ω,List.sum_cons,<-nu f l]
  rfl
theorem vm(tt:Int):∀l:List Rl,(l.map λr=>if r.w.isNone=true then 0 else bdr tt r).sum=(wts l).sum
 | []=>rfl
 | r::l=>by
  rw[ω,List.sum_cons,vm tt l,wts]
  unfold bdr
  cases hw:r.w with
  | none=>exact Int.zero_add _
  | some w=>exact(List.sum_cons).symm
theorem Inv0(hp:Pts T.length rs)(hw:∀r∈rs,∀w,r.w=some w->0<=w)(hk:m4 (λv=>T.getD v 0) rs):TR.Inv (Eo T rs).net (so T rs):=by
 have ht:=wts_nn hw
 have T0:T.getD T.length 0=0:=by simp
 have cas:∀k,k<(aS T rs).length->(k<rs.length/\(aS T rs).getD k r0=rs.getD k r0/\rs.getD k r0∈rs)\/∃p,p<T.length/\k=rs.length+p/\(aS T rs).getD k r0=⟨p,T.length,-T.getD p 0,none,.tuple []⟩:=λk hk=>by
  rw[mG] at hk
  rcases Z6 k rs.length with z | z
  ·exact .inl ⟨z,iI z,dn z⟩
  ·exact .inr ⟨k-rs.length,by omega,by omega,by rw[show k=rs.length+(k-rs.length) by omega];rw[mY `am];simp⟩
 have must0:∀r∈rs,r.w=none->r.lo=r.hi->r.le<=0:=λr hr hn hl=>by
  have:=hk r hr hn
  grind
 have ff:∀k,k<(aS T rs).length->(ffr ((aS T rs).getD k r0)=0\/(((aS T rs).getD k r0).lo=((aS T rs).getD k r0).hi/\0<((aS T rs).getD k r0).le/\ffr ((aS T rs).getD k r0)=bdr (wts rs).sum ((aS T rs).getD k r0)))/\0<=bdr (wts rs).sum ((aS T rs).getD k r0):=λk hk=>by
  rcases cas k hk with ⟨_,e,hm⟩ | ⟨p,hp,_,e⟩
  ·rw[e]
   have h1:=hw _ hm
   have h2:=must0 _ hm
   generalize rs.getD k r0=r at h1 h2
   unfold ffr bdr
   grind
  ·rw[e]
   refine⟨.inl ?_,by show 0<=(wts rs).sum+1;omega⟩
   unfold ffr
   simp
 refine⟨⟨rfl,?_,λp hp=>?_⟩,λq hq=>?_,λp hp=>?_,λp hp=>?_,λk hk=>?_,λk hk _=>?_,λp=>?_,λp hp=>?_,λk hk hl=>?_,T0⟩
 ·show(if T.length<T.length then 1 else 0)=0
  simp
 ·have hp:p<T.length:=hp
  refine⟨ξ _,?_⟩
  show(if p<T.length then 1 else 0)=(if T.length<T.length then 1 else 0)+1
  simp_all
 ·show(if q=T.length then Ψ T.length else []).Nodup/\∀p,p∈(if q=T.length then Ψ T.length else [])↔p<T.length/\T.length=q
  grind
 ·have hp:p<T.length:=hp
  refine⟨?_,.inl ⟨?_,?_⟩⟩
  ·show rs.length+p<(aS T rs).length
   rw[mG];omega
  ·show((aS T rs).getD (rs.length+p) r0).lo=p
   rw[mY hp]
  ·show((aS T rs).getD (rs.length+p) r0).hi=T.length
   rw[mY hp]
 ·have hp:p<T.length:=hp
  show((aS T rs).getD (rs.length+p) r0).le-T.getD ((aS T rs).getD (rs.length+p) r0).hi 0+T.getD ((aS T rs).getD (rs.length+p) r0).lo 0=0
  rw[mY hp]
  grind
 ·show 0<=ffr ((aS T rs).getD k r0)/\ffr ((aS T rs).getD k r0)<=bdr (wts rs).sum ((aS T rs).getD k r0)
  obtain⟨h1,h2⟩:=ff k hk
  omega
 ·show ffr ((aS T rs).getD k r0)=0\/ffr ((aS T rs).getD k r0)=bdr (wts rs).sum ((aS T rs).getD k r0)
  rcases (ff k hk).1 with z | ⟨_,_,z⟩
  all_goals omega
 ·rw[TR.bv (g:=λ_=>0) λk hk=>?_,TR.iN]
  show ffr ((aS T rs).getD k r0)*TR.inc _ p k=0
  rcases (ff k hk).1 with z | ⟨z,_,_⟩
  ·simp_all
  ·unfold TR.inc
   show _*((if ((aS T rs).getD k r0).hi=p then 1 else 0)-(if ((aS T rs).getD k r0).lo=p then 1 else 0))=0
   simp_all
 ·have hp:p<T.length:=hp
  show 0<(if ((aS T rs).getD (rs.length+p) r0).lo=p then bdr (wts rs).sum ((aS T rs).getD (rs.length+p) r0)-ffr ((aS T rs).getD (rs.length+p) r0) else ffr ((aS T rs).getD (rs.length+p) r0))
  rw[mY hp,if_pos rfl]
  unfold bdr ffr
  grind
 ·have hl:((aS T rs).getD k r0).lo=((aS T rs).getD k r0).hi:=hl
  show(0<((aS T rs).getD k r0).le->ffr ((aS T rs).getD k r0)=bdr (wts rs).sum ((aS T rs).getD k r0))/\(((aS T rs).getD k r0).le<=0->ffr ((aS T rs).getD k r0)=0)
  refine⟨λh=>?_,λh=>?_⟩
  ·rcases cas k hk with ⟨_,e,hm⟩ | ⟨p,hp,_,e⟩
   ·rw[e] at hl h ⊢
    have h2:=must0 _ hm
    generalize rs.getD k r0=r at hl h h2
    unfold ffr bdr
    grind
   simp_all
  ·unfold ffr
   omega
theorem Nw0(hp:Pts T.length rs)(hk:m4 (λv=>T.getD v 0) rs):TR.Nw (Eo T rs).net rs.length (λk=>(rs.getD k r0).w.isNone) (wts rs).sum (λv=>T.getD v 0):=by
 refine⟨mG,λk h=>?_,λk h=>?_,λp h=>?_,?_,λk h hm=>?_,λk h hm=>?_⟩
 ·show((aS T rs).getD k r0).lo<T.length
  rw[iI h];exact(hp _ (dn h)).1
 ·show((aS T rs).getD k r0).hi<T.length
  rw[iI h];exact(hp _ (dn h)).2
 ·have h:p<T.length:=h
  show((aS T rs).getD (rs.length+p) r0).lo=p/\((aS T rs).getD (rs.length+p) r0).hi=T.length
  rw[mY h]
  exact⟨rfl,rfl⟩
 ·rw[<-vm (wts rs).sum rs,<-nu]
  refine TR.bv λk h=>?_
  show(if (rs.getD k r0).w.isNone=true then 0 else bdr (wts rs).sum ((aS T rs).getD k r0))=_
  rw[iI h]
 ·show bdr (wts rs).sum ((aS T rs).getD k r0)=(wts rs).sum+1
  rw[iI h]
  unfold bdr
  rw[Option.isNone_iff_eq_none.mp hm]
 ·show((aS T rs).getD k r0).le<=T.getD ((aS T rs).getD k r0).hi 0-T.getD ((aS T rs).getD k r0).lo 0
  rw[iI h]
  have this:T.getD (rs.getD k r0).lo 0+(rs.getD k r0).le<=T.getD (rs.getD k r0).hi 0:=hk _ (dn h) (Option.isNone_iff_eq_none.mp hm)
  omega
end
noncomputable def cst(T:List Int)(r:Rl):Int:=match r.w with
 | none=>0
 | some w=>w*max 0 (r.le-T.getD r.hi 0+T.getD r.lo 0)
structure Lt(m:Nat)(rs:List Rl)(T F:List Int):Prop where
 lT:T.length=m+1
 t0:T.getD 0 0=0
 lF:F.length=rs.length
 bb:∀k,k<rs.length->0<=F.getD k 0/\∀w,(rs.getD k r0).w=some w->F.getD k 0<=w
 cs:∀p,p<m+1->TR.sm rs.length (λk=>F.getD k 0*((if (rs.getD k r0).hi=p then 1 else 0)-(if (rs.getD k r0).lo=p then 1 else 0)))=0
 kp:m4 (λv=>T.getD v 0) rs
 eq:TR.sm rs.length (λk=>F.getD k 0*(rs.getD k r0).le)=TR.sm rs.length (λk=>cst T (rs.getD k r0))
theorem fR{n:Nat}{f:Nat->Int}{k:Nat}(h:k<n):((Ψ n).map f).getD k 0=f k:=by
 simp_all
theorem sq{n:Nat}{f:Nat->Int}{X:D}{t0:Int}(h:aV "Tree" "times" X=some (.list (rg n λp=>.int (f p))))(h0:oIx (.list (rg n λp=>.int (f p))) (.int 0)=some (.int t0)):∀(q:List Int) (x:Sl),cz (tgN 0) (nX eU) (nX (d2 gY (ac 0) (d2 oIx (d1 (aV "Tree" "times") (ac 1)) `DY))) (q.map ζ) [x,.vl X]=M.ret ((q.map λt=>t-t0).map ζ)
 | [],x=>rfl
 | t::q,x=>dq (δ':=[.vl (.int t),.vl X]) rfl (ag `on (ag (bW `on h) aj h0) iw) (sq h h0 q _)
theorem wQ{E:Tn}{s:TR.St}{X:D}(Tf':Tf E s X)(hn:0<E.n)(hz:E.n<=900):fA [X]=M.ret (.list (((Ψ E.n).map λp=>s.tm p-s.tm 0).map ζ)):=by
 refine bh ?_
 unfold hG
 have hc:mJ none (some (-1)) (.list (rg (E.n+1) λp=>.int (s.tm p)))=some (.list (((Ψ E.n).map s.tm).map ζ)):=by
  rw[DI,li,List.dropLast_concat]
  unfold rg
  simp
 have e:((Ψ E.n).map λp=>s.tm p-s.tm 0)=((Ψ E.n).map s.tm).map λt=>t-s.tm 0:=by simp
 rw[e]
 exact bX (cR (ds:=((Ψ E.n).map s.tm).map ζ) (i8 (lM (bW `on Tf'.times) j8 (j7 (bW aj rfl)) hc) rfl) (aF (by grind)) (sq Tf'.times (de (k:=0) `am) _ _))
theorem Dm{E:Tn}{s:TR.St}{X:D}(Tf':Tf E s X)(hm:E.m<=E.rs.length):bI [X]=M.ret (.list (((Ψ E.m).map s.fl).map ζ)):=by
 refine bh ?_
 refine bX (lM (bW `on Tf'.flow) j8 (j7 (bW `on Tf'.many)) ?_)
 rw[DJ]
 unfold rg
 rw[<-List.map_take,List.take_range,Nat.min_eq_left hm,Y9]
 rfl
theorem Aa{m:Nat}{rs:List Rl}(hp:Pts (m+1) rs)(hm:m<=800)(hr:rs.length<=900)(hw:∀r∈rs,∀w,r.w=some w->0<=w)(hy:∀r∈rs,bA r.why=true) :
  (∃L:List Int,cw [.int (m:Int),.list (rs.map rl)]=M.ret (.tuple [.str "ring",.list (L.map ζ)])/\0<L.length/\L.length<=m+1/\pX rs (L.map ζ)=true) \/
  (∃T F:List Int,cw [.int (m:Int),.list (rs.map rl)]=M.ret (.tuple [.str "timed",.list (T.map ζ),.list (F.map ζ)])/\Lt m rs T F):=by
 have toF:∀{d:D} {μ:Sto},dH [.d (.int (m:Int)),.d (.list (rs.map rl))] []=R.ret (.d d,μ)->cw [.int (m:Int),.list (rs.map rl)]=M.ret d:=λ{d μ} h=>by
  unfold cw asD
  show(match dH [.d (.int (m:Int)),.d (.list (rs.map rl))] [] with | some (.ok (.d x,_))=>M.ret x | _=>none)=_
  rw[h]
  rfl
 have eqr:oEq (.str "ring") (.str "ring")=some (.bool true):=by kernel_rfl
 have eqk:oEq (.str "kept") (.str "ring")=some (.bool false):=by kernel_rfl
 rcases pG hp `am with ⟨T,h1,h2,h3,h4⟩ | ⟨L,h1,h2,h3,h4⟩
 ·right
  obtain⟨RS,hRS⟩:∃RS:D,RS=.list (rs.map rl):=⟨_,rfl⟩
  have hp':Pts T.length rs:=by rw[h2];exact hp
  have hE:(Eo T rs).n=m+1:=h2
  have hm':(Eo T rs).m<=(Eo T rs).rs.length:=by show rs.length<=(aS T rs).length;rw[mG];omega
  obtain⟨μ0,e0,P0⟩:=De (T:=T) (rs:=rs) `am `am λr hr hl h0 hn=>by
   have:=h4 r hr hn
   rw[hl] at this
   omega
  have hPin:Pin (Eo T rs):=λk hk=>by
   show((aS T rs).getD k r0).lo<=T.length/\((aS T rs).getD k r0).hi<=T.length
   have hk:k<(aS T rs).length:=hk
   rw[mG] at hk
   rcases Z6 k rs.length with z | z
   ·rw[iI z];have:=hp' _ (dn z);omega
   ·rw[show k=rs.length+(k-rs.length) by omega,mY `am]
    show k-rs.length<=T.length/\T.length<=T.length
    omega
  have hFla:Fla (Eo T rs):=λk hk=>by
   show bA (rl ((aS T rs).getD k r0))=true
   have hk:k<(aS T rs).length:=hk
   rw[mG] at hk
   have fl:∀r:Rl,bA r.why=true->bA (rl r)=true:=λr h=>by
    show(true&&(true&&(true&&(bA (wD r.w)&&(bA r.why&&true)))))=true
    rw[h]
    cases r.w<;>rfl
   rcases Z6 k rs.length with z | z
   ·rw[iI z];exact fl _ (hy _ (dn z))
   ·rw[show k=rs.length+(k-rs.length) by omega,mY `am];rfl
  obtain⟨s,b2,μ1,e1,P1,I1,hno⟩:=wS P0 (Inv0 hp' hw h4) hPin hFla hm' (show rs.length<=900 from hr) ⟨rfl,.inl rfl⟩ `am
  have G:=I1.ends (Nw0 hp' h4) hno
  obtain⟨X,hX,Tf'⟩:=P1.tf
  have hE2:((Eo T rs).at b2).n=m+1:=h2
  have ht:=wQ Tf' `am `am
  have hf:=Dm Tf' hm'
  rw[hE2] at ht
  have hf:bI [X]=M.ret (.list (((Ψ rs.length).map s.fl).map ζ)):=hf
  refine⟨(Ψ (m+1)).map λp=>s.tm p-s.tm 0,(Ψ rs.length).map s.fl,toF (μ:=[]) ?_,⟨by rw[ς,W0],?_,by rw[ς,W0],λk hk=>?_,λp hpm=>?_,λr hr hn=>?_,?_⟩⟩
  ·refine o6 ?_
   unfold dR
   refine az (bz (rR (cf (aL rfl) (cf (aL rfl) gE)) h1)) ?_
   refine az (jl (b:=false) (fg (bi (ag (ag `on aj (rfl:oIx (.tuple [.str "kept",.list (T.map ζ)]) (.int 0)=some (.str "kept"))) aj eqk))) (gy rfl rfl)) ?_
   refine az (bz (es_mk (cf (bL (ag `on aj (rfl:oIx (.tuple [.str "kept",.list (T.map ζ)]) (.int 1)=some (.list (T.map ζ))))) (cf (aL rfl) gE)) e0)) ?_
   refine az (i9 (mF (aL rfl) P0.h0 rfl gE e1)) ?_
   exact Dy (bR (ad aj (ad (cn Tf' xq (al rfl hX) af ht) (ad (cn Tf' nf_fr (al rfl hX) af hf) af))) rfl)
  ·rw[fR `am];exact Int.sub_self _
  ·rw[fR hk]
   obtain⟨g1,g2⟩:=G.bb k hk
   refine⟨g1,λw hw=>?_⟩
   have:=g2 (by rw[hw];rfl)
   have hb:(Eo T rs).net.bd k=w:=by
    show bdr (wts rs).sum ((aS T rs).getD k r0)=w
    rw[iI hk]
    unfold bdr
    rw[hw]
   omega
  ·have:=G.cs p (by show p<T.length;omega)
   refine Eq.trans (TR.bv λk hk=>?_) this
   rw[fR hk]
   unfold TR.inc
   show _=s.fl k*((if ((aS T rs).getD k r0).hi=p then 1 else 0)-(if ((aS T rs).getD k r0).lo=p then 1 else 0))
   rw[iI hk]
  ·obtain⟨k,hk,rfl⟩:=List.mem_iff_getElem.mp hr
   have hg:rs.getD k r0=rs[k]:=by rw[Y0,Δ hk];rfl
   have:=G.mu k hk (by rw[hg,hn];rfl)
   obtain⟨p1,p2⟩:=hp _ hr
   show((Ψ (m+1)).map λp=>s.tm p-s.tm 0).getD (rs[k]).lo 0+(rs[k]).le<=((Ψ (m+1)).map λp=>s.tm p-s.tm 0).getD (rs[k]).hi 0
   rw[fR p1,fR p2]
   have this:((aS T rs).getD k r0).le-s.tm ((aS T rs).getD k r0).hi+s.tm ((aS T rs).getD k r0).lo<=0:=this
   rw[iI hk,hg] at this
   omega
  ·have:=G.eq
   rw[TR.bv (g:=λk=>s.fl k*(Eo T rs).net.ln k) λk hk=>?_,this]
   ·refine TR.bv λk hk=>?_
    obtain⟨p1,p2⟩:=hp _ (dn hk)
    unfold cst TR.lack
    show(if (rs.getD k r0).w.isNone=true then 0 else bdr (wts rs).sum ((aS T rs).getD k r0)*max 0 (((aS T rs).getD k r0).le-s.tm ((aS T rs).getD k r0).hi+s.tm ((aS T rs).getD k r0).lo))=_
    rw[iI hk,fR p1,fR p2]
    generalize rs.getD k r0=r
    unfold bdr
    cases hw:r.w with
    | none=>rfl
    | some w =>
     show w*max 0 _=w*max 0 _
     congr 2
     omega
   ·rw[fR hk]
    show _=s.fl k*((aS T rs).getD k r0).le
    rw[iI hk]
 ·left
  refine⟨L,toF (μ:=[]) ?_,h2,h3,h4⟩
  refine o6 ?_
  unfold dR
  refine az (bz (rR (cf (aL rfl) (cf (aL rfl) gE)) h1)) ?_
  exact rP (jl (b:=true) (fg (bi (ag (ag `on aj (rfl:oIx (.tuple [.str "ring",.list (L.map ζ)]) (.int 0)=some (.str "ring"))) aj eqr))) (fM rfl (AS (aL rfl))))
theorem qt:∀(l acc:List Int),mC acc l=true↔(∀x∈l,x∉acc)/\l.Nodup
 | [],acc=>⟨λ_=>⟨λx h=>(nomatch h),List.nodup_nil⟩,λ_=>rfl⟩
 | a::l,acc=>by
  rw[mC,Z2,qt l (acc++[a]),X0]
  have h1:(!(acc.any (·==a)))=true↔a∉acc:=by
   grind
  rw[h1]
  constructor
  ·rintro⟨g1,g2,g3⟩
   refine⟨λx hx=>?_,λz=>g2 a z (by simp),g3⟩
   grind
  grind
structure IsR(q:List Rl):Prop where
 rnd:q.map hiI=(q.map loI).drop 1++(q.map loI).take 1
 nd:(q.map loI).Nodup
 no:∀r∈q,r.w=none
 pos:0<(q.map leI).sum
 ne:q≠[]
theorem isR_of{rs:List Rl}{L:List Int}(h:pX rs (L.map ζ)=true):IsR ((L.map ζ).map (atR rs))/\∀r∈(L.map ζ).map (atR rs),r∈rs:=by
 unfold pX yK at h
 simp only[Z2,decide_eq_true_eq] at h
 obtain⟨h1,h2,⟨h3,h4⟩,h5,h6⟩:=h
 refine⟨⟨h3,((qt _ _).mp h4).2,λr hr=>?_,h6,λz=>?_⟩,λr hr=>?_⟩
 ·have:=U6.mp h5 r hr
  exact Option.isNone_iff_eq_none.mp this
 ·simp_all
 ·obtain⟨d,hd,rfl⟩:=V6.mp hr
  have:=U6.mp h2 d hd
  obtain⟨i,_,rfl⟩:=V6.mp hd
  unfold okE at this
  rw[Z2,decide_eq_true_eq,decide_eq_true_eq] at this
  show rs.getD i.toNat r0∈rs
  simp_all
theorem BQ(g:α->Int)(l:List α):((l.drop 1++l.take 1).map g).sum=(l.map g).sum:=by
 cases l with
 | nil=>rfl
 | cons a l=>simp [Z0,List.sum_append,Int.add_comm]
theorem yt{t:Nat->Int}:∀(q:List Rl),(∀r∈q,t r.lo+r.le<=t r.hi)->(q.map λr=>t r.lo).sum+(q.map leI).sum<=(q.map λr=>t r.hi).sum
 | [],_=>V0 _
 | r::q,h=>by
  have ih:=yt q λa ha=>h a (θ _ ha)
  have hr:=h r υ
  simp only[ω,List.sum_cons]
  have:leI r=r.le:=rfl
  omega
theorem IsR.not_kept{q:List Rl}(h:IsR q){t:Nat->Int}(hk:∀r∈q,t r.lo+r.le<=t r.hi):False:=by
 have h1:=yt q hk
 have e1:(q.map λr=>t r.lo).sum=((q.map loI).map λi=>t i.toNat).sum:=by
  rw[Y9];rfl
 have e2:(q.map λr=>t r.hi).sum=((q.map hiI).map λi=>t i.toNat).sum:=by
  rw[Y9];rfl
 rw[e1,e2,h.rnd,BQ] at h1
 have:=h.pos
 omega
end CT
namespace TR
theorem pot0{m n:Nat}{lo hi:Nat->Nat}{fl:Nat->Int}(hl:∀k,k<m->lo k<n)(hh:∀k,k<m->hi k<n)(cs:∀p,p<n->sm m (λk=>fl k*((if hi k=p then 1 else 0)-(if lo k=p then 1 else 0)))=0)(π:Nat->Int):sm m (λk=>fl k*(π (hi k)-π (lo k)))=0:=by
 rw[bv (g:=λk=>sm n (λp=>π p*(fl k*((if hi k=p then 1 else 0)-(if lo k=p then 1 else 0))))) λk hk=>?_,qP,bv λp hp=>?_,iN]
 ·rw[nZ,cs p hp,U7]
 ·rw[<-sK (hh k hk) (hl k hk),<-nZ]
  grind
end TR
namespace CT
theorem Lt.weak{m:Nat}{rs:List Rl}{T F:List Int}(h:Lt m rs T F)(hp:Pts (m+1) rs){U:List Int}(hU:m4 (λv=>U.getD v 0) rs):TR.sm rs.length (λk=>cst T (rs.getD k r0))<=TR.sm rs.length (λk=>cst U (rs.getD k r0)):=by
 rw[<-h.eq]
 have hz:=TR.pot0 (λk hk=>(hp _ (dn hk)).1) (λk hk=>(hp _ (dn hk)).2) h.cs (λv=>U.getD v 0)
 have e:TR.sm rs.length (λk=>F.getD k 0*(rs.getD k r0).le)=TR.sm rs.length (λk=>F.getD k 0*((rs.getD k r0).le-U.getD (rs.getD k r0).hi 0+U.getD (rs.getD k r0).lo 0))+TR.sm rs.length (λk=>F.getD k 0*(U.getD (rs.getD k r0).hi 0-U.getD (rs.getD k r0).lo 0)):=by
  rw[<-TR.n0]
  grind
 rw[e,hz,U8]
 refine TR.pR λk hk=>?_
 obtain⟨b1,b2⟩:=h.bb k hk
 have hm:=dn hk
 generalize F.getD k 0=f at b1 b2
 generalize rs.getD k r0=r at b2 hm
 unfold cst
 cases hw:r.w with
 | none =>
  have h1:U.getD r.lo 0+r.le<=U.getD r.hi 0:=hU r hm hw
  have:=V7 (show r.le-U.getD r.hi 0+U.getD r.lo 0<=0 by omega) b1
  simp_all
 | some w =>
  have h2:=b2 w hw
  generalize r.le-U.getD r.hi 0+U.getD r.lo 0=x
  exact Int.le_trans (V7 (show x<=max 0 x by omega) b1) (Int.mul_le_mul_of_nonneg_right h2 `am)
end CT
namespace DL
noncomputable def pk(l:List Int)(i:Int):Int:=l.getD i.toNat 0
theorem oP(h0:0<=i)(h1:i<2):oIx (.list [.int a,.int b]) (.int i)=some (.int (pk [a,b] i)):=by
 have:i=0\/i=1:=by omega
 rcases this with rfl | rfl<;>rfl
theorem Am(h0:0<=i)(h1:i<3):oIx (.list [.int a,.int b,.int c]) (.int i)=some (.int (pk [a,b,c] i)):=by
 have:i=0\/i=1\/i=2:=by omega
 rcases this with rfl | rfl | rfl<;>rfl
theorem tP(h0:0<=i)(h1:i<4):oIx (.list [.int a,.int b,.int c,.int d]) (.int i)=some (.int (pk [a,b,c,d] i)):=by
 have:i=0\/i=1\/i=2\/i=3:=by omega
 rcases this with rfl | rfl | rfl | rfl<;>rfl
end DL
namespace CT
structure Set7 where
 sign:Int
 least:Int
 most:Int
 apart:Int
 shy:Int
 beg:Int
 fin:Int
noncomputable def stE(s:Set7):List (Key×D):=[(.inr "sign",.int s.sign),(.inr "least",.int s.least),(.inr "most",.int s.most),(.inr "apart",.int s.apart),(.inr "shy",.int s.shy),(.inr "begin",.int s.beg),(.inr "end",.int s.fin)]
noncomputable def stD(s:Set7):D:=.dict ((stE s).map λe=>(gw e.1,e.2))
theorem rJ(s:Set7):bE (stD s) (.str "sign")=some (.int s.sign):=by rfl
theorem nI(s:Set7):bE (stD s) (.str "least")=some (.int s.least):=by rfl
theorem Ax(s:Set7):bE (stD s) (.str "most")=some (.int s.most):=by rfl
theorem rK(s:Set7):bE (stD s) (.str "apart")=some (.int s.apart):=by rfl
theorem g_shy(s:Set7):bE (stD s) (.str "shy")=some (.int s.shy):=by rfl
theorem g_beg(s:Set7):bE (stD s) (.str "begin")=some (.int s.beg):=by rfl
theorem g_fin(s:Set7):bE (stD s) (.str "end")=some (.int s.fin):=by rfl
noncomputable def mk(lo hi le:Int)(w why:D):D:=.tuple [.int lo,.int hi,.int le,w,why]
noncomputable def wh1(x:Str)(n:Int):D:=.tuple [.str x,.int n]
noncomputable def wh2(x:Str)(n k:Int):D:=.tuple [.str x,.int n,.int k]
structure Cu where
 b:Int
 e:Int
 h:Str
 w:Str
 L:Int
noncomputable def cuD(c:Cu):D:=.tuple [.int c.b,.int c.e,.str c.h,.str c.w]
def DM(c:Cu):Prop:=dM [.str c.w]=some (.int c.L)/\0<=c.L/\c.L<=1000000
theorem qA(n:Int):aT [.int n]=M.ret (.int (2*n+1)):=by
 rfl
theorem AW(n:Int):bP [.int n]=M.ret (.int (2*n+2)):=by
 rfl
noncomputable def oK(s:Set7)(c:Cu):Int:=max s.least (s.sign*c.L)
noncomputable def ic(s:Set7)(c:Cu)(n:Int):List D:=[mk 0 (2*n+1) 0 .none (wh1 "start" n),mk (2*n+1) (2*n+2) (oK s c) .none (wh1 "long" n),mk (2*n+2) (2*n+1) (-s.most) .none (wh1 "most" n)]
noncomputable def kq(s:Set7)(c:Cu)(n:Int):List D:=[mk 0 (2*n+1) c.b (.int s.beg) (wh1 "wish" n),mk (2*n+1) 0 (-c.b) (.int s.beg) (wh1 "wish" n),mk 0 (2*n+2) c.e (.int s.fin) (wh1 "wish" n),mk (2*n+2) 0 (-c.e) (.int s.fin) (wh1 "wish" n)]
theorem Bd(s:Set7)(hc:DM c)(n:Int):dr [stD s,cuD c,.int n]=M.ret (.list (ic s c n)):=by
 obtain⟨c1,c2,c3⟩:=hc
 refine bh ?_
 refine gB (aN (aO (ad `on af) (qA n))) ?_
 refine gB (aN (aO (ad `on af) (AW n))) ?_
 refine gB (aN (bS (ad (ag `on aj (nI s)) (ad (ag (ag `on aj (rJ s)) (bS (ad (ag `on aj rfl) af) c1) (lm (vg `am `am))) af)) p8)) ?_
 rfl
theorem Bk(s:Set7)(c:Cu)(n:Int):jU [stD s,cuD c,.int n]=M.ret (.list (kq s c n)):=by
 refine bh ?_
 rfl
noncomputable def t8(shy b e n k t:Int):List D :=
 if b<=t-shy/\t+shy<=e then [mk (2*n+1) 0 (shy-t) .none (wh2 "early" n k),mk 0 (2*n+2) (t+shy) .none (wh2 "late" n k)]
 else if b+e<=2*t then [mk (2*n+2) 0 (-t) .none (wh2 "ahead" n k)]
 else [mk 0 (2*n+1) t .none (wh2 "behind" n k)]
theorem cut_ev(shy:Int)(c:Cu)(n k t:Int):cv [.int shy,cuD c,.int n,.int k,.int t]=M.ret (.list (t8 shy c.b c.e n k t)):=by
 refine bh ?_
 refine gB (aN (aO (ad `on af) (qA n))) ?_
 have b0:d2 oIx (ac 1) `DY [.vl (.int shy),.vl (cuD c),.vl (.int n),.vl (.int k),.vl (.int t),.vl (.int (2*n+1)),.vl (.int (2*n+2))]=M.ret (.int c.b):=ag `on aj rfl
 have b1:d2 oIx (ac 1) (dC (.int 1)) [.vl (.int shy),.vl (cuD c),.vl (.int n),.vl (.int k),.vl (.int t),.vl (.int (2*n+1)),.vl (.int (2*n+2))]=M.ret (.int c.e):=ag `on aj rfl
 have c1:jT (dB (d2 mr (d2 oIx (ac 1) `DY) (d2 gY (ac 4) (ac 0)))) (dB (d2 mr (d2 bf (ac 4) (ac 0)) (d2 oIx (ac 1) (dC (.int 1))))) [.vl (.int shy),.vl (cuD c),.vl (.int n),.vl (.int k),.vl (.int t),.vl (.int (2*n+1)),.vl (.int (2*n+2))]=M.ret (decide (c.b<=t-shy/\t+shy<=c.e)):=by
  have:=rN (bi (ag (g:=d2 gY (ac 4) (ac 0)) b0 (ag `on `on iw) vQ)) (bi (ag (f:=d2 bf (ac 4) (ac 0)) (ag `on `on bD) b1 vQ))
  simp_all
 unfold t8
 by_cases h1:c.b<=t-shy/\t+shy<=c.e
 ·rw[if_pos h1]
  rw[decide_eq_true h1] at c1
  refine rL c1 (fM rfl (bX (AO (bB (ad (bR (ad `on (ad aj (ad (ag `on `on iw) (ad aj (ad (bR (ad aj (ad `on (ad `on af))) rfl) af))))) rfl) (ad (bR (ad aj (ad `on (ad (ag `on `on bD) (ad aj (ad (bR (ad aj (ad `on (ad `on af))) rfl) af))))) rfl) af)) rfl) rfl)))
 ·rw[if_neg h1]
  rw[decide_eq_false h1] at c1
  refine rL c1 (gy rfl ?_)
  have c2:dB (d2 mr (d2 bf (d2 oIx (ac 1) `DY) (d2 oIx (ac 1) (dC (.int 1)))) (d2 gH (dC (.int 2)) (ac 4))) [.vl (.int shy),.vl (cuD c),.vl (.int n),.vl (.int k),.vl (.int t),.vl (.int (2*n+1)),.vl (.int (2*n+2))]=M.ret (decide (c.b+c.e<=2*t)):=bi (ag (ag b0 b1 bD) (ag aj `on (lm (kZ (by decide) (by decide)))) vQ)
  by_cases h2:c.b+c.e<=2*t
  ·rw[if_pos h2]
   rw[decide_eq_true h2] at c2
   exact rL c2 (fM rfl (bX (AO (bB (ad (bR (ad `on (ad aj (ad (bW `on rfl) (ad aj (ad (bR (ad aj (ad `on (ad `on af))) rfl) af))))) rfl) af) rfl) rfl)))
  ·rw[if_neg h2]
   rw[decide_eq_false h2] at c2
   exact rL c2 (gy rfl (bX (AO (bB (ad (bR (ad aj (ad `on (ad `on (ad aj (ad (bR (ad aj (ad `on (ad `on af))) rfl) af))))) rfl) af) rfl) rfl)))
theorem t7(shy b e n k t:Int):(t8 shy b e n k t).length<=2:=by
 unfold t8
 split
 ·exact ξ _
 ·split<;>exact Nat.le_succ _
theorem xQ(shy b e n k t:Int):aD (t8 shy b e n k t)=true:=by
 unfold t8
 split
 ·rfl
 ·split<;>rfl
noncomputable def lX(shy b e n:Int):Nat->List Int->List D
 | _,[]=>[]
 | k,t::ts=>t8 shy b e n k t++lX shy b e n (k+1) ts
theorem DH(s:Set7)(c:Cu)(n:Int)(A B F P:D):∀(ts:List Int) (k:Nat) (acc:List D) (x8 x9:Sl),acc.length+2*ts.length<=1000000->∃y8 y9,iB (cr (dk 2 (aR (tgN 8) (aR (tgN 9) dm))) (lL 4 (nF (aG (λds=>noX (cv ds)) (ae (d2 bE (ac 0) (dC (.str "shy"))) (ae (ac 6) (ae (ac 7) (ae (ac 8) (ae (ac 9) ak))))))))) (bH k (ts.map ζ)) [.vl (stD s),.vl A,.vl B,.vl F,.ow acc,.vl P,.vl (cuD c),.vl (.int n),x8,x9]=M.ret (.nx [.vl (stD s),.vl A,.vl B,.vl F,.ow (acc++lX s.shy c.b c.e n k ts),.vl P,.vl (cuD c),.vl (.int n),y8,y9]):=by
 intro ts
 induction ts with
 | nil=>intro k acc x8 x9 _;exact⟨x8,x9,by rw[lX,Z3];rfl⟩
 | cons t ts ih =>
  intro k acc x8 x9 hl
  rw[Φ] at hl
  have hlen:=t7 s.shy c.b c.e n k t
  obtain⟨y8,y9,hI⟩:=ih (k+1) (acc++t8 s.shy c.b c.e n k t) (.vl (.int (k:Int))) (.vl (.int t)) (by grind)
  refine⟨y8,y9,?_⟩
  rw[lX,<-T7]
  refine cm (i7 rfl ?_) hI
  exact rM rfl (wp (aO (ad (ag `on aj (g_shy s)) (ad `on (ad `on (ad `on (ad `on af))))) (cut_ev s.shy c n k t)) (xQ ..)) (aF `am)
noncomputable def nxt(h:Str):Nat->List Cu->Option Nat
 | _,[]=>none
 | w,c::cs=>if c.h=h then some w else nxt h (w+1) cs
noncomputable def cB(s:Set7)(c:Cu)(aB:List Cu)(n:Int):List D :=
 (if aB=[] then [] else [mk (2*n+1) (2*(n+1)+1) 0 .none (wh2 "order" n (n+1))])++(match nxt c.h 1 aB with | some w=>[mk (2*n+2) (2*(n+(w:Int))+1) s.apart .none (wh2 "apart" n (n+(w:Int)))] | none=>[])
noncomputable def iQ(s:Set7)(ts:List Int):Int->List Cu->List D
 | _,[]=>[]
 | n,c::aB=>ic s c n++kq s c n++cB s c aB n++lX s.shy c.b c.e n 0 ts++iQ s ts (n+1) aB
def hOk(c:Cu):Prop:=U3 c.h=true
theorem o_eqH(ha:hOk a)(hb:hOk b):oEq (.str a.h) (.str b.h)=some (.bool (decide (a.h=b.h))):=by
 rw[o_eqS ha hb]
 congr 2
theorem vX{cs:List Cu}{i:Nat}{c:Cu}(h:cs[i]?=some c):oIx (.list (cs.map cuD)) (.int (i:Int))=some (cuD c):=by
 refine oQ `am ?_
 simp_all
theorem wZ(j m:Nat):bF (j:Int) (m+1)=.int (j:Int)::bF ((j+1:Nat):Int) m:=by
 unfold bF
 rw[List.range_succ_eq_map,ω,Y9]
 congr 1
 refine List.map_congr_left λi _=>?_
 grind
theorem ya(s:Set7){cs:List Cu}{p:Nat}{c:Cu}{aB:List Cu}(hok:∀c∈cs,hOk c)(hp:cs.drop p=c::aB)(hl:cs.length<=1000)(n:Int):cX [stD s,.list (cs.map cuD),.int (p:Int),.int n]=M.ret (.list (cB s c aB n)):=by
 have hlen:cs.length=p+(aB.length+1):=by
  have h1:=congrArg V5 hp
  rw[U5,Φ] at h1
  omega
 have hln:dM [.list (cs.map cuD)]=some (.int ((cs.length:Nat):Int)):=by rw[kN,ς]
 have hc:cs[p]?=some c:=by
  have:=congrArg List.head? hp
  rw[List.head?_drop] at this
  exact this
 have hcm:c∈cs:=Z9 hc
 have hrest:cs.drop (p+1)=aB:=by
  rw[<-U4,hp]
  rfl
 refine bh ?_
 unfold gz
 refine gB (gP (ds:=[]) (bB af rfl)) ?_
 generalize hCS:Θ (cs.map cuD)=CS at *
 have c1:dB (d2 oLt (d2 bf (ac 2) (dC (.int 1))) (dCB dM (ae (ac 1) ak))) [.vl (stD s),.vl CS,.vl (.int (p:Int)),.vl (.int n),.ow [],.un,.un]=M.ret (decide ((p:Int)+1<((cs.length:Nat):Int))):=bi (ag (ag `on aj bD) (bS (ad `on af) hln) oF)
 obtain⟨A,hA,hord⟩:∃A:List D,(A=if aB=[] then [] else [mk (2*n+1) (2*(n+1)+1) 0 .none (wh2 "order" n (n+1))])/\gIf (dB (d2 oLt (d2 bf (ac 2) (dC (.int 1))) (dCB dM (ae (ac 1) ak)))) (ki 4 (bM (ae (aG (λds=>noX (aT ds)) (ae (ac 3) ak)) (ae (aG (λds=>noX (aT ds)) (ae (d2 bf (ac 3) (dC (.int 1))) ak)) (ae `DY (ae (dC .none) (ae (bM (ae (dC (.str "order")) (ae (ac 3) (ae (d2 bf (ac 3) (dC (.int 1))) ak)))) ak))))))) cP [.vl (stD s),.vl CS,.vl (.int (p:Int)),.vl (.int n),.ow [],.un,.un]=M.ret (.nx [.vl (stD s),.vl CS,.vl (.int (p:Int)),.vl (.int n),.ow A,.un,.un]):=by
  by_cases hr:aB=[]
  ·refine⟨[],by rw[if_pos hr],tY c1 (decide_eq_false (by rw[hlen,hr];simp))⟩
  ·have:0<aB.length:=List.length_pos_iff.mpr hr
   refine⟨[mk (2*n+1) (2*(n+1)+1) 0 .none (wh2 "order" n (n+1))],by rw[if_neg hr],hV c1 (fM (decide_eq_true `am) (kT (ds:=[]) (d:=mk (2*n+1) (2*(n+1)+1) 0 .none (wh2 "order" n (n+1))) rfl (bR (ds:=[.int (2*n+1),.int (2*(n+1)+1),.int 0,.none,wh2 "order" n (n+1)]) (ad (aO (ad `on af) (qA n)) (ad (aO (ad (ag `on aj bD) af) (qA (n+1))) (ad aj (ad aj (ad (bR (ad aj (ad `on (ad (ag `on aj bD) af))) rfl) af))))) rfl) rfl))⟩
 refine gB hord ?_
 have main:∀(q:List Cu) (w:Nat) (x5 x6:Sl),cs.drop (p+w)=q->∃y5 y6,iB (cr (tgN 5) (gIf (dB (d2 oEq (d2 oIx (d2 oIx (ac 1) (d2 bf (ac 2) (ac 5))) (dC (.int 2))) (d2 oIx (d2 oIx (ac 1) (ac 2)) (dC (.int 2))))) (aH (bq (d2 bf (ac 3) (ac 5)) (tgN 6))
  (aH (ki 4 (bM (ae (aG (λds=>noX (bP ds)) (ae (ac 3) ak)) (ae (aG (λds=>noX (aT ds)) (ae (ac 6) ak)) (ae (d2 bE (ac 0) (dC (.str "apart"))) (ae (dC .none) (ae (bM (ae (dC (.str "apart")) (ae (ac 3) (ae (ac 6) ak)))) ak)))))))
  o3)) cP)) (bF (w:Int) q.length) [.vl (stD s),.vl CS,.vl (.int (p:Int)),.vl (.int n),.ow A,x5,x6]=M.ret (.nx [.vl (stD s),.vl CS,.vl (.int (p:Int)),.vl (.int n),.ow (A++(match nxt c.h w q with | some w=>[mk (2*n+2) (2*(n+(w:Int))+1) s.apart .none (wh2 "apart" n (n+(w:Int)))] | none=>[])),y5,y6]):=by
  intro q
  induction q with
  | nil=>intro w x5 x6 _;exact⟨x5,x6,by rw[nxt,Z3];rfl⟩
  | cons c' q ih =>
   intro w x5 x6 hq
   have hc':cs[p+w]?=some c':=by
    have:=congrArg List.head? hq
    rw[List.head?_drop] at this
    exact this
   have hm':c'∈cs:=Z9 hc'
   have hq':cs.drop (p+(w+1))=q:=by
    rw[<-Nat.add_assoc,<-U4,hq]
    rfl
   rw[Φ,wZ,nxt]
   have i1:oIx CS (.int ((p:Int)+(w:Int)))=some (cuD c'):=by
    rw[<-hCS,show(p:Int)+(w:Int)=((p+w:Nat):Int) by omega]
    exact vX hc'
   have i2:oIx CS (.int (p:Int))=some (cuD c):=by rw[<-hCS];exact vX hc
   have cd:dB (d2 oEq (d2 oIx (d2 oIx (ac 1) (d2 bf (ac 2) (ac 5))) (dC (.int 2))) (d2 oIx (d2 oIx (ac 1) (ac 2)) (dC (.int 2)))) [.vl (stD s),.vl CS,.vl (.int (p:Int)),.vl (.int n),.ow A,.vl (.int (w:Int)),x6]=M.ret (decide (c'.h=c.h)):=bi (ag (x:=.str c'.h) (y:=.str c.h) (ag (ag `on (ag `on `on bD) i1) aj rfl) (ag (ag `on `on i2) aj rfl) (o_eqH (hok c' hm') (hok c hcm)))
   by_cases hh:c'.h=c.h
   ·rw[if_pos hh]
    rw[decide_eq_true hh] at cd
    refine⟨.vl (.int (w:Int)),.vl (.int (n+(w:Int))),?_⟩
    have hA2:A.length<=1:=by rw[hA];split<;>simp
    have bd:cr (tgN 5) (gIf (dB (d2 oEq (d2 oIx (d2 oIx (ac 1) (d2 bf (ac 2) (ac 5))) (dC (.int 2))) (d2 oIx (d2 oIx (ac 1) (ac 2)) (dC (.int 2))))) (aH (bq (d2 bf (ac 3) (ac 5)) (tgN 6))
  (aH (ki 4 (bM (ae (aG (λds=>noX (bP ds)) (ae (ac 3) ak)) (ae (aG (λds=>noX (aT ds)) (ae (ac 6) ak)) (ae (d2 bE (ac 0) (dC (.str "apart"))) (ae (dC .none) (ae (bM (ae (dC (.str "apart")) (ae (ac 3) (ae (ac 6) ak)))) ak)))))))
  o3)) cP) (.int (w:Int)) [.vl (stD s),.vl CS,.vl (.int (p:Int)),.vl (.int n),.ow A,x5,x6]=M.ret (.bk [.vl (stD s),.vl CS,.vl (.int (p:Int)),.vl (.int n),.ow (A++[mk (2*n+2) (2*(n+(w:Int))+1) s.apart .none (wh2 "apart" n (n+(w:Int)))]),.vl (.int (w:Int)),.vl (.int (n+(w:Int)))]):=by
     refine i7 (δ':=[.vl (stD s),.vl CS,.vl (.int (p:Int)),.vl (.int n),.ow A,.vl (.int (w:Int)),x6]) rfl (hV cd (fM rfl ?_))
     refine ax (aN (d:=.int (n+(w:Int))) (ag `on `on bD)) ?_
     exact ax (kT (ds:=A) (d:=mk (2*n+2) (2*(n+(w:Int))+1) s.apart .none (wh2 "apart" n (n+(w:Int)))) rfl (bR (ad (aO (ad `on af) (AW n)) (ad (aO (ad `on af) (qA (n+(w:Int)))) (ad (ag `on aj (rK s)) (ad aj (ad (bR (ad aj (ad `on (ad `on af))) rfl) af))))) rfl) (aF `am)) rfl
    show(cr _ _ _ _).thn _=_
    rw[bd]
    rfl
   ·rw[if_neg hh]
    rw[decide_eq_false hh] at cd
    obtain⟨y5,y6,hI⟩:=ih (w+1) (.vl (.int (w:Int))) x6 hq'
    exact⟨y5,y6,cm (i7 (δ':=[.vl (stD s),.vl CS,.vl (.int (p:Int)),.vl (.int n),.ow A,.vl (.int (w:Int)),x6]) rfl (tY cd rfl)) hI⟩
 obtain⟨y5,y6,hf⟩:=main aB 1 .un .un hrest
 have hr:w6 [.int 1,.int (((cs.length:Nat):Int)-(p:Int))]=some (bF ((1:Nat):Int) aB.length):=by
  show(if (b62 1&&b62 (((cs.length:Nat):Int)-(p:Int)))=true then some (bF 1 ((((cs.length:Nat):Int)-(p:Int))-1).toNat) else none)=_
  rw[if_pos (by unfold b62;simp;omega)]
  congr 2
  omega
 refine gB (e9 (gN (ad aj (ad (ag (bS (ad `on af) hln) `on iw) af)) hr) hf) ?_
 have hfl:aD (cB s c aB n)=true:=by
  unfold cB
  split<;>(cases nxt c.h 1 aB<;>rfl)
 unfold cB at hfl ⊢
 rw[<-hA] at hfl ⊢
 exact wm rfl hfl
theorem ve(s:Set7)(c:Cu)(aB:List Cu)(n:Int):(cB s c aB n).length<=2/\aD (cB s c aB n)=true:=by
 unfold cB
 constructor
 ·split<;>(cases nxt c.h 1 aB<;>simp)
 ·split<;>(cases nxt c.h 1 aB<;>rfl)
theorem qx(shy b e n:Int):∀(ts:List Int) (k:Nat),(lX shy b e n k ts).length<=2*ts.length
 | [],_=>Y5 _
 | t::ts,k=>by
  have:=qx shy b e n ts (k+1)
  have:=t7 shy b e n k t
  rw[lX,η,Φ]
  omega
theorem yJ(s:Set7){cs:List Cu}(hok:∀c∈cs,DM c/\hOk c)(n:Int)(ts:List Int)(hl:cs.length<=100)(ht:ts.length<=100):dN [stD s,.list (cs.map cuD),.list (ts.map ζ),.int n]=M.ret (.list (iQ s ts n cs)):=by
 refine bh ?_
 unfold kR
 refine ax (gP (ds:=[]) (bB af rfl)) ?_
 have main:∀(q:List Cu) (p:Nat) (acc:List D) (x5 x6 x7 x8 x9:Sl),cs.drop p=q->acc.length<=300*p->p<=cs.length->∃y5 y6 y7 y8 y9,iB (cr (dk 2 (aR (tgN 5) (aR (tgN 6) dm))) (aH (bq (d2 bf (ac 3) (ac 5)) (tgN 7))
  (aH (lL 4 (nF (aG (λds=>noX (dr ds)) (ae (ac 0) (ae (ac 6) (ae (ac 7) ak))))))
  (aH (lL 4 (nF (aG (λds=>noX (jU ds)) (ae (ac 0) (ae (ac 6) (ae (ac 7) ak))))))
  (aH (lL 4 (nF (aG (λds=>noX (cX ds)) (ae (ac 0) (ae (ac 1) (ae (ac 5) (ae (ac 7) ak)))))))
  (fN (jm (ae (ac 2) ak)) (dk 2 (aR (tgN 8) (aR (tgN 9) dm))) (lL 4 (nF (aG (λds=>noX (cv ds)) (ae (d2 bE (ac 0) (dC (.str "shy"))) (ae (ac 6) (ae (ac 7) (ae (ac 8) (ae (ac 9) ak)))))))))))))) (bH p (q.map cuD)) [.vl (stD s),.vl (.list (cs.map cuD)),.vl (.list (ts.map ζ)),.vl (.int n),.ow acc,x5,x6,x7,x8,x9]=M.ret (.nx [.vl (stD s),.vl (.list (cs.map cuD)),.vl (.list (ts.map ζ)),.vl (.int n),.ow (acc++iQ s ts (n+(p:Int)) q),y5,y6,y7,y8,y9]):=by
  intro q
  induction q with
  | nil=>intro p acc x5 x6 x7 x8 x9 _ _ _;exact⟨x5,x6,x7,x8,x9,by rw[iQ,Z3];rfl⟩
  | cons c q ih =>
   intro p acc x5 x6 x7 x8 x9 hq hacc hp
   have hlen:cs.length=p+(q.length+1):=by
    have h1:=congrArg V5 hq
    grind
   have hcm:c∈cs:=List.mem_of_mem_drop (by rw[hq];simp)
   have hq':cs.drop (p+1)=q:=by rw[<-U4,hq];rfl
   obtain⟨b1,b2⟩:=ve s c q (n+(p:Int))
   have b3:=qx s.shy c.b c.e (n+(p:Int)) ts 0
   have hbh:=ya s (λc hc=>(hok c hc).2) hq `am (n+(p:Int))
   have hal:=Bd s (hok c hcm).1 (n+(p:Int))
   have hwi:=Bk s c (n+(p:Int))
   have la:(ic s c (n+(p:Int))).length=3:=rfl
   have lw:(kq s c (n+(p:Int))).length=4:=rfl
   have fa:aD (ic s c (n+(p:Int)))=true:=rfl
   have fw:aD (kq s c (n+(p:Int)))=true:=rfl
   obtain⟨y8,y9,hf⟩:=DH s c (n+(p:Int)) (.list (cs.map cuD)) (.list (ts.map ζ)) (.int n) (.int (p:Int)) ts 0 (((acc++ic s c (n+(p:Int)))++kq s c (n+(p:Int)))++cB s c q (n+(p:Int))) x8 x9 (by grind)
   obtain⟨z5,z6,z7,z8,z9,hI⟩:=ih (p+1) ((((acc++ic s c (n+(p:Int)))++kq s c (n+(p:Int)))++cB s c q (n+(p:Int)))++lX s.shy c.b c.e (n+(p:Int)) 0 ts) (.vl (.int (p:Int))) (.vl (cuD c)) (.vl (.int (n+(p:Int)))) y8 y9 hq' (by grind) `am
   refine⟨z5,z6,z7,z8,z9,?_⟩
   rw[show n+((p+1:Nat):Int)=n+(p:Int)+1 by omega] at hI
   have ea:acc++iQ s ts (n+(p:Int)) (c::q)=(((acc++ic s c (n+(p:Int)))++kq s c (n+(p:Int)))++cB s c q (n+(p:Int)))++lX s.shy c.b c.e (n+(p:Int)) 0 ts++iQ s ts (n+(p:Int)+1) q:=by
    rw[iQ]
    simp
   rw[ea]
   refine cm (i7 (δ':=[.vl (stD s),.vl (.list (cs.map cuD)),.vl (.list (ts.map ζ)),.vl (.int n),.ow acc,.vl (.int (p:Int)),.vl (cuD c),x7,x8,x9]) rfl ?_) hI
   generalize ic s c (n+(p:Int))=AL at *
   generalize kq s c (n+(p:Int))=WI at *
   generalize cB s c q (n+(p:Int))=BE at *
   refine ax (aN (d:=.int (n+(p:Int))) (ag `on `on bD)) ?_
   refine ax (rM (ds:=acc) (es:=AL) rfl (wp (aO (ad `on (ad `on (ad `on af))) hal) fa) (aF `am)) ?_
   refine ax (rM (ds:=acc++AL) (es:=WI) rfl (wp (aO (ad `on (ad `on (ad `on af))) hwi) fw) (aF (by grind))) ?_
   refine ax (rM (ds:=acc++AL++WI) (es:=BE) rfl (wp (aO (ad `on (ad `on (ad `on (ad `on af)))) hbh) b2) (aF (by grind))) ?_
   assumption
 obtain⟨y5,y6,y7,y8,y9,hf⟩:=main cs 0 [] .un .un .un .un .un rfl (Y5 _) (Y5 _)
 rw[List.nil_append,show n+((0:Nat):Int)=n from U8 n] at hf
 exact ax (e9 (iC (ad `on af)) hf) rfl
end CT
namespace K55
noncomputable def jH:DS->M Out:=(aH (gIf (dB (d2 oLt (ac 1) (dCB dM (ae (ac 0) ak)))) (ck (d2 oIx (ac 0) (ac 1))) cP)
  (ck `DY))
noncomputable def bT:List D->M D:=run 2 jH
noncomputable def lG:DS->M Out:=(ck (Bb (dIs "int" (ac 0)) (Ba (dIs "bool" (ac 0)))))
noncomputable def c8:List D->M D:=run 1 lG
noncomputable def eV:DS->M Out:=(aH (bq (d2 eP (d2 gH (d2 bf (d2 bf (ac 3) (ac 4)) (dC (.int 1))) (dC (.int 48271))) (dC (.int 2147483647))) (tgN 3))
  (ki 2 (ac 3)))
noncomputable def jG:DS->M Out:=(aH (jk 2 (cj ak))
  (aH (bq (d2 eP (ac 0) (dC (.int 2147483647))) (tgN 3))
  (aH (fN (jo fJ (ae (ac 1) ak)) (tgN 4) eV)
  (mS 2))))
noncomputable def cY:List D->M D:=run 5 jG
noncomputable def ji:DS->M Out:=(aH (bq (aG (λds=>noX (cY ds)) (ae (ac 0) (ae (dC (.int 8)) ak))) (tgN 1))
  (aH (tU 2 (sU (dC (.str "sign")) (d2 oIx (kW (ae `DY (ae (d2 eP (d2 oIx (ac 1) `DY) (dC (.int 61))) ak))) (d2 eP (d2 oIx (ac 1) (dC (.int 7))) (dC (.int 2)))) (sU (dC (.str "least")) (d2 bf (dC (.int 1)) (d2 oIx (kW (ae `DY (ae (d2 eP (d2 oIx (ac 1) (dC (.int 1))) (dC (.int 300))) ak))) (d2 eP (d2 oI (d2 oIx (ac 1) (dC (.int 7))) (dC (.int 2))) (dC (.int 2))))) pNil)))
  (aH (bq (dCB m8 (ae (lV 2 (dC (.str "least"))) (ae (d2 gH (dC (.int 15)) (lV 2 (dC (.str "sign")))) ak))) (tgN 3))
  (aH (jP 2 (dC (.str "most")) (d2 bf (ac 3) (d2 oIx (kW (ae `DY (ae (d2 eP (d2 oIx (ac 1) (dC (.int 2))) (dC (.int 100))) (ae (d2 xn (dC (.int 10)) (dC (.int 6))) ak)))) (d2 eP (d2 oI (d2 oIx (ac 1) (dC (.int 7))) (dC (.int 4))) (dC (.int 3))))))
  (aH (jP 2 (dC (.str "apart")) (d2 oIx (kW (ae `DY (ae (d2 eP (d2 oIx (ac 1) (dC (.int 3))) (dC (.int 91))) ak))) (d2 eP (d2 oI (d2 oIx (ac 1) (dC (.int 7))) (dC (.int 12))) (dC (.int 2)))))
  (aH (jP 2 (dC (.str "shy")) (d2 bf (dC (.int 1)) (d2 eP (d2 oIx (ac 1) (dC (.int 4))) (dC (.int 200)))))
  (aH (jP 2 (dC (.str "begin")) (d2 eP (d2 oIx (ac 1) (dC (.int 5))) (dC (.int 4))))
  (aH (jP 2 (dC (.str "end")) (d2 eP (d2 oIx (ac 1) (dC (.int 6))) (dC (.int 4))))
  (v8 2)))))))))
noncomputable def dG:List D->M D:=run 4 ji
noncomputable def fx:DS->M Out:=(aH (bq (aG (λds=>noX (cY ds)) (ae (ac 4) (ae (dC (.int 4)) ak))) (tgN 5))
  (aH (bq (d2 bf (ac 3) (d2 oIx (kW (ae `DY (ae (d2 eP (d2 oIx (ac 5) `DY) (dC (.int 100))) (ae (d2 eP (d2 oIx (ac 5) `DY) (dC (.int 9000))) (ae (d2 eP (d2 oIx (ac 5) `DY) (d2 xn (dC (.int 10)) (dC (.int 8)))) ak))))) (d2 eP (d2 oIx (ac 5) (dC (.int 1))) (dC (.int 4))))) (tgN 3))
  (aH (bq (d2 oIx (kW (ae (dC (.str "ab")) (ae (dC (.str "ab cd,")) (ae (dC (.str "efgh. ij ~")) (ae (dC (.str "a b c d e f g h")) ak))))) (d2 eP (d2 oIx (ac 5) (dC (.int 3))) (dC (.int 4)))) (tgN 6))
  (aH (bq (dCB m8 (ae (d2 bE (ac 0) (dC (.str "least"))) (ae (d2 gH (d2 bE (ac 0) (dC (.str "sign"))) (dCB dM (ae (ac 6) ak))) ak))) (tgN 7))
  (aH (bq (d2 bf (ac 3) (d2 oIx (kW (ae (ac 7) (ae (d2 bf (dC (.int 1)) (d2 eP (d2 oIx (ac 5) (dC (.int 2))) (dC (.int 300)))) (ae (d2 bf (ac 7) (d2 eP (d2 oIx (ac 5) (dC (.int 2))) (dC (.int 4)))) (ae (d2 bf (dC (.int 1)) (d2 eP (d2 oIx (ac 5) (dC (.int 2))) (dC (.int 8000)))) ak))))) (d2 eP (d2 oI (d2 oIx (ac 5) (dC (.int 1))) (dC (.int 4))) (dC (.int 4))))) (tgN 8))
  (ki 2 (bM (ae (ac 3) (ae (ac 8) (ae (d2 oIx (kW (ae (dC (.str "ann")) (ae (dC (.str "bob")) (ae (dC (.str "anna")) ak)))) (d2 eP (d2 oI (d2 oIx (ac 5) (dC (.int 1))) (dC (.int 16))) (dC (.int 3)))) (ae (ac 6) ak)))))))))))
noncomputable def mP:DS->M Out:=(aH (jk 2 (cj ak))
  (aH (bq `DY (tgN 3))
  (aH (fN (iF (ac 1)) (tgN 4) fx)
  (mS 2))))
noncomputable def gV:List D->M D:=run 9 mP
noncomputable def er:DS->M Out:=(gIf (dB (d2 oEq (d2 oIx (d2 oIx (ac 1) (ac 6)) (dC (.int 2))) (d2 oIx (ac 4) (dC (.int 2))))) (bq (pd 2 (dCB m8 (ae (ac 5) (ae (d2 bf (d2 oIx (d2 oIx (ac 2) (ac 6)) (dC (.int 1))) (d2 bE (ac 0) (dC (.str "apart")))) ak)))) (tgN 5)) cP)
noncomputable def eo:DS->M Out:=(aH (bq (d2 oIx (ac 4) `DY) (tgN 5))
  (aH (gIf (dB (d2 oGt (ac 3) `DY)) (bq (pd 2 (dCB m8 (ae (ac 5) (ae (d2 oIx (d2 oIx (ac 2) (d2 gY (ac 3) (dC (.int 1)))) `DY) ak)))) (tgN 5)) cP)
  (aH (fN (jo fJ (ae (ac 3) ak)) (tgN 6) er)
  (aH (bq (dCB m8 (ae (d2 bE (ac 0) (dC (.str "least"))) (ae (d2 gH (d2 bE (ac 0) (dC (.str "sign"))) (dCB dM (ae (d2 oIx (ac 4) (dC (.int 3))) ak))) ak))) (tgN 7))
  (ki 2 (bM (ae (ac 5) (ae (dCB xo (ae (dCB m8 (ae (d2 oIx (ac 4) (dC (.int 1))) (ae (d2 bf (ac 5) (ac 7)) ak))) (ae (d2 bf (ac 5) (d2 bE (ac 0) (dC (.str "most")))) ak))) ak))))))))
noncomputable def lJ:DS->M Out:=(aH (jk 2 (cj ak))
  (aH (fN (jm (ae (ac 1) ak)) (dk 2 (aR (tgN 3) (aR (tgN 4) dm))) eo)
  (mS 2)))
noncomputable def gg:List D->M D:=run 8 lJ
noncomputable def el:DS->M Out:=(aH (bq (d2 bf (ac 3) (d2 gH (d2 bE (ac 0) (dC (.str "begin"))) (dCB rf (ae (d2 gY (d2 oIx (d2 oIx (ac 2) (ac 4)) `DY) (d2 oIx (ac 5) `DY)) ak)))) (tgN 3))
  (bq (d2 bf (ac 3) (d2 gH (d2 bE (ac 0) (dC (.str "end"))) (dCB rf (ae (d2 gY (d2 oIx (d2 oIx (ac 2) (ac 4)) (dC (.int 1))) (d2 oIx (ac 5) (dC (.int 1)))) ak)))) (tgN 3)))
noncomputable def lI:DS->M Out:=(aH (bq `DY (tgN 3))
  (aH (fN (jm (ae (ac 1) ak)) (dk 2 (aR (tgN 4) (aR (tgN 5) dm))) el)
  (ck (ac 3))))
noncomputable def eG:List D->M D:=run 6 lI
noncomputable def eh:DS->M Out:=(aH (gIf (dOr (nj (dB (dIs "tuple" (ac 6)))) (dOr (dB (d2 oNe (dCB dM (ae (ac 6) ak)) (dC (.int 4)))) (dB (d2 oNe (lW (ac 6) (kG (dC (.int 2))) jc) (lW (d2 oIx (ac 1) (ac 5)) (kG (dC (.int 2))) jc))))) (ck (dC (.bool false))) cP)
  (aH (bq (ac 6) (dk 4 (aR (tgN 7) (aR (tgN 8) (aR (tgN 9) (aR (tgN 10) dm))))))
  (aH (gIf (dOr (nj (dB (aG (λds=>noX (c8 ds)) (ae (ac 7) ak)))) (dOr (nj (dB (aG (λds=>noX (c8 ds)) (ae (ac 8) ak)))) (dOr (dB (d2 oLt (ac 7) (ac 4))) (dB (d2 oGt (d2 gY (ac 8) (ac 7)) (d2 bE (ac 0) (dC (.str "most")))))))) (ck (dC (.bool false))) cP)
  (aH (gIf (dOr (dB (d2 oLt (d2 gY (ac 8) (ac 7)) (d2 bE (ac 0) (dC (.str "least"))))) (dB (d2 oLt (d2 gY (ac 8) (ac 7)) (d2 gH (d2 bE (ac 0) (dC (.str "sign"))) (dCB dM (ae (ac 10) ak)))))) (ck (dC (.bool false))) cP)
  (aH (gIf (jT (dB (t6 3 (ac 9))) (dB (d2 oLt (ac 7) (d2 bf (lV 3 (ac 9)) (d2 bE (ac 0) (dC (.str "apart"))))))) (ck (dC (.bool false))) cP)
  (aH (jP 3 (ac 9) (ac 8))
  (bq (ac 7) (tgN 4))))))))
noncomputable def lH:DS->M Out:=(aH (gIf (dOr (nj (dB (dIs "list" (ac 2)))) (dB (d2 oNe (dCB dM (ae (ac 2) ak)) (dCB dM (ae (ac 1) ak))))) (ck (dC (.bool false))) cP)
  (aH (v9 3)
  (aH (bq `DY (tgN 4))
  (aH (fN (jm (ae (ac 2) ak)) (dk 2 (aR (tgN 5) (aR (tgN 6) dm))) eh)
  (ck (dC (.bool true)))))))
noncomputable def gf:List D->M D:=run 11 lH
noncomputable def Ay:DS->M Out:=(aH (bq (aG (λds=>noX (dG ds)) (ae (aG (λds=>noX (bT ds)) (ae (ac 0) (ae `DY ak))) ak)) (tgN 1))
  (aH (bq (aG (λds=>noX (gV ds)) (ae (ac 1) (ae (lW (ac 0) (kG (dC (.int 1))) (kG (d2 bf (dC (.int 5)) (d2 gH (dC (.int 6)) (d2 oI (d2 eP (aG (λds=>noX (bT ds)) (ae (ac 0) (ae `DY ak))) (dC (.int 4))) (dC (.int 3))))))) ak))) (tgN 2))
  (aH (bq (kW (ae (dCB lu (ae (ac 1) ak)) (ae (dCB lr (ae (ac 2) ak)) ak))) (tgN 3))
  (aH (bq (aG (λds=>noX (ge ds)) (ae (d2 oIx (ac 3) `DY) (ae (d2 oIx (ac 3) (dC (.int 1))) (ae (kW ak) ak)))) (tgN 4))
  (aH (gIf (dOr (dB (d2 sX (ac 3) (kW (ae (ac 1) (ae (ac 2) ak))))) (nj (dB (aG (λds=>noX (gf ds)) (ae (ac 1) (ae (ac 2) (ae (ac 4) ak))))))) (ck (dC (.bool false))) cP)
  (ck (d2 mr (aG (λds=>noX (eG ds)) (ae (ac 1) (ae (ac 2) (ae (ac 4) ak)))) (aG (λds=>noX (eG ds)) (ae (ac 1) (ae (ac 2) (ae (aG (λds=>noX (gg ds)) (ae (ac 1) (ae (ac 2) ak))) ak)))))))))))
noncomputable def wO:List D->M D:=run 5 Ay
theorem vc(ns:List Int)(k:Int)(k0:0<=k):∃c,bT [.list (ns.map ζ),.int k]=M.ret (.int c):=by
 by_cases h:k.toNat<ns.length
 ·refine⟨ns[k.toNat],bh ?_⟩
  refine tX (bi (ag `on (bS (ad `on af) kN) (by rw[oF,ς,decide_eq_true `am]))) (fM rfl (Dt (bX (ag `on `on (oQ k0 ?_)))))
  simp
 ·refine⟨0,bh ?_⟩
  exact tX (bi (ag `on (bS (ad `on af) kN) (by rw[oF,ς,decide_eq_false `am]))) (gy rfl (Du (bX aj)))
theorem sZ(A B:Sl):∀(q i:Nat) (l:List Int) (m:Int) (x:Sl),l.length+q<=1000->∃(l':List Int) (m':Int) (y:Sl),l'.length=l.length+q/\((∀x∈l,0<=x/\x<2147483647)->∀x∈l',0<=x/\x<2147483647)/\iB (cr (tgN 4) eV) ((W4 i q).map λj:Nat=>ζ (j:Int)) [A,B,.ow (l.map ζ),.vl (.int m),x]=M.ret (.nx [A,B,.ow (l'.map ζ),.vl (.int m'),y])
 | 0,i,l,m,x,_=>⟨l,m,x,rfl,λh=>h,rfl⟩
 | q+1,i,l,m,x,hz=>by
  obtain⟨v,hv⟩:∃v:Int,v=(m+(i:Int)+1)*48271 % 2147483647:=⟨_,rfl⟩
  obtain⟨l',m',y,h1,h2,h3⟩:=sZ A B q (i+1) (l++[v]) v (.vl (.int (i:Int))) (by grind)
  refine⟨l',m',y,by grind,λh=>h2 λz hz=>?_,?_⟩
  ·grind
  ·rw[Z0] at h3
   refine cm (i7 rfl ?_) h3
   exact ax (aN (by rw[hv];exact ag (ag (ag (ag `on `on bD) aj bD) aj (lm (vg (by decide) (by decide)))) aj (cI (by decide)))) (kT rfl `on (aF (by grind)))
theorem oJ(c:Int)(n:Nat)(hn:n<=100):∃l:List Int,l.length=n/\(∀x∈l,0<=x/\x<2147483647)/\cY [.int c,.int (n:Int)]=M.ret (.list (l.map ζ)):=by
 have hr:fJ [.int (n:Int)]=some (bF 0 n):=by
  show(if b62 (n:Int)=true then some (bF 0 (n:Int).toNat) else none)=_
  rw[if_pos (by unfold b62;grind),W2]
 obtain⟨l,m,y,h1,h2,h3⟩:=sZ (.vl (.int c)) (.vl (.int (n:Int))) n 0 [] (c % 2147483647) .un (by grind)
 refine⟨l,by simp_all,h2 (λx hx=>nomatch hx),bh ?_⟩
 refine ax (gP (bB af rfl)) ?_
 refine ax (aN (ag `on aj (cI (by decide)))) ?_
 exact ax (e9 (gN (ad `on af) (by rw[hr,lh])) h3) rfl
end K55
namespace DL
theorem j6(h0:δ[i]?=some (.od es))(h1:f δ=M.ret d)(h2:fk δ=M.ret y)(h3:bG y=some k)(hc:(q0 i δ&&decide (es.length<1000000))=true)(he:putD es k d=es'):jP i fk f δ=M.ret (.nx (δ.set i (.od es'))):=by
 unfold jP
 rw[h0]
 dsimp only
 rw[h1,ay,h2,ay,h3]
 simp_all
theorem ev_pN:pNil δ=M.ret []:=rfl
theorem ev_pC(h1:f δ=M.ret y)(h2:g δ=M.ret d)(h3:fp δ=M.ret es)(h4:bG y=some k):sU f g fp δ=M.ret ((k,d)::es):=by
 unfold sU
 rw[h1,ay,h2,ay,h3,ay,h4]
theorem Dw(h:fp δ=M.ret es)(hc:(q0 i (δ.set i (.od []))&&decide (es.length<=15/\i<δ.length))=true)(he:kP [] es=es'):tU i fp δ=M.ret (.nx (δ.set i (.od es'))):=by
 unfold tU
 rw[h,ay,if_pos hc,he]
theorem AK{F:List D->M D}{fa:DS->M (List D)}{δ:DS}{ds:List D}{d:D}(h1:fa δ=M.ret ds)(h2:F (ds++[.int 0])=M.ret d):aG (λds=>noX (F (ds++[.int 0]))) fa δ=M.ret d:=by
 unfold aG
 rw[h1,ay,h2]
 rfl
end DL
namespace K55
theorem p2(a b:Int):kP [] [(.inr "sign",.int a),(.inr "least",.int b)]=[(.inr "sign",.int a),(.inr "least",.int b)]:=by rfl
theorem v1(a b:Int):ci [(.inr "sign",.int a),(.inr "least",.int b)] (.inr "sign")=some (.int a):=by rfl
theorem v2(a b:Int):ci [(.inr "sign",.int a),(.inr "least",.int b)] (.inr "least")=some (.int b):=by rfl
theorem q3(a b v:Int):putD [(.inr "sign",.int a),(.inr "least",.int b)] (.inr "most") (.int v)=[(.inr "sign",.int a),(.inr "least",.int b),(.inr "most",.int v)]:=by rfl
theorem q4(a b c v:Int):putD [(.inr "sign",.int a),(.inr "least",.int b),(.inr "most",.int c)] (.inr "apart") (.int v)=[(.inr "sign",.int a),(.inr "least",.int b),(.inr "most",.int c),(.inr "apart",.int v)]:=by rfl
theorem q5(a b c d v:Int):putD [(.inr "sign",.int a),(.inr "least",.int b),(.inr "most",.int c),(.inr "apart",.int d)] (.inr "shy") (.int v)=[(.inr "sign",.int a),(.inr "least",.int b),(.inr "most",.int c),(.inr "apart",.int d),(.inr "shy",.int v)]:=by rfl
theorem q6(a b c d e v:Int):putD [(.inr "sign",.int a),(.inr "least",.int b),(.inr "most",.int c),(.inr "apart",.int d),(.inr "shy",.int e)] (.inr "begin") (.int v)=[(.inr "sign",.int a),(.inr "least",.int b),(.inr "most",.int c),(.inr "apart",.int d),(.inr "shy",.int e),(.inr "begin",.int v)]:=by rfl
theorem q7(a b c d e f v:Int):putD [(.inr "sign",.int a),(.inr "least",.int b),(.inr "most",.int c),(.inr "apart",.int d),(.inr "shy",.int e),(.inr "begin",.int f)] (.inr "end") (.int v)=[(.inr "sign",.int a),(.inr "least",.int b),(.inr "most",.int c),(.inr "apart",.int d),(.inr "shy",.int e),(.inr "begin",.int f),(.inr "end",.int v)]:=by rfl
theorem getD_bd{l:List Int}{n:Nat}(hl:l.length=n)(hb:∀x∈l,0<=x/\x<2147483647)(i:Nat):0<=l.getD i 0/\l.getD i 0<2147483647:=by
 rw[Y0]
 cases e:l[i]? with
 | none=>simp
 | some x=>exact hb x (Z9 e)
theorem sJ:∀{l:List Int} (i:Int),(∀x∈l,0<=x/\x<=B)->0<=B->0<=pk l i/\pk l i<=B:=λ{l} i h h0=>by
 unfold pk
 rw[Y0]
 cases e:l[i.toNat]? with
 | none=>simp_all
 | some x=>exact h x (Z9 e)
structure So(s:Set7):Prop where
 sg:0<=s.sign/\s.sign<=1000
 ls:0<=s.least
 mo:max s.least (15*s.sign)<=s.most
 ap:0<=s.apart
 bg:0<=s.beg/\s.beg<=99
 fn:0<=s.fin/\s.fin<=99
theorem sB(c:Int):∃s:Set7,So s/\dG [.int c]=M.ret (stD s):=by
 obtain⟨l,hl,hb,hn⟩:=oJ c 8 (by decide)
 obtain⟨sg,hsg⟩:∃sg:Int,sg=(pk [0,((l.getD 0 0) % 61)] ((l.getD 7 0) % 2)):=⟨_,rfl⟩
 obtain⟨le,hle⟩:∃le:Int,le=(1+(pk [0,((l.getD 1 0) % 300)] (((l.getD 7 0) / 2) % 2))):=⟨_,rfl⟩
 obtain⟨nd,hnd⟩:∃nd:Int,nd=max le (15*sg):=⟨_,rfl⟩
 obtain⟨mo,hmo⟩:∃mo:Int,mo=(nd+(pk [0,((l.getD 2 0) % 100),1000000] (((l.getD 7 0) / 4) % 3))):=⟨_,rfl⟩
 obtain⟨ap,hap⟩:∃ap:Int,ap=(pk [0,((l.getD 3 0) % 91)] (((l.getD 7 0) / 12) % 2)):=⟨_,rfl⟩
 have m3:∀{a b c B:Int},(0<=a/\a<=B)->(0<=b/\b<=B)->(0<=c/\c<=B)->∀x∈[a,b,c],0<=x/\x<=B:=λha hb hc x hx=>by
  grind
 have m2:∀{a b B:Int},(0<=a/\a<=B)->(0<=b/\b<=B)->∀x∈[a,b],0<=x/\x<=B:=λha hb x hx=>by
  simp only[ψ,X9,or_false] at hx
  omega
 have s1:0<=sg/\sg<=1000:=by rw[hsg];exact sJ _ (m2 `am `am) (by decide)
 have s2:0<=le:=by have:=sJ (B:=1000) (l.getD 7 0 / 2 % 2) (m2 (a:=0) (b:=l.getD 1 0 % 300) `am `am) (by decide);omega
 have s3:nd<=mo:=by have:=sJ (B:=1000000) (l.getD 7 0 / 4 % 3) (m3 (a:=0) (b:=l.getD 2 0 % 100) (c:=1000000) `am `am `am) (by decide);omega
 have s4:0<=ap:=by rw[hap];exact(sJ (B:=1000) _ (m2 `am `am) (by decide)).1
 refine⟨⟨sg,le,mo,ap,(1+((l.getD 4 0) % 200)),((l.getD 5 0) % 4),((l.getD 6 0) % 4)⟩,⟨s1,s2,by grind,s4,?_,?_⟩,bh ?_⟩
 ·grind
 ·grind
 ·obtain⟨A,hA⟩:∃A:D,Θ (l.map ζ)=A:=⟨_,rfl⟩
  refine ax (aN (d:=A) (by rw[<-hA];exact(aO (ad `on (ad aj af)) hn))) ?_
  refine ax (Dw (es':=[(.inr "sign",.int sg),(.inr "least",.int le)]) (ev_pC aj (by rw[hsg];exact(ag (gC (ad aj (ad (ag (ag `on aj (hA▸ba (i:=0) `am)) aj (cI `am)) af)) rfl) (ag (ag `on aj (hA▸ba (i:=7) `am)) aj (cI `am)) (oP `am `am))) (ev_pC aj (by rw[hle];exact(ag aj (ag (gC (ad aj (ad (ag (ag `on aj (hA▸ba (i:=1) `am)) aj (cI `am)) af)) rfl) (ag (ag (ag `on aj (hA▸ba (i:=7) `am)) aj (oG (je `am `am))) aj (cI `am)) (oP `am `am)) bD)) ev_pN (by rfl)) (by rfl)) (by rfl) (p2 _ _)) ?_
  refine ax (aN (d:=.int nd) (by rw[hnd];rfl)) ?_
  refine ax (j6 (by rfl) (d:=.int mo) (by rw[hmo];exact(ag `on (ag (gC (ad aj (ad (ag (ag `on aj (hA▸ba (i:=2) `am)) aj (cI `am)) (ad (ag aj aj o_pow6) af))) rfl) (ag (ag (ag `on aj (hA▸ba (i:=7) `am)) aj (oG (je `am `am))) aj (cI `am)) (Am `am `am)) bD)) aj (by rfl) (by rfl) (q3 _ _ _)) ?_
  refine ax (j6 (by rfl) (d:=.int ap) (by rw[hap];exact(ag (gC (ad aj (ad (ag (ag `on aj (hA▸ba (i:=3) `am)) aj (cI `am)) af)) rfl) (ag (ag (ag `on aj (hA▸ba (i:=7) `am)) aj (oG (je `am `am))) aj (cI `am)) (oP `am `am))) aj (by rfl) (by rfl) (q4 _ _ _ _)) ?_
  refine ax (j6 (by rfl) (ag aj (ag (ag `on aj (hA▸ba (i:=4) `am)) aj (cI `am)) bD) aj (by rfl) (by rfl) (q5 _ _ _ _ _)) ?_
  refine ax (j6 (by rfl) (ag (ag `on aj (hA▸ba (i:=5) `am)) aj (cI `am)) aj (by rfl) (by rfl) (q6 _ _ _ _ _ _)) ?_
  refine ax (j6 (by rfl) (ag (ag `on aj (hA▸ba (i:=6) `am)) aj (cI `am)) aj (by rfl) (by rfl) (q7 _ _ _ _ _ _ _)) ?_
  rfl
theorem wd(h0:0<=i)(h1:i<4):∃(w:Str) (L:Int),oIx (.list [.str "ab",.str "ab cd,",.str "efgh. ij ~",.str "a b c d e f g h"]) (.int i)=some (.str w)/\dM [.str w]=some (.int L)/\0<=L/\L<=15/\U3 w=true:=by
 have:i=0\/i=1\/i=2\/i=3:=by omega
 rcases this with rfl | rfl | rfl | rfl
 ·exact⟨"ab",2,rfl,by rfl,by decide,by decide,by decide +kernel⟩
 ·exact⟨"ab cd,",6,rfl,by rfl,by decide,by decide,by decide +kernel⟩
 ·exact⟨"efgh. ij ~",10,rfl,by rfl,by decide,by decide,by decide +kernel⟩
 ·exact⟨"a b c d e f g h",15,rfl,by rfl,by decide,by decide,by decide +kernel⟩
structure Ck(c:Cu):Prop where
 ok:DM c
 h:hOk c
 b:0<=c.b
 L:c.L<=15
 w:U3 c.w=true
theorem hand{i:Int}(h0:0<=i)(h1:i<3):∃h:Str,oIx (.list [.str "ann",.str "bob",.str "anna"]) (.int i)=some (.str h)/\U3 h=true:=by
 have:i=0\/i=1\/i=2:=by omega
 rcases this with rfl | rfl | rfl
 ·exact⟨"ann",rfl,by decide +kernel⟩
 ·exact⟨"bob",rfl,by decide +kernel⟩
 ·exact⟨"anna",rfl,by decide +kernel⟩
theorem xS(s:Set7)(NS:D)(acc:List D)(b m:Int)(hb0:0<=b)(x4 x5 x6 x7 x8:Sl)(hz:acc.length<=1000):∃(c:Cu) (b':Int) (y5 y6 y7 y8:Sl),Ck c/\0<=b'/\cr (tgN 4) fx (.int m) [.vl (stD s),.vl NS,.ow acc,.vl (.int b),x4,x5,x6,x7,x8]=M.ret (.nx [.vl (stD s),.vl NS,.ow (acc++[cuD c]),.vl (.int b'),.vl (.int m),y5,y6,y7,y8]):=by
 obtain⟨l,hl,hb,hn⟩:=oJ m 4 (by decide)
 obtain⟨w,L,h1,h3,h4,h5,h6⟩:=wd (i:=l.getD 3 0 % 4) `am `am
 obtain⟨h,hh,hok⟩:=hand (i:=(((l.getD 1 0) / 16) % 3)) `am `am
 obtain⟨b1,hb1⟩:∃b1,b1=(b+(pk [0,((l.getD 0 0) % 100),((l.getD 0 0) % 9000),((l.getD 0 0) % 100000000)] ((l.getD 1 0) % 4))):=⟨_,rfl⟩
 have hb1':0<=b1:=by
  have:=sJ (B:=2147483647) (l:=[0,l.getD 0 0 % 100,l.getD 0 0 % 9000,l.getD 0 0 % 100000000]) (l.getD 1 0 % 4) (λx hx=>by
   grind) (by decide)
  omega
 obtain⟨N,hN⟩:∃N,N=max s.least (s.sign*L):=⟨_,rfl⟩
 obtain⟨E,hE⟩:∃E,E=(b1+(pk [N,(1+((l.getD 2 0) % 300)),(N+((l.getD 2 0) % 4)),(1+((l.getD 2 0) % 8000))] (((l.getD 1 0) / 4) % 4))):=⟨_,rfl⟩
 refine⟨⟨b1,E,h,w,L⟩,b1,.vl (.list (l.map ζ)),.vl (.str w),.vl (.int N),.vl (.int E),⟨⟨h3,h4,by grind⟩,hok,hb1',h5,h6⟩,hb1',?_⟩
 refine ax (aN (aO (ad `on (ad aj af)) hn)) ?_
 generalize hA:Θ (l.map ζ)=A
 refine ax (aN (d:=.int b1) (by rw[hb1];exact(ag `on (ag (gC (ad aj (ad (ag (ag `on aj (hA▸ba (i:=0) `am)) aj (cI `am)) (ad (ag (ag `on aj (hA▸ba (i:=0) `am)) aj (cI `am)) (ad (ag (ag `on aj (hA▸ba (i:=0) `am)) (ag aj aj o_pow8) (cI `am)) af)))) rfl) (ag (ag `on aj (hA▸ba (i:=1) `am)) aj (cI `am)) (tP `am `am)) bD))) ?_
 refine ax (aN (ag (gC (ad aj (ad aj (ad aj (ad aj af)))) rfl) (ag (ag `on aj (hA▸ba (i:=3) `am)) aj (cI `am)) h1)) ?_
 refine ax (aN (d:=.int N) (by rw[hN];exact(bS (ad (ag `on aj (nI s)) (ad (ag (ag `on aj (rJ s)) (bS (ad `on af) h3) (lm (by first | exact kZ `am `am | exact vg `am `am))) af)) p8))) ?_
 refine ax (aN (d:=.int E) (by rw[hE];exact(ag `on (ag (gC (ad `on (ad (ag aj (ag (ag `on aj (hA▸ba (i:=2) `am)) aj (cI `am)) bD) (ad (ag `on (ag (ag `on aj (hA▸ba (i:=2) `am)) aj (cI `am)) bD) (ad (ag aj (ag (ag `on aj (hA▸ba (i:=2) `am)) aj (cI `am)) bD) af)))) rfl) (ag (ag (ag `on aj (hA▸ba (i:=1) `am)) aj (oG (je `am `am))) aj (cI `am)) (tP `am `am)) bD))) ?_
 exact kT rfl (bR (ad `on (ad `on (ad (ag (gC (ad aj (ad aj (ad aj af))) rfl) (ag (ag (ag `on aj (hA▸ba (i:=1) `am)) aj (oG (je `am `am))) aj (cI `am)) hh) (ad `on af)))) rfl) (aF `am)
theorem DK(s:Set7)(ns:List Int)(hl:ns.length<=100):∃cs:List Cu,cs.length=ns.length/\(∀c∈cs,Ck c)/\gV [stD s,.list (ns.map ζ)]=M.ret (.list (cs.map cuD)):=by
 obtain⟨NS,hNS⟩:∃NS:D,NS=.list (ns.map ζ):=⟨_,rfl⟩
 have main:∀(q:List Int) (acc:List Cu) (b:Int) (x4 x5 x6 x7 x8:Sl),0<=b->acc.length+q.length<=1000->∃(cs:List Cu) (b':Int) (y4 y5 y6 y7 y8:Sl),cs.length=q.length/\(∀c∈cs,Ck c)/\iB (cr (tgN 4) fx) (q.map ζ) [.vl (stD s),.vl NS,.ow (acc.map cuD),.vl (.int b),x4,x5,x6,x7,x8]=M.ret (.nx [.vl (stD s),.vl NS,.ow ((acc++cs).map cuD),.vl (.int b'),y4,y5,y6,y7,y8]):=by
  intro q
  induction q with
  | nil=>intro acc b x4 x5 x6 x7 x8 _ _;exact⟨[],b,x4,x5,x6,x7,x8,rfl,(λc h=>nomatch h),by rw[Z3];rfl⟩
  | cons m q ih =>
   intro acc b x4 x5 x6 x7 x8 hb hz
   rw[Φ] at hz
   obtain⟨c,b1,y5,y6,y7,y8,k1,k2,hs⟩:=xS s NS (acc.map cuD) b m hb x4 x5 x6 x7 x8 (by grind)
   obtain⟨cs,b',z4,z5,z6,z7,z8,i1,i2,hI⟩:=ih (acc++[c]) b1 (.vl (.int m)) y5 y6 y7 y8 k2 (by grind)
   refine⟨c::cs,b',z4,z5,z6,z7,z8,by simp_all,λe he=>?_,?_⟩
   ·grind
   ·rw[Z0] at hI
    rw[T7] at hI
    exact cm hs hI
 obtain⟨cs,b',y4,y5,y6,y7,y8,h1,h2,h3⟩:=main ns [] 0 .un .un .un .un .un (V0 0) (by grind)
 refine⟨cs,h1,h2,bh ?_⟩
 rw[<-hNS]
 refine ax (gP (bB af rfl)) ?_
 refine ax (aN aj) ?_
 exact ax (e9 (i8 `on (by rw[hNS];rfl)) h3) rfl
noncomputable def fL(s:Set7)(c:Cu)(k:Nat):List Rl:=[⟨0,2*k+1,0,none,wh1 "start" k⟩,⟨2*k+1,2*k+2,oK s c,none,wh1 "long" k⟩,⟨2*k+2,2*k+1,-s.most,none,wh1 "most" k⟩]
noncomputable def jq(s:Set7)(c:Cu)(k:Nat):List Rl:=[⟨0,2*k+1,c.b,some s.beg,wh1 "wish" k⟩,⟨2*k+1,0,-c.b,some s.beg,wh1 "wish" k⟩,⟨0,2*k+2,c.e,some s.fin,wh1 "wish" k⟩,⟨2*k+2,0,-c.e,some s.fin,wh1 "wish" k⟩]
noncomputable def dg(aB:List Cu)(k:Nat):List Rl:=if aB=[] then [] else [⟨2*k+1,2*(k+1)+1,0,none,wh2 "order" k (k+1)⟩]
noncomputable def dh(s:Set7)(c:Cu)(aB:List Cu)(k:Nat):List Rl:=match nxt c.h 1 aB with
 | some w=>[⟨2*k+2,2*(k+w)+1,s.apart,none,wh2 "apart" k (k+(w:Int))⟩]
 | none=>[]
noncomputable def cG(s:Set7):Nat->List Cu->List Rl
 | _,[]=>[]
 | k,c::aB=>fL s c k++jq s c k++(dg aB k++dh s c aB k)++cG s (k+1) aB
theorem cast1(k:Nat):((2*k+1:Nat):Int)=2*(k:Int)+1:=by omega
theorem cast2(k:Nat):((2*k+2:Nat):Int)=2*(k:Int)+2:=by omega
theorem pV(s:Set7):∀(cs:List Cu) (k:Nat),(cG s k cs).map rl=iQ s [] (k:Int) cs
 | [],_=>rfl
 | c::aB,k=>by
  have ih:=pV s aB (k+1)
  have e1:(fL s c k).map rl=ic s c k:=by
   rfl
  have e2:(jq s c k).map rl=kq s c k:=by
   rfl
  have e3:(dg aB k++dh s c aB k).map rl=cB s c aB k:=by
   unfold dg dh cB
   rw[Z0]
   congr 1
   ·by_cases h:aB=[]
    ·simp_all
    ·rw[if_neg h,if_neg h]
     rfl
   ·cases nxt c.h 1 aB with
    | none=>rfl
    | some w =>
     rfl
  show(fL s c k++jq s c k++(dg aB k++dh s c aB k)++cG s (k+1) aB).map rl=ic s c k++kq s c k++cB s c aB k++[]++iQ s [] ((k:Int)+1) aB
  grind
theorem zL{h:Str}:∀{aB:List Cu} {w n:Nat},nxt h n aB=some w->n<=w/\w<n+aB.length
 | [],w,n,e=>by cases e
 | c::aB,w,n,e=>by
  unfold nxt at e
  by_cases z:c.h=h
  ·simp_all
  ·rw[if_neg z] at e
   have:=zL e
   grind
theorem kL(s:Set7):∀(cs:List Cu) (k:Nat) (r:Rl),r∈cG s k cs->∃(j:Nat) (c:Cu),cs[j]?=some c/\(r∈fL s c (k+j)\/r∈jq s c (k+j)\/r∈dg (cs.drop (j+1)) (k+j)\/r∈dh s c (cs.drop (j+1)) (k+j))
 | [],_,r,h=>by cases h
 | c::aB,k,r,h=>by
  rcases Z7.mp h with h | h
  ·refine⟨0,c,rfl,?_⟩
   simp_all
  ·obtain⟨j,c',e,h⟩:=kL s aB (k+1) r h
   refine⟨j+1,c',e,?_⟩
   grind
theorem oq(s:Set7):∀(cs:List Cu) (k j:Nat) (c:Cu),cs[j]?=some c->∀r,r∈fL s c (k+j)\/r∈jq s c (k+j)\/r∈dg (cs.drop (j+1)) (k+j)\/r∈dh s c (cs.drop (j+1)) (k+j)->r∈cG s k cs
 | [],_,_,_,e,_,_=>by cases e
 | c0::aB,k,0,c,e,r,h=>by
  cases e
  show r∈fL s c0 k++jq s c0 k++(dg aB k++dh s c0 aB k)++cG s (k+1) aB
  grind
 | c0::aB,k,j+1,c,e,r,h=>by
  refine Y3 _ (oq s aB (k+1) j c e r ?_)
  grind
theorem oj(s:Set7):∀(cs:List Cu) (k:Nat),(cG s k cs).length<=9*cs.length
 | [],_=>ξ _
 | c::aB,k=>by
  have ih:=oj s aB (k+1)
  have h1:(dg aB k).length<=1:=by unfold dg;split<;>simp
  have h2:(dh s c aB k).length<=1:=by unfold dh;split<;>simp
  show(fL s c k++jq s c k++(dg aB k++dh s c aB k)++cG s (k+1) aB).length<=_
  rw[η,η,η,η,Φ]
  show 3+4+_+_<=_
  omega
theorem jX{s:Set7}(S:So s){cs:List Cu}{r:Rl}(h:r∈cG s 0 cs):(r.lo<2*cs.length+1/\r.hi<2*cs.length+1)/\(∀w,r.w=some w->0<=w/\w<=99)/\bA r.why=true:=by
 obtain⟨j,c,e,h⟩:=kL s cs 0 r h
 rw[W1] at h
 obtain⟨hj,_⟩:=ρ.mp e
 rcases h with h | h | h | h
 ·unfold fL at h
  simp only[ψ,X9,or_false] at h
  rcases h with rfl | rfl | rfl<;>exact⟨⟨by dsimp only;omega,by dsimp only;omega⟩,(λw z=>nomatch z),rfl⟩
 ·unfold jq at h
  simp only[ψ,X9,or_false] at h
  rcases h with rfl | rfl | rfl | rfl
  ·exact⟨⟨by dsimp only;omega,by dsimp only;omega⟩,(λw z=>by cases z;exact S.bg),rfl⟩
  ·exact⟨⟨by dsimp only;omega,by dsimp only;omega⟩,(λw z=>by cases z;exact S.bg),rfl⟩
  ·exact⟨⟨by dsimp only;omega,by dsimp only;omega⟩,(λw z=>by cases z;exact S.fn),rfl⟩
  ·exact⟨⟨by dsimp only;omega,by dsimp only;omega⟩,(λw z=>by cases z;exact S.fn),rfl⟩
 ·unfold dg at h
  split at h
  ·cases h
  ·rename_i hne
   have:(cs.drop (j+1)).length≠0:=λz=>hne (List.length_eq_zero_iff.mp z)
   rw[U5] at this
   rw[W6] at h
   subst h
   exact⟨⟨by dsimp only;omega,by dsimp only;omega⟩,(λw z=>nomatch z),rfl⟩
 ·unfold dh at h
  split at h
  ·rename_i w hw
   have:=zL hw
   rw[U5] at this
   rw[W6] at h
   subst h
   exact⟨⟨by dsimp only;omega,by dsimp only;omega⟩,(λw z=>nomatch z),rfl⟩
  ·cases h
structure Kp(s:Set7)(cs:List Cu)(t:Nat->Int):Prop where
 st:∀j c,cs[j]?=some c->t 0<=t (2*j+1)
 lg:∀j c,cs[j]?=some c->t (2*j+1)+oK s c<=t (2*j+2)
 mo:∀j c,cs[j]?=some c->t (2*j+2)<=t (2*j+1)+s.most
 od:∀j,j+1<cs.length->t (2*j+1)<=t (2*(j+1)+1)
 ap:∀j c w,cs[j]?=some c->nxt c.h 1 (cs.drop (j+1))=some w->t (2*j+2)+s.apart<=t (2*(j+w)+1)
theorem vV{s:Set7}{cs:List Cu}{t:Nat->Int}(h:Kp s cs t):m4 t (cG s 0 cs):=λr hr hn=>by
 obtain⟨j,c,e,hr⟩:=kL s cs 0 r hr
 rw[W1] at hr
 rcases hr with hr | hr | hr | hr
 ·unfold fL at hr
  simp only[ψ,X9,or_false] at hr
  rcases hr with rfl | rfl | rfl
  ·have:=h.st j c e;simp_all
  ·exact h.lg j c e
  ·have:=h.mo j c e;grind
 ·unfold jq at hr
  grind
 ·unfold dg at hr
  split at hr
  ·cases hr
  ·rename_i hne
   have:(cs.drop (j+1)).length≠0:=λz=>hne (List.length_eq_zero_iff.mp z)
   rw[U5] at this
   rw[W6] at hr
   subst hr
   have:=h.od j `am
   simp_all
 ·unfold dh at hr
  split at hr
  ·rename_i w hw
   rw[W6] at hr
   subst hr
   exact h.ap j c w e hw
  simp_all
theorem CY{s:Set7}{cs:List Cu}{t:Nat->Int}(h:m4 t (cG s 0 cs)):Kp s cs t:=by
 have g:=λj c e r hr hn=>h r (oq s cs 0 j c e r hr) hn
 simp only[W1] at g
 refine⟨λj c e=>?_,λj c e=>?_,λj c e=>?_,λj hj=>?_,λj c w e hw=>?_⟩
 ·have:=g j c e ⟨0,2*j+1,0,none,wh1 "start" j⟩ (.inl υ) rfl
  simp_all
 ·exact g j c e ⟨2*j+1,2*j+2,oK s c,none,wh1 "long" j⟩ (.inl (θ _ υ)) rfl
 ·have:=g j c e ⟨2*j+2,2*j+1,-s.most,none,wh1 "most" j⟩ (.inl (θ _ (θ _ υ))) rfl
  grind
 ·have hne:cs.drop (j+1)≠[]:=λz=>by
   have:=congrArg V5 z
   grind
  have:=g j cs[j] (Δ `am) ⟨2*j+1,2*(j+1)+1,0,none,wh2 "order" j (j+1)⟩ (.inr (.inr (.inl (by unfold dg;simp_all)))) rfl
  simp_all
 ·exact g j c e ⟨2*j+2,2*(j+w)+1,s.apart,none,wh2 "apart" j (j+(w:Int))⟩ (.inr (.inr (.inr (by unfold dh;simp_all)))) rfl
noncomputable def mv(s:Set7)(t:Nat->Int):Nat->List Cu->Int
 | _,[]=>0
 | k,c::aB=>(s.beg*TR.ab (t (2*k+1)-c.b)+s.fin*TR.ab (t (2*k+2)-c.e))+mv s t (k+1) aB
theorem pj{T:List Int}:∀{l:List Rl},(∀r∈l,r.w=none)->(l.map (cst T)).sum=0
 | [],_=>rfl
 | r::l,h=>by
  rw[ω,List.sum_cons,pj λq hq=>h q (θ _ hq),show cst T r=0 by unfold cst;rw[h r υ]]
  rfl
theorem vt(w a b:Int):w*max 0 (a-b)+w*max 0 (b-a)=w*TR.ab (b-a):=by
 rw[<-Int.mul_add]
 congr 1
 unfold TR.ab
 omega
theorem zS(s:Set7){T:List Int}(h0:T.getD 0 0=0):∀(cs:List Cu) (k:Nat),((cG s k cs).map (cst T)).sum=mv s (λv=>T.getD v 0) k cs
 | [],_=>rfl
 | c::aB,k=>by
  show((fL s c k++jq s c k++(dg aB k++dh s c aB k)++cG s (k+1) aB).map (cst T)).sum=_
  rw[Z0,Z0,Z0,List.sum_append,List.sum_append,List.sum_append,zS s h0 aB (k+1)]
  rw[pj (l:=fL s c k) λr hr=>by
   unfold fL at hr
   grind]
  rw[pj (l:=dg aB k++dh s c aB k) λr hr=>by
   rcases Z7.mp hr with hr | hr
   ·unfold dg at hr
    simp_all
   ·unfold dh at hr
    grind]
  have e:((jq s c k).map (cst T)).sum=s.beg*TR.ab (T.getD (2*k+1) 0-c.b)+s.fin*TR.ab (T.getD (2*k+2) 0-c.e):=by
   show s.beg*max 0 (c.b-T.getD (2*k+1) 0+T.getD 0 0)+(s.beg*max 0 (-c.b-T.getD 0 0+T.getD (2*k+1) 0)+(s.fin*max 0 (c.e-T.getD (2*k+2) 0+T.getD 0 0)+(s.fin*max 0 (-c.e-T.getD 0 0+T.getD (2*k+2) 0)+0)))=_
   rw[h0,<-vt,<-vt,U8,U8,Int.sub_zero,Int.sub_zero,U8,show -c.b+T.getD (2*k+1) 0=T.getD (2*k+1) 0-c.b by omega,show -c.e+T.getD (2*k+2) 0=T.getD (2*k+2) 0-c.e by omega]
   omega
  show _=(s.beg*TR.ab (T.getD (2*k+1) 0-c.b)+s.fin*TR.ab (T.getD (2*k+2) 0-c.e))+mv s (λv=>T.getD v 0) (k+1) aB
  omega
theorem lay_cu{c:Cu}(h:Ck c):(cuD c).canLay0=true/\(cuD c).depth<=5:=by
 have h1:=h.w
 have h2:U3 c.h=true:=h.h
 unfold cuD
 refine⟨?_,?_⟩
 ·simp [V1,V8,h1,h2]
 ·simp [PyData.depth,PyData.depthAll]
theorem eqv_cu(c:Cu):V4 (cuD c) (cuD c)=true:=by
 unfold cuD
 simp [V4,PyData.eqvAll]
theorem wz:∀cs:List Cu,PyData.eqvAll (cs.map cuD) (cs.map cuD)=true
 | []=>rfl
 | c::cs=>by
  rw[ω,PyData.eqvAll,eqv_cu,wz cs]
  rfl
theorem hit1(s:Set7)(k:Key)(i:Int)(h:ci (stE s) k=some (.int i)):tQ ((stE s).map λe=>(gw e.1,e.2)) k i=true:=by
 have hf:(((stE s).map λe=>(gw e.1,e.2)).find? λe=>decide (bG e.1=some k)).map (·.2)=ci (stE s) k:=by
  rw[List.find?_map,Option.map_map]
  have:((λe:D×D=>decide (bG e.1=some k))∘λe:Key×D=>(gw e.1,e.2))=λe:Key×D=>decide (e.1=k):=by
   funext e
   show decide (bG (gw e.1)=some k)=_
   rw[gv]
   simp
  rw[this]
  rfl
 unfold tQ
 grind
theorem Df(s:Set7):((stE s).map λe=>(gw e.1,e.2)).all (lA ((stE s).map λe=>(gw e.1,e.2)))=true:=by
 rw[U6]
 intro e he
 obtain⟨x,hx,rfl⟩:=V6.mp he
 have hv:∃i,x.2=.int i/\ci (stE s) x.1=some (.int i):=by
  unfold stE at hx
  simp only[ψ,X9,or_false] at hx
  rcases hx with rfl | rfl | rfl | rfl | rfl | rfl | rfl
  all_goals exact⟨_,rfl,by rfl⟩
 obtain⟨i,h1,h2⟩:=hv
 unfold lA
 show(match bG (gw x.1),x.2 with | some k,ζ i=>_ | _,_=>_)=true
 rw[gv,h1]
 exact hit1 s x.1 i h2
theorem BL(s:Set7){cs:List Cu}(h:∀c∈cs,Ck c):sX (.list [stD s,.list (cs.map cuD)]) (.list [stD s,.list (cs.map cuD)])=some (.bool false):=by
 obtain⟨h1,h2⟩:=tW (ds:=cs.map cuD) (λd hd=>by obtain⟨c,hc,rfl⟩:=V6.mp hd;exact lay_cu (h c hc))
 have hc:(Θ (cs.map cuD)).canLay0=true:=by exact h1
 have hd:(Θ (cs.map cuD)).depth<=60:=by unfold PyData.depth;omega
 have hf:k5 (Θ (cs.map cuD),Θ (cs.map cuD))=true:=by
  unfold k5 flat
  rw[hc,decide_eq_true (by omega:min (Θ (cs.map cuD)).depth (Θ (cs.map cuD)).depth<=60),V4,wz]
  rfl
 show(if (_/\_)/\_/\_ then some (PyData.bool false) else none)=_
 rw[if_pos ⟨⟨rfl,Df s⟩,rfl,by simp_all⟩]
theorem uI{s:Set7}(hs:So s){CS:D}{os:List D}{c:Cu}{k:Nat}{b e a:Int}{more:List D}(hk:os[k]?=some (.tuple (.int b::.int e::more)))(x4 x5:Sl) :
  cr (dk 2 (aR (tgN 4) (aR (tgN 5) dm))) el (.tuple [.int (k:Int),cuD c]) [.vl (stD s),.vl CS,.vl (.list os),.vl (.int a),x4,x5]
   = M.ret (.nx [.vl (stD s),.vl CS,.vl (.list os),.vl (.int (a+s.beg*TR.ab (b-c.b)+s.fin*TR.ab (e-c.e))),.vl (.int (k:Int)),.vl (cuD c)]):=by
 have g1:=g_beg s
 have g2:=g_fin s
 have hx:= L2.kg hk
 have c0:oIx (cuD c) (.int 0)=some (.int c.b):=rfl
 have c1:oIx (cuD c) (.int 1)=some (.int c.e):=rfl
 have o0:oIx (.tuple (.int b::.int e::more)) (.int 0)=some (.int b):=L2.kg rfl
 have o1:oIx (.tuple (.int b::.int e::more)) (.int 1)=some (.int e):=L2.kg rfl
 have m1:gH (.int s.beg) (.int (TR.ab (b-c.b)))=some (.int (s.beg*TR.ab (b-c.b))):=lm (kZ (by have:=hs.bg;omega) (by have:=hs.bg;omega))
 have m2:gH (.int s.fin) (.int (TR.ab (e-c.e)))=some (.int (s.fin*TR.ab (e-c.e))):=lm (kZ (by have:=hs.fn;omega) (by have:=hs.fn;omega))
 refine ax (aN (ag `on (ag (ag `on aj g1) (bS (ad (ag (ag (ag `on `on hx) aj o0) (ag `on aj c0) iw) af) (rc _)) m1) bD)) ?_
 exact aN (ag `on (ag (ag `on aj g2) (bS (ad (ag (ag (ag `on `on hx) aj o1) (ag `on aj c1) iw) af) (rc _)) m2) bD)
theorem tz{s:Set7}(hs:So s)(t:Nat->Int){cs:List Cu}{os:List D}(ho:∀k,k<cs.length->∃more,os[k]?=some (.tuple (.int (t (2*k+1))::.int (t (2*k+2))::more))) :
  eG [stD s,.list (cs.map cuD),.list os]=M.ret (.int (mv s t 0 cs)):=by
 have main:∀(q:List Cu) (k:Nat) (a:Int) (x4 x5:Sl),k+q.length=cs.length->∃y4 y5,iB (cr (dk 2 (aR (tgN 4) (aR (tgN 5) dm))) el) (bH k (q.map cuD)) [.vl (stD s),.vl (.list (cs.map cuD)),.vl (.list os),.vl (.int a),x4,x5]
   = M.ret (.nx [.vl (stD s),.vl (.list (cs.map cuD)),.vl (.list os),.vl (.int (a+mv s t k q)),y4,y5]):=by
  intro q
  induction q with
  | nil=>exact λk a x4 x5 _=>⟨x4,x5,by rw[show mv s t k []=0 from rfl,U8];rfl⟩
  | cons c q ih =>
   intro k a x4 x5 h
   rw[Φ] at h
   obtain⟨more,hk⟩:=ho k `am
   obtain⟨y4,y5,h2⟩:=ih (k+1) (a+s.beg*TR.ab (t (2*k+1)-c.b)+s.fin*TR.ab (t (2*k+2)-c.e)) (.vl (.int (k:Int))) (.vl (cuD c)) `am
   refine⟨y4,y5,cm (uI hs hk x4 x5) ?_⟩
   rw[show a+mv s t k (c::q)=a+s.beg*TR.ab (t (2*k+1)-c.b)+s.fin*TR.ab (t (2*k+2)-c.e)+mv s t (k+1) q by rw[show mv s t k (c::q)=(s.beg*TR.ab (t (2*k+1)-c.b)+s.fin*TR.ab (t (2*k+2)-c.e))+mv s t (k+1) q from rfl];omega]
   exact h2
 obtain⟨y4,y5,h⟩:=main cs 0 0 .un .un `am
 rw[Int.zero_add] at h
 refine bh ?_
 refine ax (aN aj) ?_
 exact ax (e9 (iC (ad `on af)) h) (bX `on)
noncomputable def pD(p:Int×Int):D:=.tuple [.int p.1,.int p.2]
noncomputable def m9(s:Set7)(c:Cu):List Cu->List (Int×Int)->Int->Int
 | d::cs,p::ps,b=>m9 s c cs ps (if d.h=c.h then max b (p.2+s.apart) else b)
 | _,_,b=>b
theorem pF{s:Set7}{cs:List Cu}{ps:List (Int×Int)}{c d:Cu}{p:Int×Int}{j:Nat}{b:Int}{K:D}(hd:cs[j]?=some d)(hp:ps[j]?=some p)(oc:hOk c)(od:hOk d)(x6 x7:Sl) :
  cr (tgN 6) er (.int (j:Int)) [.vl (stD s),.vl (.list (cs.map cuD)),.ow (ps.map pD),.vl K,.vl (cuD c),.vl (.int b),x6,x7]
   = M.ret (.nx [.vl (stD s),.vl (.list (cs.map cuD)),.ow (ps.map pD),.vl K,.vl (cuD c),.vl (.int (if d.h=c.h then max b (p.2+s.apart) else b)),.vl (.int (j:Int)),x7]):=by
 have g1:=rK s
 have hx:=vX hd
 have hy:oIx (.list (ps.map pD)) (.int (j:Int))=some (pD p):=L2.kg (by simp_all)
 have d2':oIx (cuD d) (.int 2)=some (.str d.h):=rfl
 have c2:oIx (cuD c) (.int 2)=some (.str c.h):=rfl
 have p1:oIx (pD p) (.int 1)=some (.int p.2):=rfl
 have he:=o_eqH od oc
 by_cases q:d.h=c.h
 ·rw[if_pos q]
  rw[decide_eq_true q] at he
  refine hV (bi (ag (ag (ag `on `on hx) aj d2') (ag `on aj c2) he)) (fM rfl ?_)
  exact aN (wq (bS (ad `on (ad (ag (ag (ag `on `on hy) aj p1) (ag `on aj g1) bD) af)) p8) rfl)
 ·rw[if_neg q]
  rw[decide_eq_false q] at he
  exact hV (bi (ag (ag (ag `on `on hx) aj d2') (ag `on aj c2) he)) (gy rfl wn)
theorem Ab(s:Set7)(c:Cu)(cs:List Cu)(b:Int):m9 s c cs [] b=b:=by cases cs<;>rfl
theorem tJ{s:Set7}{cs:List Cu}{ps:List (Int×Int)}{c:Cu}{K:D}(oc:hOk c)(oh:∀d∈cs,hOk d)(hl:ps.length<=cs.length)(x7:Sl):∀(n j:Nat) (b:Int) (x6:Sl),j+n=ps.length ->
  ∃y6,iB (cr (tgN 6) er) ((W4 j n).map λi:Nat=>ζ (i:Int)) [.vl (stD s),.vl (.list (cs.map cuD)),.ow (ps.map pD),.vl K,.vl (cuD c),.vl (.int b),x6,x7]
   = M.ret (.nx [.vl (stD s),.vl (.list (cs.map cuD)),.ow (ps.map pD),.vl K,.vl (cuD c),.vl (.int (m9 s c (cs.drop j) (ps.drop j) b)),y6,x7])
 | 0,j,b,x6,h=>⟨x6,by rw[List.drop_of_length_le (l:=ps) `am,Ab];rfl⟩
 | n+1,j,b,x6,h=>by
  have h1:j<ps.length:=by omega
  have h2:j<cs.length:=by omega
  obtain⟨y6,hh⟩:=tJ oc oh hl x7 n (j+1) (if cs[j].h=c.h then max b (ps[j].2+s.apart) else b) (.vl (.int (j:Int))) `am
  refine⟨y6,?_⟩
  rw[List.range'_succ,ω,U9 h1,U9 h2]
  exact cm (pF (Δ h2) (Δ h1) oc (oh _ (List.getElem_mem h2)) x6 x7) hh
noncomputable def lb0(c:Cu)(ps:List (Int×Int)):Int:=match ps[ps.length-1]? with
 | some p=>max c.b p.1
 | none=>c.b
noncomputable def lat(s:Set7)(cs:List Cu)(ps:List (Int×Int))(c:Cu):Int×Int :=
 (m9 s c cs ps (lb0 c ps),min (max c.e (m9 s c cs ps (lb0 c ps)+oK s c)) (m9 s c cs ps (lb0 c ps)+s.most))
theorem uN{s:Set7}(hs:So s){cs:List Cu}{ps:List (Int×Int)}{c:Cu}(oc:hOk c)(ok:DM c)(oh:∀d∈cs,hOk d)(hl:ps.length<=cs.length)(hz:cs.length<=100)(x3 x4 x5 x6 x7:Sl) :
  ∃y5 y6 y7,cr (dk 2 (aR (tgN 3) (aR (tgN 4) dm))) eo (.tuple [.int (ps.length:Int),cuD c]) [.vl (stD s),.vl (.list (cs.map cuD)),.ow (ps.map pD),x3,x4,x5,x6,x7]
   = M.ret (.nx [.vl (stD s),.vl (.list (cs.map cuD)),.ow ((ps++[lat s cs ps c]).map pD),.vl (.int (ps.length:Int)),.vl (cuD c),y5,y6,y7]):=by
 obtain⟨hL,hL0,hL1⟩:=ok
 have hm:gH (.int s.sign) (.int c.L)=some (.int (s.sign*c.L)):=lm (kZ (by have:=hs.sg;omega) (by have:=hs.sg;omega))
 have hif:gIf (dB (d2 oGt (ac 3) `DY)) (bq (pd 2 (dCB m8 (ae (ac 5) (ae (d2 oIx (d2 oIx (ac 2) (d2 gY (ac 3) (dC (.int 1)))) `DY) ak)))) (tgN 5)) cP
   [.vl (stD s),.vl (.list (cs.map cuD)),.ow (ps.map pD),.vl (.int (ps.length:Int)),.vl (cuD c),.vl (.int c.b),x6,x7]
   = M.ret (.nx [.vl (stD s),.vl (.list (cs.map cuD)),.ow (ps.map pD),.vl (.int (ps.length:Int)),.vl (cuD c),.vl (.int (lb0 c ps)),x6,x7]):=by
  by_cases h:ps.length=0
  ·have:lb0 c ps=c.b:=by
    unfold lb0
    simp_all
   rw[this]
   exact hV (bi (ag `on aj (by rw[rb,decide_eq_false `am]))) (gy rfl wn)
  ·have h1:ps.length-1<ps.length:=by omega
   have hp:=Δ h1
   have:lb0 c ps=max c.b ps[ps.length-1].1:=by
    unfold lb0
    rw[hp]
   rw[this]
   have hy:oIx (.list (ps.map pD)) (.int ((ps.length:Int)-1))=some (pD ps[ps.length-1]):=by
    rw[show(ps.length:Int)-1=((ps.length-1:Nat):Int) by omega]
    exact L2.kg (by simp_all)
   refine hV (bi (ag `on aj (by rw[rb,decide_eq_true `am]))) (fM rfl ?_)
   exact aN (wq (bS (ad `on (ad (ag (ag `on (ag `on aj iw) hy) aj rfl) af)) p8) rfl)
 obtain⟨y6,hin⟩:=tJ oc oh hl x7 ps.length 0 (lb0 c ps) x6 `am
 have hr:fJ [.int (ps.length:Int)]=some ((W4 0 ps.length).map λi:Nat=>ζ (i:Int)):=by
  show(if b62 (ps.length:Int)=true then some (bF 0 (ps.length:Int).toNat) else none)=_
  rw[if_pos (by unfold b62;grind),W2,lh]
 refine⟨.vl (.int (m9 s c cs ps (lb0 c ps))),y6,.vl (.int (oK s c)),?_⟩
 refine i7 rfl ?_
 refine ax (aN (ag `on aj rfl)) ?_
 refine ax hif ?_
 refine ax (e9 (gN (ad `on af) hr) hin) ?_
 refine ax (aN (bS (ad (ag `on aj (nI s)) (ad (ag (ag `on aj (rJ s)) (bS (ad (ag `on aj rfl) af) hL) hm) af)) p8)) ?_
 rw[Z0]
 exact kT rfl (bR (ad `on (ad (bS (ad (bS (ad (ag `on aj rfl) (ad (ag `on `on bD) af)) p8) (ad (ag `on (ag `on aj (Ax s)) bD) af)) o_min) af)) rfl) (aF (by grind))
noncomputable def my(s:Set7)(cs:List Cu):List Cu->List (Int×Int)->List (Int×Int)
 | [],ps=>ps
 | c::q,ps=>my s cs q (ps++[lat s cs ps c])
theorem Ae{s:Set7}(hs:So s){cs:List Cu}(hc:∀c∈cs,Ck c)(hz:cs.length<=100):gg [stD s,.list (cs.map cuD)]=M.ret (.list ((my s cs cs []).map pD)):=by
 have main:∀(q:List Cu) (ps:List (Int×Int)) (x3 x4 x5 x6 x7:Sl),(∀c∈q,Ck c)->ps.length+q.length=cs.length->∃y3 y4 y5 y6 y7,iB (cr (dk 2 (aR (tgN 3) (aR (tgN 4) dm))) eo) (bH ps.length (q.map cuD))
   [.vl (stD s),.vl (.list (cs.map cuD)),.ow (ps.map pD),x3,x4,x5,x6,x7]=M.ret (.nx [.vl (stD s),.vl (.list (cs.map cuD)),.ow ((my s cs q ps).map pD),y3,y4,y5,y6,y7]):=by
  intro q
  induction q with
  | nil=>exact λps x3 x4 x5 x6 x7 _ _=>⟨x3,x4,x5,x6,x7,rfl⟩
  | cons c q ih =>
   intro ps x3 x4 x5 x6 x7 hq h
   rw[Φ] at h
   have k:=hq c υ
   obtain⟨y5,y6,y7,h1⟩:=uN hs (ps:=ps) k.h k.ok (λd hd=>(hc d hd).h) `am hz x3 x4 x5 x6 x7
   obtain⟨z3,z4,z5,z6,z7,h2⟩:=ih (ps++[lat s cs ps c]) (.vl (.int (ps.length:Int))) (.vl (cuD c)) y5 y6 y7 (λd hd=>hq d (θ _ hd)) (by grind)
   rw[η,List.length_singleton] at h2
   exact⟨z3,z4,z5,z6,z7,cm h1 h2⟩
 obtain⟨y3,y4,y5,y6,y7,h⟩:=main cs [] .un .un .un .un .un hc (by simp)
 refine bh ?_
 refine ax (gP (bB af rfl)) ?_
 exact ax (e9 (iC (ad `on af)) h) rfl
theorem mx(s:Set7)(cs:List Cu):∀(q:List Cu) (ps:List (Int×Int)),(my s cs q ps).length=ps.length+q.length/\(my s cs q ps).take ps.length=ps /\
  ∀j c,q[j]?=some c->(my s cs q ps)[ps.length+j]?=some (lat s cs ((my s cs q ps).take (ps.length+j)) c)
 | [],ps=>⟨rfl,List.take_length,λj c h=>by cases h⟩
 | c::q,ps=>by
  obtain⟨h1,h2,h3⟩:=mx s cs q (ps++[lat s cs ps c])
  rw[η,List.length_singleton] at h1 h2 h3
  have e:my s cs (c::q) ps=my s cs q (ps++[lat s cs ps c]):=rfl
  rw[e]
  have ht:(my s cs q (ps++[lat s cs ps c])).take ps.length=ps:=by
   have:=congrArg (List.take ps.length) h2
   grind
  refine⟨by grind,ht,λj d hj=>?_⟩
  cases j with
  | zero =>
   cases hj
   rw[Nat.add_zero,ht]
   have:=congrArg (λl=>l[ps.length]?) h2
   grind
  | succ j =>
   grind
theorem nH(s:Set7)(c:Cu):∀(cs:List Cu) (ps:List (Int×Int)) (b:Int),b<=m9 s c cs ps b
 | [],ps,b=>V0 b
 | _::_,[],b=>V0 b
 | d::cs,p::ps,b=>by
  have:=nH s c cs ps (if d.h=c.h then max b (p.2+s.apart) else b)
  unfold m9
  omega
theorem vU(s:Set7)(c:Cu):∀(cs:List Cu) (ps:List (Int×Int)) (b:Int) (i:Nat) (d:Cu) (p:Int×Int),cs[i]?=some d->ps[i]?=some p->d.h=c.h->p.2+s.apart<=m9 s c cs ps b
 | [],_,_,_,_,_,h,_,_=>by cases h
 | _::_,[],_,_,_,_,_,h,_=>by cases h
 | d'::cs,p'::ps,b,0,d,p,h1,h2,h3=>by
  cases h1
  cases h2
  have:=nH s c cs ps (max b (p'.2+s.apart))
  unfold m9
  grind
 | d'::cs,p'::ps,b,i+1,d,p,h1,h2,h3=>vU s c cs ps _ i d p h1 h2 h3
theorem sY{h:Str}:∀{q:List Cu} {w0 w:Nat},nxt h w0 q=some w->∃b,q[w-w0]?=some b/\b.h=h/\w0<=w
 | [],_,_,e=>by cases e
 | c::q,w0,w,e=>by
  unfold nxt at e
  by_cases k:c.h=h
  ·rw[if_pos k] at e
   cases e
   exact⟨c,by rw[Y4];rfl,k,ξ _⟩
  ·rw[if_neg k] at e
   obtain⟨b,h1,h2,h3⟩:=sY e
   refine⟨b,?_,h2,by omega⟩
   rw[show w-w0=(w-(w0+1))+1 by omega]
   exact h1
noncomputable def tL(L:List (Int×Int))(v:Nat):Int:=if v=0 then 0 else if (v-1) % 2=0 then (L.getD ((v-1) / 2) (0,0)).1 else (L.getD ((v-1) / 2) (0,0)).2
theorem uj(L:List (Int×Int))(j:Nat):tL L (2*j+1)=(L.getD j (0,0)).1:=by
 unfold tL
 simp
theorem Bq(L:List (Int×Int))(j:Nat):tL L (2*j+2)=(L.getD j (0,0)).2:=by
 unfold tL
 grind
theorem lb0_ge(c:Cu)(ps:List (Int×Int)):c.b<=lb0 c ps:=by
 unfold lb0
 split<;>omega
theorem tI{s:Set7}(hs:So s){cs:List Cu}(hc:∀c∈cs,Ck c):Kp s cs (tL (my s cs cs [])):=by
 obtain⟨h1,_,h3⟩:=mx s cs cs []
 simp only[List.length_nil,W1] at h1 h3
 generalize my s cs cs []=L at h1 h3
 have hL:∀j c,cs[j]?=some c->L.getD j (0,0)=lat s cs (L.take j) c:=λj c h=>by simp_all
 have hn:∀c∈cs,oK s c<=s.most:=λc hx=>by
  have k:=hc c hx
  have e:= V7 k.L hs.sg.1
  have:=hs.mo
  unfold oK
  omega
 refine⟨λj c h=>?_,λj c h=>?_,λj c h=>?_,λj hj=>?_,λj c w h hw=>?_⟩
 ·rw[uj,hL j c h]
  have e1:=nH s c cs (L.take j) (lb0 c (L.take j))
  have e2:=lb0_ge c (L.take j)
  have e3:=(hc c (Z9 h)).b
  show(0:Int)<=m9 s c cs (L.take j) (lb0 c (L.take j))
  omega
 ·rw[uj,Bq,hL j c h]
  have:=hn c (Z9 h)
  unfold lat
  omega
 ·rw[uj,Bq,hL j c h]
  unfold lat
  omega
 ·have hc1:=Δ hj
  rw[uj,uj,hL (j+1) _ hc1]
  have e1:=nH s cs[j+1] cs (L.take (j+1)) (lb0 cs[j+1] (L.take (j+1)))
  have hp:(L.take (j+1))[(L.take (j+1)).length-1]?=some (L.getD j (0,0)):=by
   grind
  have e2:(L.getD j (0,0)).1<=lb0 cs[j+1] (L.take (j+1)):=by
   unfold lb0
   rw[hp]
   dsimp only
   omega
  exact Int.le_trans e2 e1
 ·obtain⟨b,k1,k2,k3⟩:=sY hw
  rw[List.getElem?_drop,show j+1+(w-1)=j+w by omega] at k1
  rw[Bq,uj,hL (j+w) b k1]
  have hj:j<L.length:=by grind
  refine vU s b cs (L.take (j+w)) _ j c (L.getD j (0,0)) h ?_ k2.symm
  grind
theorem eq_tr:oEq (.str "timed") (.str "ring")=some (.bool false):=by kernel_rfl
noncomputable def atC(T:List Int)(k:Nat)(c:Cu):D:=.tuple [.int (T.getD (2*k+1) 0),.int (T.getD (2*k+2) 0),.str c.h,.str c.w]
theorem xT{T:List Int}{k:Nat}(c:Cu)(h:2*k+2<T.length):jV [.list (T.map ζ),cuD c,.int (k:Int)]=M.ret (atC T k c):=by
 have g1:oIx (.list (T.map ζ)) (.int (2*(k:Int)+1))=some (.int (T.getD (2*k+1) 0)):=by rw[<-cast1];exact ba `am
 have g2:oIx (.list (T.map ζ)) (.int (2*(k:Int)+2))=some (.int (T.getD (2*k+2) 0)):=by exact ba `am
 refine bh ?_
 exact bX (bR (ad (ag `on (aO (ad `on af) (qA k)) g1) (ad (ag `on (aO (ad `on af) (AW k)) g2) (ad (ag `on aj rfl) (ad (ag `on aj rfl) af)))) rfl)
noncomputable def atL(T:List Int):Nat->List Cu->List D
 | _,[]=>[]
 | k,c::cs=>atC T k c::atL T (k+1) cs
theorem wK(T:List Int):∀(cs:List Cu) (k:Nat),(atL T k cs).length=cs.length
 | [],_=>rfl
 | _::cs,k=>congrArg (· + 1) (wK T cs (k+1))
theorem wL(T:List Int):∀(cs:List Cu) (k j:Nat) (c:Cu),cs[j]?=some c->(atL T k cs)[j]?=some (atC T (k+j) c)
 | [],_,_,_,h=>by cases h
 | c0::cs,k,0,c,h=>by cases h;rfl
 | c0::cs,k,j+1,c,h=>by
  rw[show k+(j+1)=k+1+j by omega]
  exact wL T cs (k+1) j c h
theorem wJ{T:List Int}:∀(cs:List Cu) (k:Nat) (x0 x1:Sl),2*(k+cs.length)<T.length ->
  cz (dk 2 (aR (tgN 0) (aR (tgN 1) dm))) (nX eU) (nX (aG (λds=>noX (jV ds)) (ae (ac 2) (ae (ac 1) (ae (ac 0) ak))))) (bH k (cs.map cuD)) [x0,x1,.vl (.list (T.map ζ))]=M.ret (atL T k cs)
 | [],_,_,_,_=>rfl
 | c::cs,k,x0,x1,h=>by
  rw[Φ] at h
  exact dq rfl (aO (ad `on (ad `on (ad `on af))) (xT c `am)) (wJ cs (k+1) _ _ `am)
theorem u9{T:List Int}{cs:List Cu}(k:Nat)(h:2*(k+cs.length)<T.length)(hz:cs.length<=1000)(hk:k<=1000):iJ [.list (T.map ζ),.list (cs.map cuD),.int (k:Int)]=M.ret (.list (atL T k cs)):=by
 refine bh ?_
 refine bX (cR (AH (ad `on af) `on (by unfold Builtin.SmallTypes.fitsIndex;grind)) (aF (by rw[j9,ς];omega)) (wJ cs k _ _ h))
theorem yn{s:Set7}(hs:So s){cs:List Cu}(hc:∀c∈cs,Ck c)(hz:cs.length<=100){t:Nat->Int}(hk:Kp s cs t) :
  ∃T F:List Int,Lt (2*cs.length) (cG s 0 cs) T F/\ge [stD s,.list (cs.map cuD),.list []]=M.ret (.list (atL T 0 cs)):=by
 have hp:Pts (2*cs.length+1) (cG s 0 cs):=λr hr=>(jX hs hr).1
 have hl:=oj s cs 0
 have hre:dN [stD s,.list (cs.map cuD),.list [],.int 0]=M.ret (.list ((cG s 0 cs).map rl)):=by
  rw[pV s cs 0]
  exact yJ s (λc h=>⟨(hc c h).ok,(hc c h).h⟩) 0 [] hz (Y5 _)
 have m2:gH (.int 2) (.int (cs.length:Int))=some (.int ((2*cs.length:Nat):Int)):=by rfl
 rcases Aa hp `am `am (λr hr w hw=>((jX hs hr).2.1 w hw).1) (λr hr=>(jX hs hr).2.2) with ⟨L,_,_,_,k4⟩ | ⟨T,F,k1,k2⟩
 ·obtain⟨i1,i2⟩:=isR_of k4
  exact(i1.not_kept λr hr=>vV hk r (i2 r hr) (i1.no r hr)).elim
 ·have hlt:fz [.int (cs.length:Int),.list ((cG s 0 cs).map rl)]=M.ret (.list (T.map ζ)):=by
   refine bh ?_
   refine ax (aN (aO (ad (ag aj `on m2) (ad `on af)) k1)) ?_
   refine i6 (bi (ag (ag `on aj rfl) aj eq_tr)) rfl ?_
   rfl
  refine⟨T,F,k2,?_⟩
  have hca:iJ [.list (T.map ζ),.list (cs.map cuD),.int 0]=M.ret (.list (atL T 0 cs)):=u9 0 (by rw[k2.lT];omega) `am `am
  have hlen:dM [.list (cs.map cuD)]=some (.int (cs.length:Int)):=by rw[kN,ς]
  refine bh ?_
  refine ax (aN (aO (ad (bS (ad `on af) hlen) (ad (AK (ad `on (ad `on (ad `on af))) hre) af)) hlt)) ?_
  exact bX (aO (ad `on (ad `on (ad aj af))) hca)
theorem vp(k k':Key)(d:D):∀es:List (Key×D),ci (es.map λe=>if e.1=k then (e.1,d) else e) k'=if k'=k then (ci es k).map (λ_=>d) else ci es k'
 | []=>by unfold ci;simp
 | e::es=>by
  have ih:=vp k k' d es
  unfold ci at ih ⊢
  grind
theorem Bm(es:List (Key×D))(k k':Key)(d:D):ci (putD es k d) k'=if k'=k then some d else ci es k':=by
 unfold putD
 by_cases h:(es.any λe=>decide (e.1=k))=true
 ·rw[if_pos h,vp]
  have:∃v,ci es k=some v:=by
   unfold ci
   cases z:es.find? λe=>decide (e.1=k) with
   | some x=>simp
   | none =>
    grind
  grind
 ·rw[if_neg h]
  have:ci es k=none:=by
   unfold ci
   grind
  unfold ci at this ⊢
  grind
theorem BY(es:List (Key×D))(k:Key)(d:D):(putD es k d).length<=es.length+1:=by
 unfold putD
 grind
theorem p9{h:Str}:∀{q:List Cu} {i w0:Nat} {b:Cu},q[i]?=some b->b.h=h->(∀i' d,i'<i->q[i']?=some d->d.h≠h)->nxt h w0 q=some (w0+i)
 | [],_,_,_,e,_,_=>by cases e
 | c::q,0,w0,b,e,hb,_=>by
  cases e
  unfold nxt
  simp_all
 | c::q,i+1,w0,b,e,hb,hn=>by
  unfold nxt
  rw[if_neg (hn 0 c `am rfl),p9 (i:=i) (q:=q) (w0:=w0+1) e hb λi' d h1 h2=>hn (i'+1) d `am h2]
  grind
structure Ed(cs:List Cu)(t:Nat->Int)(k:Nat)(es:List (Key×D)):Prop where
 l:es.length<=k
 v:∀h v,ci es (.inr h)=some v->∃j c,cs[j]?=some c/\j<k/\c.h=h/\v=.int (t (2*j+2))/\∀i d,j<i->i<k->cs[i]?=some d->d.h≠h
theorem Ed.put{cs:List Cu}{t:Nat->Int}{k:Nat}{es:List (Key×D)}(H:Ed cs t k es){c:Cu}(hc:cs[k]?=some c):Ed cs t (k+1) (putD es (.inr c.h) (.int (t (2*k+2)))):=by
 refine⟨by have:=BY es (.inr c.h) (.int (t (2*k+2)));have:=H.l;omega,λh v hv=>?_⟩
 rw[Bm] at hv
 by_cases z:(Sum.inr h:Key)=.inr c.h
 ·rw[if_pos z] at hv
  cases hv
  exact⟨k,c,hc,by omega,(Sum.inr.inj z).symm,rfl,λi d h1 h2 _=>by omega⟩
 ·rw[if_neg z] at hv
  obtain⟨j,c',h1,h2,h3,h4,h5⟩:=H.v h v hv
  refine⟨j,c',h1,by omega,h3,h4,λi d a b e=>?_⟩
  by_cases hi:i=k
  ·subst hi
   rw[hc] at e
   cases e
   exact λz'=>z (by rw[z'])
  ·exact h5 i d a `am e
theorem uq{s:Set7}(hs:So s){cs:List Cu}{T:List Int}(hk:Kp s cs (λv=>T.getD v 0))(h0:T.getD 0 0=0){k:Nat}{c:Cu}(hc:cs[k]?=some c)(oc:Ck c)(hz:cs.length<=100){FD:D}{es:List (Key×D)}(he:Ed cs (λv=>T.getD v 0) k es){la:Int}(hla:la<=T.getD (2*k+1) 0)(x5 x6 x7 x8 x9 x10:Sl) :
  cr (dk 2 (aR (tgN 5) (aR (tgN 6) dm))) eh (.tuple [.int (k:Int),atC T k c]) [.vl (stD s),.vl (.list (cs.map cuD)),.vl FD,.od es,.vl (.int la),x5,x6,x7,x8,x9,x10]
   = M.ret (.nx [.vl (stD s),.vl (.list (cs.map cuD)),.vl FD,.od (putD es (.inr c.h) (.int (T.getD (2*k+2) 0))),.vl (.int (T.getD (2*k+1) 0)),.vl (.int (k:Int)),.vl (atC T k c),.vl (.int (T.getD (2*k+1) 0)),.vl (.int (T.getD (2*k+2) 0)),.vl (.str c.h),.vl (.str c.w)]):=by
 obtain⟨hL,hL0,hL1⟩:=oc.ok
 have k1:= hk.lg k c hc
 have k2:= hk.mo k c hc
 have kl:= (ρ.mp hc).1
 have hn:s.least<=oK s c/\s.sign*c.L<=oK s c:=by unfold oK;omega
 have hm:gH (.int s.sign) (.int c.L)=some (.int (s.sign*c.L)):=lm (kZ (by have:=hs.sg;omega) (by have:=hs.sg;omega))
 have hx:=vX hc
 have hne:oNe (.tuple [.str c.h,.str c.w]) (.tuple [.str c.h,.str c.w])=some (.bool false):=by
  have h1:=oc.w
  have h2:U3 c.h=true:=oc.h
  unfold oNe flat
  rw[if_pos (by simp [V1,V8,PyData.depth,PyData.depthAll,h1,h2])]
  simp [V4,PyData.eqvAll]
 have hcut:mJ (some 2) none (atC T k c)=some (.tuple [.str c.h,.str c.w]):=rfl
 have hcut2:mJ (some 2) none (cuD c)=some (.tuple [.str c.h,.str c.w]):=rfl
 generalize hTb:T.getD (2*k+1) 0=tb at *
 generalize hTe:T.getD (2*k+2) 0=te at *
 have eA:atC T k c=.tuple [.int tb,.int te,.str c.h,.str c.w]:=by unfold atC;simp_all
 rw[eA] at hcut ⊢
 refine i6 (gO (mE (bi (ev_is (d:=.tuple [.int tb,.int te,.str c.h,.str c.w]) `on))) (gO (bi (ag (bS (ad `on af) o_lenT) aj (by rfl))) (bi (ag (lM `on (j7 aj) j8 hcut) (lM (ag `on `on hx) (j7 aj) j8 hcut2) hne)))) rfl ?_
 refine i6 (gO (mE (bi (aO (ad `on af) (show c8 [.int tb]=M.ret (.bool true) from rfl)))) (gO (mE (bi (aO (ad `on af) (show c8 [.int te]=M.ret (.bool true) from rfl)))) (gO (bi (ag `on `on (by rw[oF,decide_eq_false `am]))) (bi (ag (ag `on `on iw) (ag `on aj (Ax s)) (by rw[rb,decide_eq_false `am])))))) rfl ?_
 refine i6 (gO (bi (ag (ag `on `on iw) (ag `on aj (nI s)) (by rw[oF,decide_eq_false `am]))) (bi (ag (ag `on `on iw) (ag (ag `on aj (rJ s)) (bS (ad `on af) hL) hm) (by rw[oF,decide_eq_false `am])))) rfl ?_
 have hap:jT (dB (t6 3 (ac 9))) (dB (d2 oLt (ac 7) (d2 bf (lV 3 (ac 9)) (d2 bE (ac 0) (dC (.str "apart")))))) [.vl (stD s),.vl (.list (cs.map cuD)),.vl FD,.od es,.vl (.int la),.vl (.int (k:Int)),.vl (.tuple [.int tb,.int te,.str c.h,.str c.w]),.vl (.int tb),.vl (.int te),.vl (.str c.h),.vl (.str c.w)]=M.ret false:=by
  cases hv:ci es (.inr c.h) with
  | none=>exact AN (bi (by rw[AG rfl `on rfl,hv];rfl))
  | some v =>
   obtain⟨j,c',h1,h2,h3,h4,h5⟩:=he.v c.h v hv
   have hnx:nxt c'.h 1 (cs.drop (j+1))=some (1+(k-(j+1))):=by
    refine p9 ?_ h3.symm λi' d a e=>?_
    ·rw[List.getElem?_drop,show j+1+(k-(j+1))=k by omega]
     exact hc
    grind
   have ha:= hk.ap j c' _ h1 hnx
   rw[show j+(1+(k-(j+1)))=k by omega,hTb] at ha
   rw[h4] at hv
   refine AM (bi (by rw[AG rfl `on rfl,hv];rfl)) (bi (ag `on (ag (Dv rfl `on rfl hv) (ag `on aj (rK s)) bD) ?_))
   rw[oF,decide_eq_false `am]
 refine i6 hap rfl ?_
 refine ax (j6 rfl `on `on rfl (by have:=he.l;rw[Z2];exact⟨rfl,decide_eq_true `am⟩) rfl) ?_
 rfl
theorem yL{s:Set7}(hs:So s){cs:List Cu}(hc:∀c∈cs,Ck c)(hz:cs.length<=100){T:List Int}(hk:Kp s cs (λv=>T.getD v 0))(h0:T.getD 0 0=0) :
  gf [stD s,.list (cs.map cuD),.list (atL T 0 cs)]=M.ret (.bool true):=by
 have main:∀(q:List Cu) (k:Nat) (es:List (Key×D)) (la:Int) (x5 x6 x7 x8 x9 x10:Sl),cs.drop k=q->Ed cs (λv=>T.getD v 0) k es->(∀c,cs[k]?=some c->la<=T.getD (2*k+1) 0)->∃δ',iB (cr (dk 2 (aR (tgN 5) (aR (tgN 6) dm))) eh) (bH k (atL T k q)) [.vl (stD s),.vl (.list (cs.map cuD)),.vl (.list (atL T 0 cs)),.od es,.vl (.int la),x5,x6,x7,x8,x9,x10]=M.ret (.nx δ'):=by
  intro q
  induction q with
  | nil=>exact λk es la x5 x6 x7 x8 x9 x10 _ _ _=>⟨_,rfl⟩
  | cons c q ih =>
   intro k es la x5 x6 x7 x8 x9 x10 hd he hl
   have hck:cs[k]?=some c:=by
    have:=congrArg (λl=>l[0]?) hd
    grind
   have hd':cs.drop (k+1)=q:=by
    have:=congrArg (List.drop 1) hd
    rw[U4] at this
    simp_all
   have st:=uq hs hk h0 hck (hc c (Z9 hck)) hz (FD:=.list (atL T 0 cs)) he (hl c hck) x5 x6 x7 x8 x9 x10
   obtain⟨δ',h2⟩:=ih (k+1) (putD es (.inr c.h) (.int (T.getD (2*k+2) 0))) (T.getD (2*k+1) 0) (.vl (.int (k:Int))) (.vl (atC T k c)) (.vl (.int (T.getD (2*k+1) 0))) (.vl (.int (T.getD (2*k+2) 0))) (.vl (.str c.h)) (.vl (.str c.w)) hd' (he.put hck) λd hd2=>hk.od k (ρ.mp hd2).1
   exact⟨δ',cm st h2⟩
 obtain⟨δ',h⟩:=main cs 0 [] 0 .un .un .un .un .un .un rfl ⟨ξ _,λh v hv=>by cases hv⟩ (λc h=>by have:= hk.st 0 c h;omega)
 have hlen:dM [.list (atL T 0 cs)]=some (.int (cs.length:Int)):=by rw[kN,wK]
 have hlen2:dM [.list (cs.map cuD)]=some (.int (cs.length:Int)):=by rw[kN,ς]
 refine bh ?_
 refine i6 (gO (mE (bi (ev_is (d:=.list (atL T 0 cs)) `on))) (bi (ag (bS (ad `on af) hlen) (bS (ad `on af) hlen2) (by rw[uD];simp)))) rfl ?_
 refine ax (show v9 3 _=M.ret (.nx _) from rfl) ?_
 refine ax (aN aj) ?_
 exact ax (e9 (iC (ad `on af)) h) (bX aj)
theorem atL_at{T:List Int}{cs:List Cu}:∀k,k<cs.length->∃more,(atL T 0 cs)[k]?=some (.tuple (.int ((λv=>T.getD v 0) (2*k+1))::.int ((λv=>T.getD v 0) (2*k+2))::more)):=λk hk=>by
 have:=wL T cs 0 k cs[k] (Δ hk)
 rw[W1] at this
 exact⟨_,this⟩
theorem lat_at{L:List (Int×Int)}{n:Nat}(hL:L.length=n):∀k,k<n->∃more,(L.map pD)[k]?=some (.tuple (.int (tL L (2*k+1))::.int (tL L (2*k+2))::more)):=λk hk=>by
 have h:L[k]?=some L[k]:=Δ `am
 refine⟨[],?_⟩
 rw[uj,Bq,Y0,Γ,h]
 rfl
theorem Ac(ns:List Int)(hl:ns.length<=63):wO [.list (ns.map ζ)]=M.ret (.bool true):=by
 obtain⟨c0,hc0⟩:=vc ns 0 (by decide)
 obtain⟨s,hs,hse⟩:=sB c0
 obtain⟨is,his,hisl⟩:∃is:List Int,nk (ns.map ζ) (some 1) (some (5+6*(c0 % 4 / 3)))=is.map ζ/\is.length<=63:=by
  unfold nk
  refine⟨((ns.drop (HT.sIx (ns.map ζ).length 0 (some 1))).take (HT.sIx (ns.map ζ).length (ns.map ζ).length (some (5+6*(c0 % 4 / 3)))-HT.sIx (ns.map ζ).length 0 (some 1))),by rw[<-List.map_drop,<-List.map_take],?_⟩
  rw[List.length_take,U5]
  omega
 obtain⟨cs,hcl,hck,hce⟩:=DK s is `am
 have hz:cs.length<=100:=by omega
 have hlk:=tI hs hck
 obtain⟨T,F,hlt,hte⟩:=yn hs hck hz hlk
 have hkT:Kp s cs (λv=>T.getD v 0):=CY hlt.kp
 have hr:=yL hs hck hz hkT hlt.t0
 have hm1:=tz hs (λv=>T.getD v 0) (cs:=cs) (os:=atL T 0 cs) atL_at
 obtain⟨hLl,_,_⟩:=mx s cs cs []
 rw[List.length_nil,W1] at hLl
 have hlv:=Ae hs hck hz
 generalize my s cs cs []=L at *
 have hm2:=tz hs (tL L) (cs:=cs) (os:=L.map pD) (lat_at hLl)
 have hp:Pts (2*cs.length+1) (cG s 0 cs):=λr hr=>(jX hs hr).1
 have hle:mv s (λv=>T.getD v 0) 0 cs<=mv s (tL L) 0 cs:=by
  obtain⟨U,hU⟩:∃U:List Int,U=(Ψ (2*cs.length+1)).map (tL L):=⟨_,rfl⟩
  have hUv:∀v,v<2*cs.length+1->U.getD v 0=tL L v:=λv hv=>by rw[hU];exact fR hv
  have hw:=hlt.weak hp (U:=U) λr hr hn=>by
   have h1:=hp r hr
   have h2:=vV hlk r hr hn
   show U.getD r.lo 0+r.le<=U.getD r.hi 0
   rw[hUv _ h1.1,hUv _ h1.2]
   exact h2
  rw[nu,nu,zS s hlt.t0,zS s (by rw[hUv 0 `am];rfl)] at hw
  have:∀(q:List Cu) (k:Nat),k+q.length<=cs.length->mv s (λv=>U.getD v 0) k q=mv s (tL L) k q:=by
   intro q
   induction q with
   | nil=>exact λ_ _=>rfl
   | cons c q ih =>
    intro k h
    rw[Φ] at h
    unfold mv
    rw[ih (k+1) `am,hUv _ `am,hUv _ `am]
  rw[this cs 0 `am] at hw
  exact hw
 have hne:=BL s hck
 have hdi:lu [stD s]=some (stD s):=rfl
 have hli:lr [.list (cs.map cuD)]=some (.list (cs.map cuD)):=rfl
 have cut1:mJ (some 1) (some (5+6*(c0 % 4 / 3))) (.list (ns.map ζ))=some (.list (is.map ζ)):=by rw[<-his];rfl
 generalize hNS:Θ (ns.map ζ)=NS at *
 generalize hCS:Θ (cs.map cuD)=CS at *
 generalize hST:stD s=ST at *
 generalize hAT:Θ (atL T 0 cs)=AT at *
 generalize hLA:Θ (L.map pD)=LA at *
 have cell:∀(k v:Int) (x:List Sl),bT [NS,.int k]=M.ret (.int v)->aG (λds=>noX (bT ds)) (ae (ac 0) (ae (dC (.int k)) ak)) (.vl NS::x)=M.ret (.int v):=λk v x h=>aO (ad `on (ad aj af)) h
 refine bh ?_
 unfold Ay
 refine ax (aN (d:=ST) (aO (ad (cell 0 c0 _ hc0) af) hse)) ?_
 refine ax (aN (d:=CS) (aO (ad `on (ad (lM `on (j7 aj) (j7 (ag aj (ag aj (ag (ag (cell 0 c0 _ hc0) aj (cI (by decide))) aj (oG (je (by decide) (by decide)))) (lm (kZ (by decide) (by decide)))) bD)) cut1) af)) hce)) ?_
 refine ax (aN (d:=.list [ST,CS]) (gC (ad (bS (ad `on af) hdi) (ad (bS (ad `on af) hli) af)) rfl)) ?_
 refine ax (aN (d:=AT) (aO (ad (ag `on aj rfl) (ad (ag `on aj rfl) (ad (gC af rfl) af))) hte)) ?_
 refine i6 (b:=false) (gO (bi (ag `on (gC (ad `on (ad `on af)) rfl) hne)) (mE (b:=true) (bi (aO (ad `on (ad `on (ad `on af))) hr)))) rfl ?_
 refine bX (ag (aO (ad `on (ad `on (ad `on af))) hm1) (aO (ad `on (ad `on (ad (aO (ad `on (ad `on af)) hlv) af))) hm2) ?_)
 rw[vQ,decide_eq_true hle]
open PyProof.Rows
noncomputable def top(i:Nat):Stmt:=PySem.Challenge.pw_cuetimer_k55_cues_timed.main.body.getD i (.Pass ⟨0,0,0,0⟩)
noncomputable def mth(s:Stmt)(i:Nat):Stmt:=match s with
 | .ClassDef _ _ _ b _ _ _ _ _ _ _=>b.getD i (.Pass ⟨0,0,0,0⟩)
 | s=>s
local macro_rules | `(tactic| walk_at "L")=>`(tactic| first | exact Or.inl rfl | exact Or.inr rfl)
local macro_rules | `(tactic| walk_at "S")=>`(tactic| exact⟨rfl,rfl,rfl,by decide +kernel,rfl,by decide +kernel,by decide +kernel⟩)
structure ClsT_Tree(K:ε)(C:Addr):Prop where
 nn:Ξ K mainGlobals "Tree" = some (some (.ref C))
 cl:Cls K C
 na:∀f∈(["many", "rules", "bounds", "flow", "times", "over", "under", "hooks", "depths", "begin"]:List Str),Z1 K (.ref C) f=some none
def jp(K:ε)(C:Addr)(m:Str)(f:Addr):Prop:=Z1 K (.ref C) m=some (some (.ref f))/\PySem.W.isFn K (.ref f)=true
theorem len1{α:Type _}:∀{l:List α},l.length=1->∃a,l=[a]
 | [a],_=>⟨a,rfl⟩
theorem len2{α:Type _}:∀{l:List α},l.length=2->∃a b,l=[a,b]
 | [a,b],_=>⟨a,b,rfl⟩
theorem len3{α:Type _}:∀{l:List α},l.length=3->∃a b c,l=[a,b,c]
 | [a,b,c],_=>⟨a,b,c,rfl⟩
theorem len4{α:Type _}:∀{l:List α},l.length=4->∃a b c d,l=[a,b,c,d]
 | [a,b,c,d],_=>⟨a,b,c,d,rfl⟩
def Fu(K:ε)(x:Str)(st:Stmt):Prop:=∃f fd,Ξ K mainGlobals x=some (some (.ref f))/\Fun K x x st f fd
def Me(K:ε)(C:Addr)(x q:Str)(st:Stmt):Prop:=∃f fd,Z1 K (.ref C) x=some (some (.ref f))/\PySem.W.isFn K (.ref f)=true/\Fun K x q st f fd
theorem Fu.go{K:ε}{h:Heap}{mg:Str->Option Value}{x:Str}{st:Stmt}{T:Prop}(L:Fu K x st)(X:K.In h)(G:h.Ns mainGlobals mg)(k:∀f fd,Fun K x x st f fd->mg x=some (.ref f)->T):T:=by
 obtain⟨f,fd,a,F⟩:=L
 exact k f fd F (T9 X G a)
theorem Me.go{K:ε}{C:Addr}{x q:Str}{st:Stmt}{T:Prop}(L:Me K C x q st)(k:∀f fd,Fun K x q st f fd->jp K C x f->T):T:=by
 obtain⟨f,fd,a,b,F⟩:=L
 exact k f fd F ⟨a,b⟩
set_option hygiene false
local macro_rules | `(tactic| walk_at "o")=>`(tactic| first | ((with_reducible show DOp _ _ oIs);exact dop_is) | ((with_reducible show DOp _ _ oEq);exact(dop_eq hr.units)) | ((with_reducible show DOp _ _ oGt);exact dop_gt) | ((with_reducible show DOp _ _ bf);exact wC) | ((with_reducible show DOp _ _ gY);exact DB) | ((with_reducible show DOp _ _ oLt);exact dop_lt) | ((with_reducible show DOp _ _ oI);exact wB) | ((with_reducible show DOp _ _ gZ);exact xI) | ((with_reducible show DOp _ _ oNe);exact(dop_ne hr.units)) | ((with_reducible show DOp _ _ oGe);exact dop_ge) | ((with_reducible show DOp _ _ mr);exact DE) | ((with_reducible show DOp _ _ gH);exact DD) | ((with_reducible show DOp _ _ eP);exact lQ) | ((with_reducible show DOp _ _ xn);exact DC) | ((with_reducible show DOp _ _ sX);exact(AZ hr.units)))
local macro_rules | `(tactic| walk_at "b")=>`(tactic| first | ((with_reducible show fP _ _ dM);exact xL) | ((with_reducible show fP _ _ sW);exact(o9 rfl)) | ((with_reducible show fP _ _ rf);exact xM) | ((with_reducible show fP _ _ xo);exact(xJ rfl)) | ((with_reducible show fP _ _ m8);exact(xK rfl)) | ((with_reducible show fP _ _ lu);exact u0) | ((with_reducible show fP _ _ lr);exact uZ))
local macro_rules | `(tactic| walk_at "k")=>`(tactic| first | ((with_reducible show ie _ "int");exact(C9 _)) | ((with_reducible show ie _ "bool");exact(Ai _)) | ((with_reducible show ie _ "list");exact(Ah _)) | ((with_reducible show ie _ "tuple");exact(xx _)))
local macro_rules | `(tactic| walk_at "A")=>`(tactic| first | ((with_reducible show Def _ _ _ _ _ _ "must_be_kept" _ _);exact cU) | ((with_reducible show Def _ _ _ _ _ _ "first_flow" _ _);exact f6) | ((with_reducible show DefM _ _ _ _ _ _ "Tree" "lack_of" _ _);exact cp) | ((with_reducible show DefM _ _ _ _ _ _ "Tree" "is_wrong" _ _);exact dD) | ((with_reducible show DefM _ _ _ _ _ _ "Tree" "worst_rule" _ _);exact cJ) | ((with_reducible show DefFM _ _ _ _ _ _ "Tree" "way" _ _);exact dZ) | ((with_reducible show SL.DefSM _ _ _ _ _ _ "Tree" "shift" _ _);exact fj) | ((with_reducible show DefM _ _ _ _ _ _ "Tree" "meeting" _ _);exact d5) | ((with_reducible show DefM _ _ _ _ _ _ "Tree" "way" _ _);exact jb) | ((with_reducible show DefM _ _ _ _ _ _ "Tree" "step_down" _ _);exact c7) | ((with_reducible show DefM _ _ _ _ _ _ "Tree" "step_up" _ _);exact d4) | ((with_reducible show DefM _ _ _ _ _ _ "Tree" "room" _ _);exact gT) | ((with_reducible show SL.DefSM _ _ _ _ _ _ "Tree" "hang" _ _);exact fX) | ((with_reducible show SL.DefSM _ _ _ _ _ _ "Tree" "wrong_rule" _ _);exact cA) | ((with_reducible show SL.DefSM _ _ _ _ _ _ "Tree" "mend" _ _);exact fV) | ((with_reducible show Def _ _ _ _ _ _ "begin_point" _ _);exact bO) | ((with_reducible show Def _ _ _ _ _ _ "end_point" _ _);exact cy) | ((with_reducible show DefF _ _ _ _ _ _ "rules_alone" _ _);exact fm) | ((with_reducible show DefF _ _ _ _ _ _ "wishes" _ _);exact lR) | ((with_reducible show DefF _ _ _ _ _ _ "rules_behind" _ _);exact dX) | ((with_reducible show DefF _ _ _ _ _ _ "rules_of_cut" _ _);exact dW) | ((with_reducible show SL.DefS _ _ _ _ _ _ "raise_points" _ _);exact dw) | ((with_reducible show Def _ _ _ _ _ _ "ring_above" _ _);exact fZ) | ((with_reducible show SL.DefS _ _ _ _ _ _ "keeping" _ _);exact ja) | ((with_reducible show SL.MkS _ _ _ _ _ _ "Tree" _ _);exact fW) | ((with_reducible show SL.DefSM _ _ _ _ _ _ "Tree" "settle" _ _);exact dU) | ((with_reducible show DefM _ _ _ _ _ _ "Tree" "timing" _ _);exact fv) | ((with_reducible show DefM _ _ _ _ _ _ "Tree" "flow_of_rules" _ _);exact b7) | ((with_reducible show Def _ _ _ _ _ _ "least_timing" _ _);exact d_least_timing) | ((with_reducible show Def _ _ _ _ _ _ "cue_at" _ _);exact lS) | ((with_reducible show Def _ _ _ _ _ _ "least_times" _ _);exact fq) | ((with_reducible show Def _ _ _ _ _ _ "cues_at" _ _);exact ke) | ((with_reducible show Def _ _ _ _ _ _ "_law_numbers" _ _);exact cV) | ((with_reducible show Def _ _ _ _ _ _ "_law_whole" _ _);exact f7) | ((with_reducible show Def _ _ _ _ _ _ "_law_settings" _ _);exact dA) | ((with_reducible show Def _ _ _ _ _ _ "_law_cell_at" _ _);exact dY) | ((with_reducible show Def _ _ _ _ _ _ "_law_cues" _ _);exact gS) | ((with_reducible show Def _ _ _ _ _ _ "timed_cues" _ _);exact fY) | ((with_reducible show Def _ _ _ _ _ _ "_law_right" _ _);exact f8) | ((with_reducible show Def _ _ _ _ _ _ "_law_moved" _ _);exact f9) | ((with_reducible show Def _ _ _ _ _ _ "_law_later" _ _);exact gc))
local macro_rules | `(tactic| walk_at "B")=>`(tactic| first | exact λ_ _ _ _ _ _ us hl=>by (obtain⟨_,rfl⟩:=len1 hl;rfl) | exact λ_ _ _ _ _ _ us hl=>by (obtain⟨_,_,rfl⟩:=len2 hl;rfl) | exact λ_ _ _ _ _ _ us hl=>by (obtain⟨_,_,_,rfl⟩:=len3 hl;rfl) | exact λ_ _ _ _ _ _ us hl=>by (obtain⟨_,_,_,_,rfl⟩:=len4 hl;rfl) | exact λ_ _ _ _ _ _ us hl=>by (obtain⟨_,_,_,_,_,rfl⟩:=len5 hl;rfl) | exact λ_ _ _ _ _ _ us hl=>by (obtain⟨_,_,_,_,_,_,rfl⟩:=len6 hl;rfl))
local macro_rules | `(tactic| walk_at "qPD")=>`(tactic| first | ((with_reducible show PD _ _ _ (ac _));refine jy (pv _)) | ((with_reducible show PD _ _ (.Constant (.int _) _ _) (dC (.int _)));refine eN) | ((with_reducible show PD _ _ _ (d2 oIx _ _));refine oE ?_ ?_ (λ_ _=>rfl)) | ((with_reducible show PD _ _ (.BinOp _ _ _ _) (d2 _ _ _));refine oC (by walk_at "o") ?_ ?_) | ((with_reducible show PD _ _ (.Constant (.str _) _ _) (dC (.str _)));refine qY) | ((with_reducible show PD _ _ _ (d1 (aV _ _) _));refine pd_fld ⟨cT.nn,cT.cl⟩ (cT.na _ (by decide)) ?_) | ((with_reducible show PD _ _ _ (bM _));refine zx ?_) | ((with_reducible show PD _ _ (.Call (.Name _ _) _ [] _) (aG _ _));refine CL (by walk_at "A") (hr.mono (by decide)) rfl rfl ?_) | ((with_reducible show PD _ _ (.Call (.Name _ _) _ [] _) (dCB _ _));refine sR (by walk_at "b") rfl (by assumption) (by rfl) ?_) | ((with_reducible show PD _ _ (.Constant .none _ _) (dC .none));refine pd_non) | ((with_reducible show PD _ _ _ (d2 bE _ _));refine CJ (v5 hr) ?_ ?_ (λ_ _=>rfl)) | ((with_reducible show PD _ _ (.Call (.Attribute _ _ _) _ [] _) (dMe _ _ _ _ _));refine zB (by walk_at "A") (hr.mono (by decide)) rfl ?_ ?_) | ((with_reducible show PD _ _ _ (dIf _ _ _));refine pd_if ?_ ?_ ?_) | ((with_reducible show PD _ _ _ (kW _));refine uB ?_) | ((with_reducible show PD _ _ _ (d1 m6 _));refine pd_neg ?_) | ((with_reducible show PD _ _ (.Compare _ [_] [_] _) (d2 _ _ _));refine pd_cmp (by walk_at "o") ?_ ?_ (zM _)) | ((with_reducible show PD _ _ (.Constant (.bool _) _ _) (dC (.bool _)));refine pd_bl) | ((with_reducible show PD _ _ _ (lW _ _ _));refine CK ?_ ?_ ?_) | ((with_reducible show PD _ _ _ (dIs _ _));refine xj rfl (by walk_at "k") rfl (by assumption) rfl (by assumption) (by rfl) ?_) | ((with_reducible show PD _ _ _ (lV _ _));refine CC (v5 hr) (pv _) ?_ (λ_ _=>rfl)) | ((with_reducible show PD _ _ (.Name _ _) (dC (.int _)));refine zC rfl m_STRIDE) | ((with_reducible show PD _ _ (.Call (.Attribute _ _ _) [] [] _) (dMe _ _ _ _ ak));refine xi (by walk_at "A") (hr.mono (by decide)) ?_) | ((with_reducible show PD _ _ _ (pd _ _));refine CG 2 ?_) | ((with_reducible show PD _ _ (.Call (.Name _ _) _ [] _) (dCB _ _));refine xk (by walk_at "b") rfl (by assumption) (by rfl) ?_) | ((with_reducible show PD _ _ (.Call (.Name _ _) [.Call (.Name _ _) [_] [] _] [] _) (dCB _ _));refine zw (rS rfl) rfl (by assumption) (by rfl) rfl (by assumption) (by rfl) ?_) | ((with_reducible show PD _ _ (.Call (.Name _ _) _ [] _) (aG _ _));refine zE dz_rules_of (hr.mono (by decide)) rfl rfl ?_) | ((with_reducible show PD _ _ _ (Bb _ _));refine pd_and ?_ ?_) | ((with_reducible show PD _ _ (.BoolOp _ [_] _) _);refine pd_one ?_) | ((with_reducible show PD _ _ _ (Ba _));refine pd_not ?_) | ((with_reducible show PD _ _ _ (gI _));refine zy ?_))
local macro_rules | `(tactic| walk_at "qPDA")=>`(tactic| first | ((with_reducible show PDA _ _ _ (ae _ _));refine fG ?_ ?_) | ((with_reducible show PDA _ _ _ ak);refine jZ))
local macro_rules | `(tactic| walk_at "qPDSs")=>`(tactic| first | ((with_reducible show jf _ _ _ (aH _ _));refine zi ?_ ?_) | ((with_reducible show jf _ _ _ cP);refine Cp) | ((with_reducible show jf _ _ _ (Dj _ _));refine Cq 4 ?_) | ((with_reducible show jf _ _ _ _);refine qV ?_))
local macro_rules | `(tactic| walk_at "qPDS")=>`(tactic| first | ((with_reducible show PDS _ _ (.Assign [.Name _ _] _ _) (bq _ (tgN _)));refine pd_set S.nd rfl (by walk_at "L") ?_) | ((with_reducible show PDS _ _ _ (ck _));refine uA ?_) | ((with_reducible show PDS _ _ _ (gIf _ _ _));refine pd_ifS ?_ ?_ ?_) | ((with_reducible show PDS _ _ _ (fN _ _ _));refine CH PassesOwn.never rfl ?_ ?_ ?_) | ((with_reducible show PDS _ _ _ (jk _ _));refine CD S.nd rfl (by walk_at "L") ?_) | ((with_reducible show PDS _ _ _ (ki _ _));refine pd_app (pv _) ?_) | ((with_reducible show PDS _ _ _ (jP _ _ _));refine CB (v5 hr) (pv _) ?_ ?_) | ((with_reducible show PDS _ _ _ (mS _));refine Cz (pv _)) | ((with_reducible show PDS _ _ _ (cO _ _));refine zv PassesOwn.never ?_ ?_) | ((with_reducible show PDS _ _ _ (lL _ _));refine pd_ext (pv _) ?_) | ((with_reducible show PDS _ _ _ o3);refine zF) | ((with_reducible show PDS _ _ _ uS);refine zA) | ((with_reducible show PDS _ _ _ (tU _ _));refine CI (sQ qY (oE (uB (fG eN (fG (oC lQ (oE (jy (pv 1)) eN (λ_ _=>rfl)) eN) jZ))) (oC lQ (oE (jy (pv 1)) eN (λ_ _=>rfl)) eN) (λ_ _=>rfl)) (sQ qY (oC wC eN (oE (uB (fG eN (fG (oC lQ (oE (jy (pv 1)) eN (λ_ _=>rfl)) eN) jZ))) (oC lQ (oC wB (oE (jy (pv 1)) eN (λ_ _=>rfl)) eN) eN) (λ_ _=>rfl))) Cr)) S.nd rfl (by walk_at "L") rfl rfl (by decide) (by decide)) | ((with_reducible show PDS _ _ _ (v8 _));refine CA (pv _)) | ((with_reducible show PDS _ _ _ (v9 _));refine CF S.nd rfl (by walk_at "L")) | ((with_reducible show PDS _ _ (.Assign [_] _ _) (bq _ _));refine pd_asg ?_ ?_))
local macro_rules | `(tactic| walk_at "qSX")=>`(tactic| first | ((with_reducible show SX _ _ _ (aI _));refine mf (pv _)) | ((with_reducible show SX _ _ _ (sAt _ _ _));refine sx_at ?_ cT.nn cT.cl (cT.na _ (by decide))) | ((with_reducible show SX _ _ _ (gl _));refine qL ?_) | ((with_reducible show SX _ _ _ (sIx _ _));refine sx_ix ?_ ?_ (λ_ _=>rfl)) | ((with_reducible show SX _ _ (.Call (.Attribute _ _ _) _ [] _) (lf _ _ _ _ _));refine sx_met (by walk_at "A") (hr.mono (by decide)) rfl ?_ ?_) | ((with_reducible show SX _ _ (.Call (.Attribute _ _ _) [] [] _) (lf _ _ _ _ iP));refine Br (by walk_at "A") (hr.mono (by decide)) ?_) | ((with_reducible show SX _ _ _ (og _ _));refine Bt (by walk_at "A") (hr.mono (by decide)) rfl rfl ?_) | ((with_reducible show SX _ _ _ (wW _));refine sx_lst ?_) | ((with_reducible show SX _ _ _ (wV _));refine sx_pop ?_) | ((with_reducible show SX _ _ _ (yG _ _));refine sx_ext ?_ ?_) | ((with_reducible show SX _ _ _ (wU _ _));refine sx_rem ?_ ?_) | ((with_reducible show SX _ _ _ (wY _ _));refine sx_app ?_ ?_) | ((with_reducible show SX _ _ _ (gW _));refine nU ?_) | ((with_reducible show SX _ _ _ (sMk _ _ _));refine sx_mk (by walk_at "A") (hr.mono (by decide)) rfl rfl ?_) | ((with_reducible show SX _ _ _ (bN _));refine qK ?_) | ((with_reducible show SX _ _ _ (br _));refine yq ?_) | ((with_reducible show SX _ _ _ (sD _));refine Bs ?_))
local macro_rules | `(tactic| walk_at "qPDT")=>`(tactic| first | ((with_reducible show PDT _ _ _ (dB (d2 _ _ _)));refine Cn (by walk_at "o") ?_ ?_ (zM _)) | ((with_reducible show PDT _ _ _ (nj _));refine Cl ?_) | ((with_reducible show PDT _ _ _ (dTr _));refine pdt_tr ?_) | ((with_reducible show PDT _ _ _ (dB (t6 _ _)));refine Cj (v5 hr) (pv _) ?_) | ((with_reducible show PDT _ _ _ (dB _));refine Ci ?_) | ((with_reducible show PDT _ _ (.BoolOp _ _ _) _);refine PDW.t ?_))
local macro_rules | `(tactic| walk_at "qSSs")=>`(tactic| first | ((with_reducible show SSs _ _ _ (bo _ _));refine aU ?_ ?_) | ((with_reducible show SSs _ _ _ jv);refine vx) | ((with_reducible show SSs _ _ _ _);refine qO ?_))
local macro_rules | `(tactic| walk_at "qSS")=>`(tactic| first | ((with_reducible show SS _ _ _ (cF _ _));refine uk S.nd rfl (by walk_at "L") ?_) | ((with_reducible show SS _ _ _ (il _));refine BD ?_) | ((with_reducible show SS _ _ _ (dL _ _ _ _));refine ik ?_ ?_ cT.nn cT.cl (cT.na _ (by decide))) | ((with_reducible show SS _ _ _ (sIf _ _ _));refine ss_if ?_ ?_ ?_) | ((with_reducible show SS _ _ _ (sC _));refine ss_ret ?_) | ((with_reducible show SS _ _ _ (ju _ _ _));refine By ?_ ?_ ?_) | ((with_reducible show SS _ _ _ (gX false _ _ _));refine yx PassesOwn.never rfl ?_ ?_ ?_) | ((with_reducible show SS _ _ _ (df _ _));refine yv PassesOwn.never ?_ ?_) | ((with_reducible show SS _ _ _ (oi _ _ _ _));refine BF ip_add ?_ ?_ ?_) | ((with_reducible show SS _ _ _ (pS _ _ _));refine Bz (pv _) ?_ ?_) | ((with_reducible show SS _ _ _ (pU _ _));refine BB S.nd rfl (by walk_at "L") ?_) | ((with_reducible show SS _ _ _ (sE _ _ _));refine BC PassesOwn.never rfl rfl (by assumption) ?_ ?_ ?_) | ((with_reducible show SS _ _ _ (gX true _ _ _));refine yw PassesOwn.never rfl rfl (by assumption) ?_ ?_ ?_) | ((with_reducible show SS _ _ _ (wX _ _ _));refine yz PassesOwn.never rfl ?_ ?_ ?_) | ((with_reducible show SS _ _ _ (oe _));refine vy ?_) | ((with_reducible show SS _ _ _ (pT _));refine BA ?_))
local macro_rules | `(tactic| walk_at "qPDN")=>`(tactic| first | ((with_reducible show PDN _ _ _ (cj _));refine vO ?_) | ((with_reducible show PDN _ _ _ (jB _ _));refine nA ?_ ?_) | ((with_reducible show PDN _ _ _ (rp _ _));refine Cs ?_ ?_) | ((with_reducible show PDN _ _ _ (nF _));refine Ct ?_) | ((with_reducible show PDN _ _ _ (qc _));refine zm rfl rfl (by assumption) ?_) | ((with_reducible show PDN _ _ _ (kO _));refine xf rfl rfl rfl rfl (by assumption) rfl (by assumption) ?_))
local macro_rules | `(tactic| walk_at "qPDG")=>`(tactic| first | ((with_reducible show PDG _ _ (tgN _));refine bQ (cb S.nd rfl (by walk_at "L"))) | ((with_reducible show PDG _ (.Tuple _ _ _) (dk _ _));refine qW rfl ?_))
local macro_rules | `(tactic| walk_at "qSA")=>`(tactic| first | ((with_reducible show SA _ _ _ (bZ _ _));refine BM ?_ ?_) | ((with_reducible show SA _ _ _ iP);refine sa_nil))
local macro_rules | `(tactic| walk_at "qPDGs")=>`(tactic| first | ((with_reducible show vk _ _ (aR _ _));refine ip ?_ ?_) | ((with_reducible show vk _ [] dm);refine oB))
local macro_rules | `(tactic| walk_at "qPDSsF")=>`(tactic| first | ((with_reducible show gU _ _ _ (dS _ _));refine xc ?_ ?_) | ((with_reducible show gU _ _ _ (ck _));refine zh ?_) | ((with_reducible show gU _ _ _ (oZ _));refine xb (pv _)) | ((with_reducible show gU _ _ _ (xD _ _ _));refine Co ?_ ?_ ?_))
local macro_rules | `(tactic| walk_at "qSGT")=>`(tactic| first | ((with_reducible show SGT _ _ (agN _));refine BJ (cb S.nd rfl (by walk_at "L"))) | ((with_reducible show SGT _ (.Tuple _ _ _) (mW _ _));refine sg_tup rfl ?_))
local macro_rules | `(tactic| walk_at "qPDW")=>`(tactic| first | ((with_reducible show PDW _ _ _ (dOr _ _));refine pdw_or ?_ ?_) | ((with_reducible show PDW _ _ _ (jT _ _));refine Cg ?_ ?_) | ((with_reducible show PDW _ _ (.BoolOp .And [_] _) _);refine zf ?_) | ((with_reducible show PDW _ _ (.BoolOp .Or [_] _) _);refine Cf ?_))
local macro_rules | `(tactic| walk_at "qPDI")=>`(tactic| first | ((with_reducible show PDI _ _ (.Tuple _ _ _) (.Call (.Name "enumerate" _) [_] [] _) (jm _));refine zt rfl (by assumption) ?_) | ((with_reducible show PDI _ _ _ _ (iF _));refine nB ?_) | ((with_reducible show PDI _ _ _ (.Call (.Name "range" _) [_] [] _) (jo fJ _));refine zq rfl (by assumption) ?_) | ((with_reducible show PDI _ _ _ (.Call (.Name "range" _) [_,_] [] _) (jo w6 _));refine zo rfl (by assumption) ?_) | ((with_reducible show PDI _ _ (.Tuple _ _ _) (.Call (.Name "enumerate" _) [_] [⟨some _,_,_⟩] _) (pf _ _));refine xg rfl (by assumption) ?_ ?_))
local macro_rules | `(tactic| walk_at "qPDO")=>`(tactic| first | ((with_reducible show PDO _ _ _ (kG _));refine zk ?_) | ((with_reducible show PDO _ _ _ jc);refine zl))
local macro_rules | `(tactic| walk_at "qPDF")=>`(tactic| first | ((with_reducible show PDF _ _ _ (dNF _));refine Cy ?_) | ((with_reducible show PDF _ _ _ (aG _ _));refine zu (by walk_at "A") (hr.mono (by decide)) rfl rfl ?_) | ((with_reducible show PDF _ _ _ (dMe _ _ _ _ _));refine xh (by walk_at "A") (hr.mono (by decide)) rfl ?_ ?_))
local macro_rules | `(tactic| walk_at "qSGTs")=>`(tactic| first | ((with_reducible show vj _ _ (et _ _));refine yE ?_ ?_) | ((with_reducible show vj _ [] mX);refine BI))
local macro_rules | `(tactic| walk_at "qST")=>`(tactic| first | ((with_reducible show ST _ _ _ (iO _));refine yu ?_) | ((with_reducible show ST _ _ _ (gK _));refine Bx ?_))
local macro_rules | `(tactic| walk_at "qPDTs")=>`(tactic| first | ((with_reducible show pJ _ [_] _);refine zg ?_))
local macro_rules | `(tactic| walk_at "q")=>`(tactic| repeat' first | ((with_reducible show PD _ _ _ _);walk_at "qPD") | ((with_reducible show PDA _ _ _ _);walk_at "qPDA") | ((with_reducible show jf _ _ _ _);walk_at "qPDSs") | ((with_reducible show PDS _ _ _ _);walk_at "qPDS") | ((with_reducible show SX _ _ _ _);walk_at "qSX") | ((with_reducible show PDT _ _ _ _);walk_at "qPDT") | ((with_reducible show SS _ _ _ _);walk_at "qSS") | ((with_reducible show SSs _ _ _ _);walk_at "qSSs") | ((with_reducible show PDN _ _ _ _);walk_at "qPDN") | ((with_reducible show PDG _ _ _);walk_at "qPDG") | ((with_reducible show PDW _ _ _ _);walk_at "qPDW") | ((with_reducible show gU _ _ _ _);walk_at "qPDSsF") | ((with_reducible show PDI _ _ _ _ _);walk_at "qPDI") | ((with_reducible show SA _ _ _ _);walk_at "qSA") | ((with_reducible show vk _ _ _);walk_at "qPDGs") | ((with_reducible show SGT _ _ _);walk_at "qSGT") | ((with_reducible show PDO _ _ _ _);walk_at "qPDO") | ((with_reducible show PDF _ _ _ _);walk_at "qPDF") | ((with_reducible show ST _ _ _ _);walk_at "qST") | ((with_reducible show vj _ _ _);walk_at "qSGTs") | ((with_reducible show pJ _ _ _);walk_at "qPDTs"))
local macro_rules | `(tactic| walk_at "D0")=>`(tactic| refine def_of F0 S hm (F0.binds (by walk_at "B")) λcdv A outer s H E hr=>?_)
local macro_rules | `(tactic| walk_at "D1")=>`(tactic| refine⟨C_Tree,_,_,_,cT.nn,m_Tree,⟨mk,hM.1,hM.2,kc⟩,SL.uU F0 S (λcdv A outer s H E hr=>?_),(F0.binds (by walk_at "B"))⟩)
local macro_rules | `(tactic| walk_at "D2")=>`(tactic| refine⟨C_Tree,_,_,_,cT.nn,cT.cl,⟨hM.1,hM.2,F0.kp⟩,uV F0 S (λcdv A outer s H E hr=>?_),(F0.binds (by walk_at "B"))⟩)
local macro_rules | `(tactic| walk_at "D3")=>`(tactic| refine⟨C_Tree,_,_,_,cT.nn,cT.cl,⟨hM.1,hM.2,F0.kp⟩,SL.uU F0 S (λcdv A outer s H E hr=>?_),(F0.binds (by walk_at "B"))⟩)
local macro_rules | `(tactic| walk_at "D4")=>`(tactic| refine⟨C_Tree,_,_,_,cT.nn,cT.cl,⟨hM.1,hM.2,F0.kp⟩,wb F0 S (λcdv A outer s H E hr=>?_),(F0.binds (by walk_at "B"))⟩)
local macro_rules | `(tactic| walk_at "D5")=>`(tactic| refine wF F0 S hm (F0.binds (by walk_at "B")) λcdv A outer s H E hr=>?_)
local macro_rules | `(tactic| walk_at "D6")=>`(tactic| refine wF F0 S hm (F0.binds λ_ _ _ _ _ _ us hl=>match us,hl with | [_,_,_,_,_],_=>rfl) λcdv A outer s H E hr=>?_)
local macro_rules | `(tactic| walk_at "D7")=>`(tactic| refine A7 F0 S hm (F0.bindsT hT rfl λ_ _ _ _ _ _ us hl=>match us,hl with | [_,_,_,_],_=>⟨_,rfl,rfl⟩) (F0.bindsZ (d:=.int 0 tk) hT rfl λ_ _ _ _ _ _ us hl=>match us,hl with | [_,_,_],_=>⟨_,rfl,rfl⟩) rfl λcdv A outer s H E hr=>?_)
local macro_rules | `(tactic| walk_at "D8")=>`(tactic| refine SL.DG F0 S hm (F0.binds (by walk_at "B")) λcdv A outer s H E hr=>?_)
local macro_rules | `(tactic| walk_at "D9")=>`(tactic| refine uV F0 S λcdv A outer s H E hr=>?_)
section
variable(P:Program)(w:World){K:ε}{mg:Str->Option Value}(base:Heap){f:Addr}{fd:FuncData}
theorem cU(F0:Fun K "must_be_kept" "must_be_kept" (top 5) f fd)(hm:mg "must_be_kept" = some (.ref f)):Def P w K mg base 1 "must_be_kept" 1 bj:=by
 have S:FnScope ["rule"] ["rule"] (ai (top 5)):=by walk_at "S"
 walk_at "D0";unfold jF;walk_at "q"
theorem f6(F0:Fun K "first_flow" "first_flow" (top 19) f fd)(hm:mg "first_flow" = some (.ref f)):Def P w K mg base 1 "first_flow" 1 eE:=by
 have S:FnScope ["rule"] ["rule"] (ai (top 19)):=by walk_at "S"
 walk_at "D0";unfold lE;walk_at "q"
variable{C_Tree:Addr}
variable(m_Tree:mg "Tree" = some (.ref C_Tree))
variable(cT:ClsT_Tree K C_Tree)
variable(cU:Def P w K mg base 1 "must_be_kept" 1 bj)
variable(f6:Def P w K mg base 1 "first_flow" 1 eE)
variable(z_len:mg "len" = none)
variable(z_sum:mg "sum" = none)
variable(z_list:mg "list" = none)
variable(z_enumerate:mg "enumerate" = none)
variable(z_range:mg "range" = none)
include m_Tree cT cU f6 z_len z_sum z_list z_enumerate z_range in
theorem fW(F0:Fun K "__init__" "Tree.__init__" (mth (top 18) 0) f fd)(hM:jp K C_Tree "__init__" f)(mk:PySem.W.makesIn K C_Tree=true)(kc:Y7 K (.ref C_Tree)=true):SL.MkS P w K mg base 2 "Tree" 3 gi:=by
 have S:FnScope ["self", "times", "rules", "root", "total"] ["self", "times", "rules"] (ai (mth (top 18) 0)):=by walk_at "S"
 walk_at "D1";unfold jN;exact aU (by walk_at "q") (aU (uk (i:=4) S.nd rfl (by walk_at "L") (qK (sR (o9 rfl) rfl z_sum PyProof.Rows.boot_sum (fG (gn (fr:=[]) (tn:=["rule"]) rfl rfl (by decide +kernel) (by rfl) qN (dv (by rfl)) gA (by decide +kernel) (nB (jy (pv 2))) (λC s3 H3 fp=>(bQ (cb (i:=0) (show(["rule"]:List Str).Nodup from by decide +kernel) rfl (by walk_at "L")))) (λC s3 H3 fp=>(by walk_at "q")) (λC s3 H3 fp=>(by walk_at "q"))) jZ)))) (aU (by walk_at "q") (aU (ik (mf (pv 0)) (qK (zy (nA (by walk_at "q") (gn (fr:=[(3, "root")]) (tn:=["point", "moment"]) rfl rfl (by decide +kernel) (by rfl) (qM (n := "root") (by rfl)) (dv (by rfl)) (fS rfl rfl rfl ⟨_,rfl⟩ gA) (by decide +kernel) (by walk_at "q") (λC s3 H3 fp=>(qW rfl (ip (bQ (cb (i:=0) (show(["point", "moment", "root"]:List Str).Nodup from by decide +kernel) rfl (by walk_at "L"))) (ip (bQ (cb (i:=1) (show(["point", "moment", "root"]:List Str).Nodup from by decide +kernel) rfl (by walk_at "L"))) oB)))) (λC s3 H3 fp=>cN) (λC s3 H3 fp=>(by walk_at "q")))))) cT.nn cT.cl (cT.na _ (by decide))) (aU (ik (mf (pv 0)) (nU (p7 (fr:=[(4, "total")]) (tn:=["rule"]) rfl rfl (by decide +kernel) (by rfl) (qM (n := "total") (by rfl)) (dv (by rfl)) (fS rfl rfl rfl ⟨_,rfl⟩ gA) (by decide +kernel) (by walk_at "q") (λC s3 H3 fp=>(bQ (cb (i:=0) (show(["rule", "total"]:List Str).Nodup from by decide +kernel) rfl (by walk_at "L")))) (λC s3 H3 fp=>cN) (λC s3 H3 fp=>(by walk_at "q")))) cT.nn cT.cl (cT.na _ (by decide))) (aU (ik (mf (pv 0)) (nU (p7 (fr:=[]) (tn:=["rule"]) rfl rfl (by decide +kernel) (by rfl) qN (dv (by rfl)) gA (by decide +kernel) (by walk_at "q") (λC s3 H3 fp=>(bQ (cb (i:=0) (show(["rule"]:List Str).Nodup from by decide +kernel) rfl (by walk_at "L")))) (λC s3 H3 fp=>cN) (λC s3 H3 fp=>(by walk_at "q")))) cT.nn cT.cl (cT.na _ (by decide))) (aU (by walk_at "q") (aU (by walk_at "q") (aU (ik (mf (pv 0)) (sx_cat (yr (x := "point") rfl rfl (by decide +kernel) (by rfl) qN (dv (by rfl)) (by decide +kernel) (by walk_at "q") (λC s3 H3 fp=>(bQ (cb (i:=0) (show(["point"]:List Str).Nodup from by decide +kernel) rfl (by walk_at "L")))) (λC s3 H3 fp=>cN) (λC s3 H3 fp=>(vO jZ))) (by walk_at "q")) cT.nn cT.cl (cT.na _ (by decide))) (aU (ik (mf (pv 0)) (qL (nA (gn (fr:=[(0, "self")]) (tn:=["point"]) rfl rfl (by decide +kernel) (by rfl) (qM (n := "self") (by rfl)) (dv (by rfl)) (fS rfl rfl rfl ⟨_,rfl⟩ gA) (by decide +kernel) (by walk_at "q") (λC s3 H3 fp=>(bQ (cb (i:=0) (show(["point", "self"]:List Str).Nodup from by decide +kernel) rfl (by walk_at "L")))) (λC s3 H3 fp=>cN) (λC s3 H3 fp=>(by walk_at "q"))) (by walk_at "q"))) cT.nn cT.cl (cT.na _ (by decide))) (by walk_at "q"))))))))))
include m_Tree cT in
theorem fv(F0:Fun K "timing" "Tree.timing" (mth (top 18) 1) f fd)(hM:jp K C_Tree "timing" f):DefM P w K mg base 1 "Tree" "timing" 1 fA:=by
 have S:FnScope ["self"] ["self"] (ai (mth (top 18) 1)):=by walk_at "S"
 walk_at "D2";unfold hG;exact qV (uA (gn (fr:=[(0, "self")]) (tn:=["moment"]) rfl rfl (by decide +kernel) (by rfl) (λ_ _ h=>h) (dv (by rfl)) (fS rfl rfl rfl ⟨_,rfl⟩ gA) (by decide +kernel) (by walk_at "q") (λC s3 H3 fp=>(bQ (cb (i:=0) (show(["moment", "self"]:List Str).Nodup from by decide +kernel) rfl (by walk_at "L")))) (λC s3 H3 fp=>cN) (λC s3 H3 fp=>(by walk_at "q"))))
include m_Tree cT in
theorem b7(F0:Fun K "flow_of_rules" "Tree.flow_of_rules" (mth (top 18) 2) f fd)(hM:jp K C_Tree "flow_of_rules" f):DefM P w K mg base 1 "Tree" "flow_of_rules" 1 bI:=by
 have S:FnScope ["self"] ["self"] (ai (mth (top 18) 2)):=by walk_at "S"
 walk_at "D2";unfold fI;walk_at "q"
include m_Tree cT in
theorem cp(F0:Fun K "lack_of" "Tree.lack_of" (mth (top 18) 7) f fd)(hM:jp K C_Tree "lack_of" f):DefM P w K mg base 1 "Tree" "lack_of" 2 bU:=by
 have S:FnScope ["self", "number", "rule"] ["self", "number"] (ai (mth (top 18) 7)):=by walk_at "S"
 walk_at "D2";unfold jM;walk_at "q"
include m_Tree cT in
theorem dD(F0:Fun K "is_wrong" "Tree.is_wrong" (mth (top 18) 6) f fd)(hM:jp K C_Tree "is_wrong" f):DefM P w K mg base 1 "Tree" "is_wrong" 3 cC:=by
 have S:FnScope ["self", "number", "lack"] ["self", "number", "lack"] (ai (mth (top 18) 6)):=by walk_at "S"
 walk_at "D2";unfold jj;walk_at "q"
variable(cp:DefM P w K mg base 1 "Tree" "lack_of" 2 bU)
variable(dD:DefM P w K mg base 1 "Tree" "is_wrong" 3 cC)
variable(z_abs:mg "abs" = none)
include m_Tree cT z_range cp dD z_abs in
theorem cJ(F0:Fun K "worst_rule" "Tree.worst_rule" (mth (top 18) 5) f fd)(hM:jp K C_Tree "worst_rule" f):DefM P w K mg base 2 "Tree" "worst_rule" 3 cL:=by
 have S:FnScope ["self", "begin", "end", "worst", "most", "number", "lack"] ["self", "begin", "end"] (ai (mth (top 18) 5)):=by walk_at "S"
 walk_at "D2";unfold gM bK;walk_at "q"
variable{t_STRIDE:Tok}
variable(m_STRIDE:mg "STRIDE" = some (.int 50 t_STRIDE))
variable(cJ:DefM P w K mg base 2 "Tree" "worst_rule" 3 cL)
variable(z_min:mg "min" = none)
include m_Tree cT z_range m_STRIDE cJ z_min in
theorem cA(F0:Fun K "wrong_rule" "Tree.wrong_rule" (mth (top 18) 4) f fd)(hM:jp K C_Tree "wrong_rule" f):SL.DefSM P w K mg base 3 "Tree" "wrong_rule" 1 bV:=by
 have S:FnScope ["self", "stride", "end", "worst"] ["self"] (ai (mth (top 18) 4)):=by walk_at "S"
 walk_at "D3";unfold gL cg;walk_at "q"
include m_Tree cT in
theorem d5(F0:Fun K "meeting" "Tree.meeting" (mth (top 18) 9) f fd)(hM:jp K C_Tree "meeting" f):DefM P w K mg base 1 "Tree" "meeting" 3 eJ:=by
 have S:FnScope ["self", "one", "other"] ["self", "one", "other"] (ai (mth (top 18) 9)):=by walk_at "S"
 walk_at "D2";unfold jL eX;walk_at "q"
include m_Tree cT in
theorem jb(F0:Fun K "way" "Tree.way" (mth (top 18) 10) f fd)(hM:jp K C_Tree "way" f):DefM P w K mg base 1 "Tree" "way" 3 gG:=by
 have S:FnScope ["self", "point", "top", "points"] ["self", "point", "top"] (ai (mth (top 18) 10)):=by walk_at "S"
 walk_at "D2";unfold oX jd;walk_at "q"
include m_Tree cT in
theorem c7(F0:Fun K "step_down" "Tree.step_down" (mth (top 18) 11) f fd)(hM:jp K C_Tree "step_down" f):DefM P w K mg base 1 "Tree" "step_down" 2 cx:=by
 have S:FnScope ["self", "point"] ["self", "point"] (ai (mth (top 18) 11)):=by walk_at "S"
 walk_at "D2";unfold iA;walk_at "q"
include m_Tree cT in
theorem d4(F0:Fun K "step_up" "Tree.step_up" (mth (top 18) 12) f fd)(hM:jp K C_Tree "step_up" f):DefM P w K mg base 1 "Tree" "step_up" 2 cZ:=by
 have S:FnScope ["self", "point"] ["self", "point"] (ai (mth (top 18) 12)):=by walk_at "S"
 walk_at "D2";unfold jJ;walk_at "q"
include m_Tree cT in
theorem gT(F0:Fun K "room" "Tree.room" (mth (top 18) 13) f fd)(hM:jp K C_Tree "room" f):DefM P w K mg base 1 "Tree" "room" 2 c6:=by
 have S:FnScope ["self", "step", "number"] ["self", "step"] (ai (mth (top 18) 13)):=by walk_at "S"
 walk_at "D2";unfold mQ;walk_at "q"
include m_Tree cT in
theorem dZ(F0:Fun K "way" "Tree.way" (mth (top 18) 10) f fd)(hM:jp K C_Tree "way" f):DefFM P w K mg base 1 "Tree" "way" 3 eI:=by
 have S:FnScope ["self", "point", "top", "points"] ["self", "point", "top"] (ai (mth (top 18) 10)):=by walk_at "S"
 walk_at "D4";unfold jI eW;walk_at "q"
include m_Tree cT in
theorem fj(F0:Fun K "shift" "Tree.shift" (mth (top 18) 15) f fd)(hM:jp K C_Tree "shift" f):SL.DefSM P w K mg base 1 "Tree" "shift" 3 fC:=by
 have S:FnScope ["self", "point", "lack", "points"] ["self", "point", "lack"] (ai (mth (top 18) 15)):=by walk_at "S"
 walk_at "D3";unfold lK cW;walk_at "q"
variable(dZ:DefFM P w K mg base 1 "Tree" "way" 3 eI)
variable(fj:SL.DefSM P w K mg base 1 "Tree" "shift" 3 fC)
include m_Tree cT z_enumerate cp dZ fj in
theorem fX(F0:Fun K "hang" "Tree.hang" (mth (top 18) 14) f fd)(hM:jp K C_Tree "hang" f):SL.DefSM P w K mg base 2 "Tree" "hang" 4 c9:=by
 have S:FnScope ["self", "leaving", "inner", "number", "rule", "lack", "points", "hooks", "over", "place", "point"] ["self", "leaving", "inner", "number"] (ai (mth (top 18) 14)):=by walk_at "S"
 walk_at "D3";unfold jO b9;exact aU (by walk_at "q") (aU (by walk_at "q") (aU (by walk_at "q") (aU (uk (i:=7) S.nd rfl (by walk_at "L") (qL (nA (by walk_at "q") (gn (fr:=[(0, "self")]) (tn:=["point"]) rfl rfl (by decide +kernel) (by rfl) (λ_ _ h=>h) (dv (by rfl)) (fS rfl rfl rfl ⟨_,rfl⟩ gA) (by decide +kernel) (nB (jy (pv 6))) (λC s3 H3 fp=>(bQ (cb (i:=0) (show(["point", "self"]:List Str).Nodup from by decide +kernel) rfl (by walk_at "L")))) (λC s3 H3 fp=>cN) (λC s3 H3 fp=>(by walk_at "q")))))) (by walk_at "q"))))
variable(d5:DefM P w K mg base 1 "Tree" "meeting" 3 eJ)
variable(jb:DefM P w K mg base 1 "Tree" "way" 3 gG)
variable(c7:DefM P w K mg base 1 "Tree" "step_down" 2 cx)
variable(d4:DefM P w K mg base 1 "Tree" "step_up" 2 cZ)
variable(gT:DefM P w K mg base 1 "Tree" "room" 2 c6)
variable(fX:SL.DefSM P w K mg base 2 "Tree" "hang" 4 c9)
include m_Tree cT cp d5 jb c7 d4 gT fX in
theorem fV(F0:Fun K "mend" "Tree.mend" (mth (top 18) 8) f fd)(hM:jp K C_Tree "mend" f):SL.DefSM P w K mg base 3 "Tree" "mend" 2 gh:=by
 have S:FnScope ["self", "number", "rule", "more", "tail", "head", "top", "down", "up", "amount", "leaving", "step"] ["self", "number"] (ai (mth (top 18) 8)):=by walk_at "S"
 walk_at "D3";unfold jK fy ia ib;exact aU (by walk_at "q") (aU (by walk_at "q") (aU (by walk_at "q") (aU (by walk_at "q") (aU (by walk_at "q") (aU (pQ (iy:=7) (fr:=[(0, "self")]) (tn:=["point"]) rfl rfl (by decide +kernel) (by rfl) (λ_ _ h=>h) (dv (by rfl)) (fS rfl rfl rfl ⟨_,rfl⟩ gA) (by decide +kernel) (by walk_at "q") (λC s3 H3 fp=>(bQ (cb (i:=0) (show(["point", "self"]:List Str).Nodup from by decide +kernel) rfl (by walk_at "L")))) (λC s3 H3 fp=>cN) (λC s3 H3 fp=>(by walk_at "q")) S.nd rfl (by walk_at "L")) (aU (pQ (iy:=8) (fr:=[(0, "self")]) (tn:=["point"]) rfl rfl (by decide +kernel) (by rfl) (λ_ _ h=>h) (dv (by rfl)) (fS rfl rfl rfl ⟨_,rfl⟩ gA) (by decide +kernel) (by walk_at "q") (λC s3 H3 fp=>(bQ (cb (i:=0) (show(["point", "self"]:List Str).Nodup from by decide +kernel) rfl (by walk_at "L")))) (λC s3 H3 fp=>cN) (λC s3 H3 fp=>(by walk_at "q")) S.nd rfl (by walk_at "L")) (by walk_at "q")))))))
variable(cA:SL.DefSM P w K mg base 3 "Tree" "wrong_rule" 1 bV)
variable(fV:SL.DefSM P w K mg base 3 "Tree" "mend" 2 gh)
include m_Tree cT cA fV in
theorem dU(F0:Fun K "settle" "Tree.settle" (mth (top 18) 3) f fd)(hM:jp K C_Tree "settle" f):SL.DefSM P w K mg base 4 "Tree" "settle" 1 eK:=by
 have S:FnScope ["self", "number"] ["self"] (ai (mth (top 18) 3)):=by walk_at "S"
 walk_at "D3";unfold kE dE;walk_at "q"
theorem bO(F0:Fun K "begin_point" "begin_point" (top 6) f fd)(hm:mg "begin_point" = some (.ref f)):Def P w K mg base 1 "begin_point" 1 aT:=by
 have S:FnScope ["number"] ["number"] (ai (top 6)):=by walk_at "S"
 walk_at "D0";unfold kD;walk_at "q"
theorem cy(F0:Fun K "end_point" "end_point" (top 7) f fd)(hm:mg "end_point" = some (.ref f)):Def P w K mg base 1 "end_point" 1 bP:=by
 have S:FnScope ["number"] ["number"] (ai (top 7)):=by walk_at "S"
 walk_at "D0";unfold mO;walk_at "q"
variable(bO:Def P w K mg base 1 "begin_point" 1 aT)
variable(cy:Def P w K mg base 1 "end_point" 1 bP)
variable(z_max:mg "max" = none)
include z_len bO cy z_max in
theorem fm(F0:Fun K "rules_alone" "rules_alone" (top 8) f fd)(hm:mg "rules_alone" = some (.ref f)):DefF P w K mg base 2 "rules_alone" 3 dr:=by
 have S:FnScope ["settings", "cue", "number", "begin", "end", "length"] ["settings", "cue", "number"] (ai (top 8)):=by walk_at "S"
 walk_at "D5";unfold kB;walk_at "q"
include bO cy in
theorem lR(F0:Fun K "wishes" "wishes" (top 9) f fd)(hm:mg "wishes" = some (.ref f)):DefF P w K mg base 2 "wishes" 3 jU:=by
 have S:FnScope ["settings", "cue", "number", "begin", "end", "why"] ["settings", "cue", "number"] (ai (top 9)):=by walk_at "S"
 walk_at "D5";unfold tS;walk_at "q"
include z_len z_range bO cy in
theorem dX(F0:Fun K "rules_behind" "rules_behind" (top 10) f fd)(hm:mg "rules_behind" = some (.ref f)):DefF P w K mg base 2 "rules_behind" 4 cX:=by
 have S:FnScope ["settings", "cues", "place", "number", "rules", "way", "other"] ["settings", "cues", "place", "number"] (ai (top 10)):=by walk_at "S"
 walk_at "D5";unfold gz iH;walk_at "q"
include bO cy in
theorem dW(F0:Fun K "rules_of_cut" "rules_of_cut" (top 11) f fd)(hm:mg "rules_of_cut" = some (.ref f)):DefF P w K mg base 2 "rules_of_cut" 5 cv:=by
 have S:FnScope ["shy", "cue", "number", "k", "cut", "begin", "end"] ["shy", "cue", "number", "k", "cut"] (ai (top 11)):=by walk_at "S"
 walk_at "D6";unfold jD;walk_at "q"
variable(fm:DefF P w K mg base 2 "rules_alone" 3 dr)
variable(lR:DefF P w K mg base 2 "wishes" 3 jU)
variable(dX:DefF P w K mg base 2 "rules_behind" 4 cX)
variable(dW:DefF P w K mg base 2 "rules_of_cut" 5 cv)
include z_enumerate fm lR dX dW in
theorem kU{T:Addr}{tk:Tok}{tn:Nat}{toc:Value}{tod:Option Addr}{tsl:Array (Option Value)}(F0:FunD K "rules_of" "rules_of" (top 4) f fd (.ref T))(hT:K.lookup T=some ⟨toc,tod,.seq #[.int 0 tk] tn,tsl⟩)(hm:mg "rules_of" = some (.ref f)):Def P w K mg base 3 "rules_of" 4 dN  /\ DefZ P w K mg base 3 "rules_of" 3 0 dN:=by
 have S:FnScope ["settings", "cues", "cuts", "first", "rules", "place", "cue", "number", "k", "cut"] ["settings", "cues", "cuts", "first"] (ai (top 4)):=by walk_at "S"
 walk_at "D7";unfold kR l4 l5;walk_at "q"
variable(z_reversed:mg "reversed" = none)
include z_len z_list z_range z_reversed in
theorem fZ(F0:Fun K "ring_above" "ring_above" (top 15) f fd)(hm:mg "ring_above" = some (.ref f)):Def P w K mg base 1 "ring_above" 3 eC:=by
 have S:FnScope ["rules", "raisers", "point", "step", "ring", "low"] ["rules", "raisers", "point"] (ai (top 15)):=by walk_at "S"
 walk_at "D0";unfold iZ d6 eg;walk_at "q"
include cU z_enumerate in
theorem dw(F0:Fun K "raise_points" "raise_points" (top 14) f fd)(hm:mg "raise_points" = some (.ref f)):SL.DefS P w K mg base 2 "raise_points" 3 cE:=by
 have S:FnScope ["rules", "times", "raisers", "raised", "number", "rule"] ["rules", "times", "raisers"] (ai (top 14)):=by walk_at "S"
 walk_at "D8";unfold jE cu;walk_at "q"
variable(fZ:Def P w K mg base 1 "ring_above" 3 eC)
variable(dw:SL.DefS P w K mg base 2 "raise_points" 3 cE)
include z_range fZ dw in
theorem ja(F0:Fun K "keeping" "keeping" (top 13) f fd)(hm:mg "keeping" = some (.ref f)):SL.DefS P w K mg base 3 "keeping" 2 dO:=by
 have S:FnScope ["many", "rules", "times", "raisers", "walk", "raised"] ["many", "rules"] (ai (top 13)):=by walk_at "S"
 walk_at "D8";unfold qo dP;exact aU (by walk_at "q") (aU (by walk_at "q") (aU (yz PassesOwn.never rfl (by walk_at "q") (by walk_at "q") (aU (by walk_at "q") (qO (ss_if (by walk_at "q") (qO (vy (zx (fG qY (fG (gn (fr:=[(2, "times")]) (tn:=["moment"]) rfl rfl (by decide +kernel) (by rfl) (λ_ _ h=>h) (dv (by rfl)) (fS rfl rfl rfl ⟨_,rfl⟩ gA) (by decide +kernel) (nB (jy (pv 2))) (λC s3 H3 fp=>(bQ (cb (i:=0) (show(["moment", "times"]:List Str).Nodup from by decide +kernel) rfl (by walk_at "L")))) (λC s3 H3 fp=>cN) (λC s3 H3 fp=>(by walk_at "q"))) jZ))))) vx)))) (by walk_at "q")))
variable(fv:DefM P w K mg base 1 "Tree" "timing" 1 fA)
variable(b7:DefM P w K mg base 1 "Tree" "flow_of_rules" 1 bI)
variable(ja:SL.DefS P w K mg base 3 "keeping" 2 dO)
variable(fW:SL.MkS P w K mg base 2 "Tree" 3 gi)
variable(dU:SL.DefSM P w K mg base 4 "Tree" "settle" 1 eK)
include fv b7 ja fW dU in
theorem ni(F0:Fun K "least_timing" "least_timing" (top 21) f fd)(hm:mg "least_timing" = some (.ref f)):SL.DefS P w K mg base 5 "least_timing" 2 dH:=by
 have S:FnScope ["many", "rules", "kept", "tree"] ["many", "rules"] (ai (top 21)):=by walk_at "S"
 walk_at "D8";unfold dR;walk_at "q"
variable(d_least_timing:Def P w K mg base 5 "least_timing" 2 cw)
include d_least_timing in
theorem fq(F0:Fun K "least_times" "least_times" (top 24) f fd)(hm:mg "least_times" = some (.ref f)):Def P w K mg base 6 "least_times" 2 fz:=by
 have S:FnScope ["how_many", "rules", "told"] ["how_many", "rules"] (ai (top 24)):=by walk_at "S"
 walk_at "D0";unfold kC;walk_at "q"
include bO cy in
theorem lS(F0:Fun K "cue_at" "cue_at" (top 26) f fd)(hm:mg "cue_at" = some (.ref f)):Def P w K mg base 2 "cue_at" 3 jV:=by
 have S:FnScope ["times", "cue", "number"] ["times", "cue", "number"] (ai (top 26)):=by walk_at "S"
 walk_at "D0";unfold tT;walk_at "q"
variable(lS:Def P w K mg base 2 "cue_at" 3 jV)
include z_enumerate lS in
theorem ke(F0:Fun K "cues_at" "cues_at" (top 25) f fd)(hm:mg "cues_at" = some (.ref f)):Def P w K mg base 3 "cues_at" 3 iJ:=by
 have S:FnScope ["times", "cues", "first"] ["times", "cues", "first"] (ai (top 25)):=by walk_at "S"
 walk_at "D0";unfold qr;exact qV (uA (gn (fr:=[(0, "times")]) (tn:=["number", "cue"]) rfl rfl (by decide +kernel) (by rfl) (λ_ _ h=>h) (dv (by rfl)) (fS rfl rfl rfl ⟨_,rfl⟩ gA) (by decide +kernel) (by walk_at "q") (λC s3 H3 fp=>(qW rfl (ip (bQ (cb (i:=0) (show(["number", "cue", "times"]:List Str).Nodup from by decide +kernel) rfl (by walk_at "L"))) (ip (bQ (cb (i:=1) (show(["number", "cue", "times"]:List Str).Nodup from by decide +kernel) rfl (by walk_at "L"))) oB)))) (λC s3 H3 fp=>cN) (λC s3 H3 fp=>(by walk_at "q"))))
variable(kU:Def P w K mg base 3 "rules_of" 4 dN)
variable(fq:Def P w K mg base 6 "least_times" 2 fz)
variable(ke:Def P w K mg base 3 "cues_at" 3 iJ)
include z_len kU fq ke in
theorem fY(F0:Fun K "timed_cues" "timed_cues" (top 23) f fd)(hm:mg "timed_cues" = some (.ref f))(dz_rules_of:DefZ P w K mg base 3 "rules_of" 3 0 dN):Def P w K mg base 7 "timed_cues" 3 ge:=by
 have S:FnScope ["settings", "cues", "cuts", "times"] ["settings", "cues", "cuts"] (ai (top 23)):=by walk_at "S"
 walk_at "D0";unfold lC;walk_at "q"
include z_len in
theorem dY(F0:Fun K "_law_cell_at" "_law_cell_at" (top 28) f fd)(hm:mg "_law_cell_at" = some (.ref f)):Def P w K mg base 1 "_law_cell_at" 2 bT:=by
 have S:FnScope ["_law_script", "_law_k"] ["_law_script", "_law_k"] (ai (top 28)):=by walk_at "S"
 walk_at "D0";unfold jH;walk_at "q"
variable(z_isinstance:mg "isinstance" = none)
variable(z_int:mg "int" = none)
variable(z_bool:mg "bool" = none)
include z_isinstance z_int z_bool in
theorem f7(F0:Fun K "_law_whole" "_law_whole" (top 29) f fd)(hm:mg "_law_whole" = some (.ref f)):Def P w K mg base 1 "_law_whole" 1 c8:=by
 have S:FnScope ["_law_found"] ["_law_found"] (ai (top 29)):=by walk_at "S"
 walk_at "D0";unfold lG;walk_at "q"
include z_range in
theorem cV(F0:Fun K "_law_numbers" "_law_numbers" (top 30) f fd)(hm:mg "_law_numbers" = some (.ref f)):Def P w K mg base 1 "_law_numbers" 2 cY:=by
 have S:FnScope ["_law_cell", "_law_many", "_law_found", "_law_number", "_law_k"] ["_law_cell", "_law_many"] (ai (top 30)):=by walk_at "S"
 walk_at "D0";unfold jG eV;walk_at "q"
variable(cV:Def P w K mg base 1 "_law_numbers" 2 cY)
include z_max cV in
theorem dA(F0:Fun K "_law_settings" "_law_settings" (top 31) f fd)(hm:mg "_law_settings" = some (.ref f)):Def P w K mg base 2 "_law_settings" 1 dG:=by
 have S:FnScope ["_law_cell", "_law_some", "_law_told", "_law_need"] ["_law_cell"] (ai (top 31)):=by walk_at "S"
 walk_at "D0";unfold ji;walk_at "q"
include z_len z_max cV in
theorem gS(F0:Fun K "_law_cues" "_law_cues" (top 32) f fd)(hm:mg "_law_cues" = some (.ref f)):Def P w K mg base 2 "_law_cues" 2 gV:=by
 have S:FnScope ["_law_settings_here", "_law_cells", "_law_cues_here", "_law_begin", "_law_cell", "_law_some", "_law_words", "_law_need", "_law_end"] ["_law_settings_here", "_law_cells"] (ai (top 32)):=by walk_at "S"
 walk_at "D0";unfold mP fx;walk_at "q"
include z_len z_enumerate z_range z_min z_max in
theorem gc(F0:Fun K "_law_later" "_law_later" (top 33) f fd)(hm:mg "_law_later" = some (.ref f)):Def P w K mg base 1 "_law_later" 2 gg:=by
 have S:FnScope ["_law_settings_here", "_law_cues_here", "_law_found", "_law_k", "_law_cue", "_law_begin", "_law_j", "_law_need"] ["_law_settings_here", "_law_cues_here"] (ai (top 33)):=by walk_at "S"
 walk_at "D0";unfold lJ eo er;walk_at "q"
include z_enumerate z_abs in
theorem f9(F0:Fun K "_law_moved" "_law_moved" (top 34) f fd)(hm:mg "_law_moved" = some (.ref f)):Def P w K mg base 1 "_law_moved" 3 eG:=by
 have S:FnScope ["_law_settings_here", "_law_cues_here", "_law_others", "_law_total", "_law_k", "_law_cue"] ["_law_settings_here", "_law_cues_here", "_law_others"] (ai (top 34)):=by walk_at "S"
 walk_at "D0";unfold lI el;walk_at "q"
variable(f7:Def P w K mg base 1 "_law_whole" 1 c8)
variable(z_tuple:mg "tuple" = none)
include z_len z_list z_enumerate z_isinstance f7 z_tuple in
theorem f8(F0:Fun K "_law_right" "_law_right" (top 35) f fd)(hm:mg "_law_right" = some (.ref f)):Def P w K mg base 2 "_law_right" 3 gf:=by
 have S:FnScope ["_law_settings_here", "_law_cues_here", "_law_found", "_law_ends", "_law_last", "_law_k", "_law_cue", "_law_begin", "_law_end", "_law_hand", "_law_words"] ["_law_settings_here", "_law_cues_here", "_law_found"] (ai (top 35)):=by walk_at "S"
 walk_at "D0";unfold lH eh;walk_at "q"
variable(dY:Def P w K mg base 1 "_law_cell_at" 2 bT)
variable(dA:Def P w K mg base 2 "_law_settings" 1 dG)
variable(gS:Def P w K mg base 2 "_law_cues" 2 gV)
variable(fY:Def P w K mg base 7 "timed_cues" 3 ge)
variable(f8:Def P w K mg base 2 "_law_right" 3 gf)
variable(f9:Def P w K mg base 1 "_law_moved" 3 eG)
variable(gc:Def P w K mg base 1 "_law_later" 2 gg)
variable(z_dict:mg "dict" = none)
include z_list dY dA gS fY f8 f9 gc z_dict in
theorem fn_law(F0:Fun K "law" "law" (top 36) f fd):FnOk P w K mg base CX0 8 f fd ["_law_script"] (spD K 1 wO):=by
 have S:FnScope ["_law_script", "_law_settings_here", "_law_cues_here", "_law_handed", "_law_found"] ["_law_script"] (ai (top 36)):=by walk_at "S"
 walk_at "D9";unfold Ay;walk_at "q"
end
theorem all_mk{l:PySem.W.OpenLaw}{w:World}{K:ε}{h:Heap}{mg:Str->Option Value}{fa f25 f42:Addr}(X:K.In h)(G:h.Ns mainGlobals mg)(hfa:mg "law" = some (.ref fa))
  {od25 an25 od42 an42:Option Addr} {sl25 sl42:Array (Option Value)} {oc25 kV25 dc25 pm25 cd25 ct25 oc42 kV42 dc42 pm42 cd42 ct42:Value}
  (a0:Fu K "must_be_kept" (top 5))
  (a1:Fu K "first_flow" (top 19))
  (a19:Fu K "begin_point" (top 6))
  (a20:Fu K "end_point" (top 7))
  (a21:Fu K "rules_alone" (top 8))
  (a22:Fu K "wishes" (top 9))
  (a23:Fu K "rules_behind" (top 10))
  (a24:Fu K "rules_of_cut" (top 11))
  {T25:Addr} {tt25:Tok} {tn25:Nat} {toc25:Value} {tod25:Option Addr} {tsl25:Array (Option Value)} (a25:Ξ K mainGlobals "rules_of" = some (some (.ref f25))) (l25:K.lookup f25=some ⟨oc25,od25,.func (X6 "rules_of" "rules_of" (dz (top 4)) (bC (top 4)) (ai (top 4)) (.ref T25) kV25 dc25 pm25 an25 cd25 ct25),sl25⟩) (c25:U1 K cd25 "rules_of" = true) (k25:Y7 K (.ref f25)=true) (t25:K.lookup T25=some ⟨toc25,tod25,.seq #[.int 0 tt25] tn25,tsl25⟩)
  (a26:Fu K "ring_above" (top 15))
  (a27:Fu K "raise_points" (top 14))
  (a28:Fu K "keeping" (top 13))
  (a29:Fu K "least_timing" (top 21))
  (a30:Fu K "least_times" (top 24))
  (a31:Fu K "cue_at" (top 26))
  (a32:Fu K "cues_at" (top 25))
  (a33:Fu K "timed_cues" (top 23))
  (a34:Fu K "_law_cell_at" (top 28))
  (a35:Fu K "_law_whole" (top 29))
  (a36:Fu K "_law_numbers" (top 30))
  (a37:Fu K "_law_settings" (top 31))
  (a38:Fu K "_law_cues" (top 32))
  (a39:Fu K "_law_later" (top 33))
  (a40:Fu K "_law_moved" (top 34))
  (a41:Fu K "_law_right" (top 35))
  (a42:Ξ K mainGlobals "law" = some (some (.ref f42))) (l42:K.lookup f42=some ⟨oc42,od42,.func (X6 "law" "law" (dz (top 36)) (bC (top 36)) (ai (top 36)) .none kV42 dc42 pm42 an42 cd42 ct42),sl42⟩) (c42:U1 K cd42 "law" = true) (k42:Y7 K (.ref f42)=true)
  (z_len:Ξ K mainGlobals "len" = some none)
  (z_sum:Ξ K mainGlobals "sum" = some none)
  (z_list:Ξ K mainGlobals "list" = some none)
  (z_enumerate:Ξ K mainGlobals "enumerate" = some none)
  (z_range:Ξ K mainGlobals "range" = some none)
  (z_abs:Ξ K mainGlobals "abs" = some none)
  (z_min:Ξ K mainGlobals "min" = some none)
  (z_max:Ξ K mainGlobals "max" = some none)
  (z_reversed:Ξ K mainGlobals "reversed" = some none)
  (z_isinstance:Ξ K mainGlobals "isinstance" = some none)
  (z_int:Ξ K mainGlobals "int" = some none)
  (z_bool:Ξ K mainGlobals "bool" = some none)
  (z_tuple:Ξ K mainGlobals "tuple" = some none)
  (z_dict:Ξ K mainGlobals "dict" = some none)
  {C_Tree:Addr} (n_Tree:Ξ K mainGlobals "Tree" = some (some (.ref C_Tree)))
  (a2:Me K C_Tree "__init__" "Tree.__init__" (mth (top 18) 0))
  (mk2:PySem.W.makesIn K C_Tree=true) (kc2:Y7 K (.ref C_Tree)=true)
  (a3:Me K C_Tree "timing" "Tree.timing" (mth (top 18) 1))
  (a4:Me K C_Tree "flow_of_rules" "Tree.flow_of_rules" (mth (top 18) 2))
  (a5:Me K C_Tree "lack_of" "Tree.lack_of" (mth (top 18) 7))
  (a6:Me K C_Tree "is_wrong" "Tree.is_wrong" (mth (top 18) 6))
  (a7:Me K C_Tree "worst_rule" "Tree.worst_rule" (mth (top 18) 5))
  (a8:Me K C_Tree "wrong_rule" "Tree.wrong_rule" (mth (top 18) 4))
  (a9:Me K C_Tree "meeting" "Tree.meeting" (mth (top 18) 9))
  (a10:Me K C_Tree "way" "Tree.way" (mth (top 18) 10))
  (a11:Me K C_Tree "step_down" "Tree.step_down" (mth (top 18) 11))
  (a12:Me K C_Tree "step_up" "Tree.step_up" (mth (top 18) 12))
  (a13:Me K C_Tree "room" "Tree.room" (mth (top 18) 13))
  (a15:Me K C_Tree "shift" "Tree.shift" (mth (top 18) 15))
  (a16:Me K C_Tree "hang" "Tree.hang" (mth (top 18) 14))
  (a17:Me K C_Tree "mend" "Tree.mend" (mth (top 18) 8))
  (a18:Me K C_Tree "settle" "Tree.settle" (mth (top 18) 3))
  {t_STRIDE:Tok} (n_STRIDE:Ξ K mainGlobals "STRIDE" = some (some (.int 50 t_STRIDE)))
  (nn_Tree:Ξ K mainGlobals "Tree" = some (some (.ref C_Tree)))
  (pg_Tree:T8 K C_Tree Str.empty=true)
  (hd_Tree:PySem.W.hasDictIn K C_Tree=true)
  (po_Tree:PySem.W.plainOver K C_Tree=true)
  (sa_Tree:Z1 K (.ref C_Tree) "__setattr__" = some (some (.builtin "object.__setattr__")))
  (na_Tree_many:Z1 K (.ref C_Tree) "many" = some none)
  (na_Tree_rules:Z1 K (.ref C_Tree) "rules" = some none)
  (na_Tree_bounds:Z1 K (.ref C_Tree) "bounds" = some none)
  (na_Tree_flow:Z1 K (.ref C_Tree) "flow" = some none)
  (na_Tree_times:Z1 K (.ref C_Tree) "times" = some none)
  (na_Tree_over:Z1 K (.ref C_Tree) "over" = some none)
  (na_Tree_under:Z1 K (.ref C_Tree) "under" = some none)
  (na_Tree_hooks:Z1 K (.ref C_Tree) "hooks" = some none)
  (na_Tree_depths:Z1 K (.ref C_Tree) "depths" = some none)
  (na_Tree_begin:Z1 K (.ref C_Tree) "begin" = some none) :
  ∃fd:FuncData,(∀(s:Shared) (v:Value),BindsTo s fd ⟨[v],[]⟩ [("_law_script",v)])/\∀base:Heap,K.In base->base.Ns mainGlobals mg->FnOk l.prog w K mg base CX0 8 fa fd ["_law_script"] (spD K 1 wO):=by
 have cT:ClsT_Tree K C_Tree:=⟨nn_Tree,⟨pg_Tree,hd_Tree,po_Tree,sa_Tree⟩,λf hf=>by simp only[ψ,X9,or_false] at hf;rcases hf with rfl | rfl | rfl | rfl | rfl | rfl | rfl | rfl | rfl | rfl<;>assumption⟩
 have e:=hfa.symm.trans (T9 X G a42)
 cases e
 have zz_len:=Z5 X G z_len
 have zz_sum:=Z5 X G z_sum
 have zz_list:=Z5 X G z_list
 have zz_enumerate:=Z5 X G z_enumerate
 have zz_range:=Z5 X G z_range
 have zz_abs:=Z5 X G z_abs
 have zz_min:=Z5 X G z_min
 have zz_max:=Z5 X G z_max
 have zz_reversed:=Z5 X G z_reversed
 have zz_isinstance:=Z5 X G z_isinstance
 have zz_int:=Z5 X G z_int
 have zz_bool:=Z5 X G z_bool
 have zz_tuple:=Z5 X G z_tuple
 have zz_dict:=Z5 X G z_dict
 refine⟨X6 "law" "law" (dz (top 36)) (bC (top 36)) (ai (top 36)) .none kV42 dc42 pm42 an42 cd42 ct42,λs v=>.of_eq rfl,λbase _ _=>?_⟩
 have m_Tree:=T9 X G n_Tree
 have m_STRIDE:=T9 X G n_STRIDE
 have D0:=a0.go X G λ_ _ F0 hm=>cU l.prog w base F0 hm
 have D1:=a1.go X G λ_ _ F0 hm=>f6 l.prog w base F0 hm
 have DS2:=a2.go λ_ _ F0 hM=>fW l.prog w base m_Tree cT D0 D1 zz_len zz_sum zz_list zz_enumerate zz_range F0 hM mk2 kc2
 have D3:=a3.go λ_ _ F0 hM=>fv l.prog w base m_Tree cT F0 hM
 have D4:=a4.go λ_ _ F0 hM=>b7 l.prog w base m_Tree cT F0 hM
 have D5:=a5.go λ_ _ F0 hM=>cp l.prog w base m_Tree cT F0 hM
 have D6:=a6.go λ_ _ F0 hM=>dD l.prog w base m_Tree cT F0 hM
 have D7:=a7.go λ_ _ F0 hM=>cJ l.prog w base m_Tree cT zz_range D5 D6 zz_abs F0 hM
 have DS8:=a8.go λ_ _ F0 hM=>cA l.prog w base m_Tree cT zz_range m_STRIDE D7 zz_min F0 hM
 have D9:=a9.go λ_ _ F0 hM=>d5 l.prog w base m_Tree cT F0 hM
 have D10:=a10.go λ_ _ F0 hM=>jb l.prog w base m_Tree cT F0 hM
 have D11:=a11.go λ_ _ F0 hM=>c7 l.prog w base m_Tree cT F0 hM
 have D12:=a12.go λ_ _ F0 hM=>d4 l.prog w base m_Tree cT F0 hM
 have D13:=a13.go λ_ _ F0 hM=>gT l.prog w base m_Tree cT F0 hM
 have D14:=a10.go λ_ _ F0 hM=>dZ l.prog w base m_Tree cT F0 hM
 have DS15:=a15.go λ_ _ F0 hM=>fj l.prog w base m_Tree cT F0 hM
 have DS16:=a16.go λ_ _ F0 hM=>fX l.prog w base m_Tree cT zz_enumerate D5 D14 DS15 F0 hM
 have DS17:=a17.go λ_ _ F0 hM=>fV l.prog w base m_Tree cT D5 D9 D10 D11 D12 D13 DS16 F0 hM
 have DS18:=a18.go λ_ _ F0 hM=>dU l.prog w base m_Tree cT DS8 DS17 F0 hM
 have D19:=a19.go X G λ_ _ F0 hm=>bO l.prog w base F0 hm
 have D20:=a20.go X G λ_ _ F0 hm=>cy l.prog w base F0 hm
 have D21:=a21.go X G λ_ _ F0 hm=>fm l.prog w base zz_len D19 D20 zz_max F0 hm
 have D22:=a22.go X G λ_ _ F0 hm=>lR l.prog w base D19 D20 F0 hm
 have D23:=a23.go X G λ_ _ F0 hm=>dX l.prog w base zz_len zz_range D19 D20 F0 hm
 have D24:=a24.go X G λ_ _ F0 hm=>dW l.prog w base D19 D20 F0 hm
 have DZ25:=kU l.prog w base zz_enumerate D21 D22 D23 D24 (Dk l25 c25 k25) t25 (T9 X G a25)
 have D25:=DZ25.1
 have Z25:=DZ25.2
 have D26:=a26.go X G λ_ _ F0 hm=>fZ l.prog w base zz_len zz_list zz_range zz_reversed F0 hm
 have DS27:=a27.go X G λ_ _ F0 hm=>dw l.prog w base D0 zz_enumerate F0 hm
 have D27:=DS27.toD
 have DS28:=a28.go X G λ_ _ F0 hm=>ja l.prog w base zz_range D26 DS27 F0 hm
 have D28:=DS28.toD
 have DS29:=a29.go X G λ_ _ F0 hm=>ni l.prog w base D3 D4 DS28 DS2 DS18 F0 hm
 have D29:=DS29.toD
 have D30:=a30.go X G λ_ _ F0 hm=>fq l.prog w base D29 F0 hm
 have D31:=a31.go X G λ_ _ F0 hm=>lS l.prog w base D19 D20 F0 hm
 have D32:=a32.go X G λ_ _ F0 hm=>ke l.prog w base zz_enumerate D31 F0 hm
 have D33:=a33.go X G λ_ _ F0 hm=>fY l.prog w base zz_len D25 D30 D32 F0 hm Z25
 have D34:=a34.go X G λ_ _ F0 hm=>dY l.prog w base zz_len F0 hm
 have D35:=a35.go X G λ_ _ F0 hm=>f7 l.prog w base zz_isinstance zz_int zz_bool F0 hm
 have D36:=a36.go X G λ_ _ F0 hm=>cV l.prog w base zz_range F0 hm
 have D37:=a37.go X G λ_ _ F0 hm=>dA l.prog w base zz_max D36 F0 hm
 have D38:=a38.go X G λ_ _ F0 hm=>gS l.prog w base zz_len zz_max D36 F0 hm
 have D39:=a39.go X G λ_ _ F0 hm=>gc l.prog w base zz_len zz_enumerate zz_range zz_min zz_max F0 hm
 have D40:=a40.go X G λ_ _ F0 hm=>f9 l.prog w base zz_enumerate zz_abs F0 hm
 have D41:=a41.go X G λ_ _ F0 hm=>f8 l.prog w base zz_len zz_list zz_enumerate zz_isinstance D35 zz_tuple F0 hm
 exact fn_law l.prog w base zz_list D34 D37 D38 D33 D41 D40 D39 zz_dict (uT l42 c42 k42)
end K55
def PySem.W.Fast.tw13005026502653819889:Nat:=0
def PySem.W.Fast.tw3187936919199734033:Nat:=0
def PySem.W.Fast.tw15105709740737106363:Nat:=0
def PySem.W.Fast.tw2115812320695487028:Nat:=0
def PySem.W.Fast.tw15089492478763456988:Nat:=0
def PySem.W.Fast.tw5339634525488280837:Nat:=0
def PySem.W.Fast.tw14808548369012843652:Nat:=0
def PySem.W.Fast.tw8320959423085198895:Nat:=0
def PySem.W.Fast.tw9138696941856815749:Nat:=0
def PySem.W.Fast.tw5748088136830168617:Nat:=0
def PySem.W.Fast.tw9160989012270948109:Nat:=0
def PySem.W.Fast.tw6983672208235898779:Nat:=0
def PySem.W.Fast.tw7453218755399541228:Nat:=0
def PySem.W.Fast.tw17397782086763767662:Nat:=0
def PySem.W.Fast.tw3751328391005479255:Nat:=0
def PySem.W.Fast.tw11666565564016265449:Nat:=0
def PySem.W.Fast.tw3024482517830742865:Nat:=0
def PySem.W.Fast.tw541630721715298383:Nat:=0
def PySem.W.Fast.tw16800832504957435384:Nat:=0
def PySem.W.Fast.tw6118151071093654760:Nat:=0
def PySem.W.Fast.tw838389933723495878:Nat:=0
def PySem.W.Fast.tw18008794529523912915:Nat:=0
def PySem.W.Fast.tw9344725557344937725:Nat:=0
def PySem.W.Fast.tw18075202293901370534:Nat:=0
def PySem.W.Fast.tw11268232565263086375:Nat:=0
def PySem.W.Fast.tw652574150717845931:Nat:=0
def PySem.W.Fast.tw15547333961849483574:Nat:=0
def PySem.W.Fast.tw10796431459437705023:Nat:=0
def PySem.W.Fast.tw11225579175629002997:Nat:=0
def PySem.W.Fast.tw8536424495850383382:Nat:=0
def PySem.W.Fast.tw7319211224364070032:Nat:=0
def PySem.W.Fast.tw11335387089815730892:Nat:=0
def PySem.W.Fast.tw17527141774662131786:Nat:=0
def PySem.W.Fast.tw477514954948651742:Nat:=0
def PySem.W.Fast.tw7743192560589780860:Nat:=0
def PySem.W.Fast.tw7164570428473088954:Nat:=0
def PySem.W.Fast.tw15993800660235655200:Nat:=0
def PySem.W.Fast.tw1066478425882909449:Nat:=0
def PySem.W.Fast.tw8487104609149846795:Nat:=0
def PySem.W.Fast.tw8805307690959258301:Nat:=0
def PySem.W.Fast.tw14747699825473812297:Nat:=0
def PySem.W.Fast.tw6892007855510974726:Nat:=0
def PySem.W.Fast.tw8367066321163875406:Nat:=0
def PySem.W.Fast.tw3392596378814703704:Nat:=0
def PySem.W.Fast.tw541708128197590345:Nat:=0
def PySem.W.Fast.tw15988946305909370277:Nat:=0
def PySem.W.Fast.tw9510356497217858444:Nat:=0
def PySem.W.Fast.tw1604786652098826107:Nat:=0
def PySem.W.Fast.tw6209334264485927892:Nat:=0
def PySem.W.Fast.tw6108841630260853277:Nat:=0
def PySem.W.Fast.tw16019952761191191509:Nat:=0
def PySem.W.Fast.tw6934300747169071743:Nat:=0
def PySem.W.Fast.tw16806706830811736789:Nat:=0
def PySem.W.Fast.tw800564071281239978:Nat:=0
def PySem.W.Fast.tw12290606890845068778:Nat:=0
def PySem.W.Fast.tw7855951468063663695:Nat:=0
def PySem.W.Fast.tw9571934707088870253:Nat:=0
def PySem.W.Fast.tw2521146574934251755:Nat:=0
def PySem.W.Fast.tw16217151323953742524:Nat:=0
def PySem.W.Fast.tw4360821463084148318:Nat:=0
def PySem.W.Fast.tw7974938503298159768:Nat:=0
def PySem.W.Fast.tw9198991025909560795:Nat:=0
def PySem.W.Fast.tw17357010667790347450:Nat:=0
def PySem.W.Fast.tw17114491370004884090:Nat:=0
def PySem.W.Fast.tw1945259541225007146:Nat:=0
def PySem.W.Fast.tw4044543533068241799:Nat:=0
def PySem.W.Fast.tw8504488538718820656:Nat:=0
def PySem.W.Fast.tw17226789024231795903:Nat:=0
def PySem.W.Fast.tw9792983620889393559:Nat:=0
def PySem.W.Fast.tw12898951507077966299:Nat:=0
def PySem.W.Fast.tw10491345930714935821:Nat:=0
def PySem.W.Fast.tw8330160189542683880:Nat:=0
def PySem.W.Fast.tw7001489065527944046:Nat:=0
def PySem.W.Fast.tw6316817929428817104:Nat:=0
def PySem.W.Fast.tw6800131184423810553:Nat:=0
def PySem.W.Fast.tw6076212970873442078:Nat:=0
def PySem.W.Fast.tw1489538820833375009:Nat:=0
def PySem.W.Fast.tw6443222315363217255:Nat:=0
def PySem.W.Fast.tw2184765555104230356:Nat:=0
def PySem.W.Fast.tw2234555599076368213:Nat:=0
def PySem.W.Fast.tw6057098850132314448:Nat:=0
def PySem.W.Fast.tw13155275379221060167:Nat:=0
def PySem.W.Fast.tw6325612775190948216:Nat:=0
def PySem.W.Fast.tw13164593983375365582:Nat:=0
def PySem.W.Fast.tw13313349593333558054:Nat:=0
def PySem.W.Fast.tw16425798833843718968:Nat:=0
def PySem.W.Fast.tw10472246233449579394:Nat:=0
def PySem.W.Fast.tw6552924901710655495:Nat:=0
def PySem.W.Fast.tw7642741633878707276:Nat:=0
def PySem.W.Fast.tw8117562351197784900:Nat:=0
def PySem.W.Fast.tw13165768778882846549:Nat:=0
def PySem.W.Fast.tw13402355580500390478:Nat:=0
def PySem.W.Fast.tw13129374644733911514:Nat:=0
def PySem.W.Fast.tw15932943721883693243:Nat:=0
def PySem.W.Fast.tw18232049920293677069:Nat:=0
def PySem.W.Fast.tw7545819448088668431:Nat:=0
def PySem.W.Fast.tw11140271683418388937:Nat:=0
def PySem.W.Fast.tw8649845706043377540:Nat:=0
def PySem.W.Fast.tw3779549020203224213:Nat:=0
def PySem.W.Fast.tw16767108426266217276:Nat:=0
def PySem.W.Fast.tw10098842310847373010:Nat:=0
def PySem.W.Fast.tw8905399667209774130:Nat:=0
def PySem.W.Fast.tw1809126456051710193:Nat:=0
def PySem.W.Fast.tw9678748583136759362:Nat:=0
def PySem.W.Fast.tw13558723629885631834:Nat:=0
def PySem.W.Fast.tw4840492997258005648:Nat:=0
def PySem.W.Fast.tw1229050050693048221:Nat:=0
def PySem.W.Fast.tw6402281050521209488:Nat:=0
def PySem.W.Fast.tw10162812197237212292:Nat:=0
def PySem.W.Fast.tw5695125441769698450:Nat:=0
def PySem.W.Fast.tw446700321025602817:Nat:=0
def PySem.W.Fast.tw3570281977603305753:Nat:=0
def PySem.W.Fast.tw1943704886471943652:Nat:=0
def PySem.W.Fast.tw8932817508061033314:Nat:=0
def PySem.W.Fast.tw8716178072238358323:Nat:=0
def PySem.W.Fast.tw2354002473463651143:Nat:=0
def PySem.W.Fast.tw14762396617063140779:Nat:=0
def PySem.W.Fast.tw8955764422567849926:Nat:=0
def PySem.W.Fast.tw17066165467115835147:Nat:=0
def PySem.W.Fast.tw11382465115055825260:Nat:=0
def PySem.W.Fast.tw11173534868784620260:Nat:=0
def PySem.W.Fast.tw2168843372925579670:Nat:=0
def PySem.W.Fast.tw13287976227883888965:Nat:=0
def PySem.W.Fast.tw5629091814053422617:Nat:=0
def PySem.W.Fast.tw7070664976157269956:Nat:=0
def PySem.W.Fast.tw12187063308454070866:Nat:=0
def PySem.W.Fast.tw6326758336276251667:Nat:=0
def PySem.W.Fast.tw10857162604628924790:Nat:=0
def PySem.W.Fast.tw7289793355547476990:Nat:=0
def PySem.W.Fast.tw9421048319180886509:Nat:=0
def PySem.W.Fast.tw16452646083024294417:Nat:=0
def PySem.W.Fast.tw18346081529194713882:Nat:=0
def PySem.W.Fast.tw14367737329552421188:Nat:=0
def PySem.W.Fast.tw1152939657233895813:Nat:=0
def PySem.W.Fast.tw12809037559410905873:Nat:=0
def PySem.W.Fast.tw8400133223868923017:Nat:=0
def PySem.W.Fast.tw9998695351782913770:Nat:=0
def PySem.W.Fast.tw15589367916563185691:Nat:=0
def PySem.W.Fast.tw7111027959884333349:Nat:=0
def PySem.W.Fast.tw5517019285499271290:Nat:=0
def PySem.W.Fast.tw11745786970628436393:Nat:=0
def PySem.W.Fast.tw18283188101253658163:Nat:=0
def PySem.W.Fast.tw10726570168649572154:Nat:=0
def PySem.W.Fast.tw11342122884536085646:Nat:=0
def PySem.W.Fast.tw5488819042213384886:Nat:=0
def PySem.W.Fast.tw1346272902246460326:Nat:=0
def PySem.W.Fast.tw5288104670807123321:Nat:=0
def PySem.W.Fast.tw14864307002803627888:Nat:=0
def PySem.W.Fast.tw6246884853694181640:Nat:=0
def PySem.W.Fast.tw2971489998402840783:Nat:=0
def PySem.W.Fast.tw12209023512947521348:Nat:=0
def PySem.W.Fast.tw8784578773793958013:Nat:=0
def PySem.W.Fast.tw7566133142514467520:Nat:=0
def PySem.W.Fast.tw9394836600754859046:Nat:=0
def PySem.W.Fast.tw992747079724307012:Nat:=0
def PySem.W.Fast.tw16659372179499251285:Nat:=0
def PySem.W.Fast.tw10895498464047805853:Nat:=0
def PySem.W.Fast.tw8719699161310548389:Nat:=0
def PySem.W.Fast.tw2182672535321753001:Nat:=0
def PySem.W.Fast.tw15494696223782584799:Nat:=0
def PySem.W.Fast.tw13261573341402623516:Nat:=0
def PySem.W.Fast.tw17559796758432124033:Nat:=0
def PySem.W.Fast.tw1281883245185478045:Nat:=0
def PySem.W.Fast.tw4576830838908972644:Nat:=0
def PySem.W.Fast.tw15247809836708880493:Nat:=0
def PySem.W.Fast.tw958412393986820911:Nat:=0
def PySem.W.Fast.tw15378576466695156661:Nat:=0
def PySem.W.Fast.tw14918823537853818861:Nat:=0
def PySem.W.Fast.tw792772834527993827:Nat:=0
def PySem.W.Fast.tw11870119605475461968:Nat:=0
def PySem.W.Fast.tw16797950477269150544:Nat:=0
def PySem.W.Fast.tw8421853759271595671:Nat:=0
def PySem.W.Fast.tw16958482035907855978:Nat:=0
def PySem.W.Fast.tw10081877634681772334:Nat:=0
def PySem.W.Fast.tw11415483022792821180:Nat:=0
def PySem.W.Fast.tw15715425549825867230:Nat:=0
def PySem.W.Fast.tw7877946552021395251:Nat:=0
def PySem.W.Fast.tw4012234969358409041:Nat:=0
def PySem.W.Fast.tw16944385082098468394:Nat:=0
def PySem.W.Fast.tw14867856971809311696:Nat:=0
def PySem.W.Fast.tw11219260006441643414:Nat:=0
def PySem.W.Fast.tw11945977544211497304:Nat:=0
def PySem.W.Fast.tw4023715450052014636:Nat:=0
def PySem.W.Fast.tw8717755043169347914:Nat:=0
def PySem.W.Fast.tw3883054269415276422:Nat:=0
def PySem.W.Fast.tw314558362116099398:Nat:=0
def PySem.W.Fast.tw11119974366360434731:Nat:=0
def PySem.W.Fast.tw721175147163791006:Nat:=0
def PySem.W.Fast.tw8985200903502596825:Nat:=0
def PySem.W.Fast.tw8741862558205390799:Nat:=0
def PySem.W.Fast.tw502014423064951095:Nat:=0
def PySem.W.Fast.tw2911153529608203447:Nat:=0
def PySem.W.Fast.tw8459422807998468096:Nat:=0
def PySem.W.Fast.tw9599464979060358460:Nat:=0
def PySem.W.Fast.tw13679355776761375888:Nat:=0
def PySem.W.Fast.tw13029285098128786522:Nat:=0
def PySem.W.Fast.tw15873380844769062124:Nat:=0
def PySem.W.Fast.tw12122321756615197814:Nat:=0
def PySem.W.Fast.tw15416683853996267846:Nat:=0
def PySem.W.Fast.tw10866054133986524124:Nat:=0
def PySem.W.Fast.tw10364391613469108996:Nat:=0
def PySem.W.Fast.tw12085635650980434850:Nat:=0
def PySem.W.Fast.tw4659713449804987871:Nat:=0
def PySem.W.Fast.tw3566876547601441329:Nat:=0
def PySem.W.Fast.tw15858981313392870175:Nat:=0
def PySem.W.Fast.tw9270163189642084239:Nat:=0
def PySem.W.Fast.tw4996717099907950179:Nat:=0
def PySem.W.Fast.tw14196085050869143304:Nat:=0
def PySem.W.Fast.tw15984183370153050067:Nat:=0
def PySem.W.Fast.tw763915774665116277:Nat:=0
def PySem.W.Fast.tw5405335367583600236:Nat:=0
def PySem.W.Fast.tw13603021343403666310:Nat:=0
def PySem.W.Fast.tw902761511509987988:Nat:=0
def PySem.W.Fast.tw10094381431853707888:Nat:=0
def PySem.W.Fast.tw13097238905142999235:Nat:=0
def PySem.W.Fast.tw1107418527373400106:Nat:=0
def PySem.W.Fast.tw1768263352964552175:Nat:=0
def PySem.W.Fast.tw9905677301592968349:Nat:=0
def PySem.W.Fast.tw7967288307064581660:Nat:=0
def PySem.W.Fast.tw15676474107830877175:Nat:=0
def PySem.W.Fast.tw10837383836244493989:Nat:=0
def PySem.W.Fast.tw11735750872626043219:Nat:=0
def PySem.W.Fast.tw5317640705746273694:Nat:=0
def PySem.W.Fast.tw1037548431088928858:Nat:=0
local macro_rules | `(tactic| walk_at "F")=>`(tactic| (refine' ⟨_,_,?a,L2.uT ?l ?c ?k⟩;(case a=>k_is);(case l=>k_is);(case c=>k_is);(case k=>k_is)))
local macro_rules | `(tactic| walk_at "M")=>`(tactic| (refine' ⟨_,_,?a,?i,L2.uT ?l ?c ?k⟩;(case a=>k_is);(case i=>k_is);(case l=>k_is);(case c=>k_is);(case k=>k_is)))
open PySem.W PyProof.Rows
set_option maxRecDepth 100000 in
set_option maxHeartbeats 0 in
theorem PySem.Challenge.cw_cuetimer_k55_cues_timed_holds : PySem.Challenge.rw_cuetimer_k55_cues_timed.Holds := by
 w_on; o_law; k_head; (case hw => w_witness2)
 k_fill
 refine DL.walk (l := PySem.Challenge.rw_cuetimer_k55_cues_timed) (k := 8) (F := K55.wO) (x := "_law_script") rfl rfl K55.Ac ⟨rfl, by decide, by decide⟩ (fun w h Y => PySem.W.kIn_of Y) ?T
 case T =>
  intro w mg fa h KX G hmg
  refine' K55.all_mk KX G hmg ?_ ?_ ?_ ?_ ?_ ?_ ?_ ?_ ?_ ?_ ?_ ?_ ?_ ?_ ?_ ?_ ?_ ?_ ?_ ?_ ?_ ?_ ?_ ?_ ?_ ?_ ?_ ?_ ?_ ?_ ?_ ?_ ?_ ?_ ?_ ?_ ?_ ?_ ?_ ?_ ?_ ?_ ?_ ?_ ?_ ?_ ?_ ?_ ?_ ?_ ?_ ?_ ?_ ?_ ?_ ?_ ?_ ?_ ?_ ?_ ?_ ?_ ?_ ?_ ?_ ?_ ?_ ?_ ?_ ?_ ?_ ?_ ?_ ?_ ?_ ?_ ?_ ?_ ?_ ?_ ?_ ?_
  all_goals try first | walk_at "F" | walk_at "M" | k_is
#print axioms PySem.Challenge.cw_cuetimer_k55_cues_timed_holds
