import PyProof.Rows.All
import KE.KIntText
import KE.KFromBytes
import Wide.Txt2
import KE.KDictOf
import KE.KFind
import KE.LcSums
import KE.KEqDict
import KE.KRevIter
import KE.RegKIsAll
import Wide.FinOn
import OpenK.ZHead
import PySem.Challenge.RW_cuetimer_k61_cues_at_the_desk
set_option Elab.async false
set_option linter.all false
set_option maxRecDepth 100000
set_option maxHeartbeats 4000000
open List renaming length_append->ζ,length_map->ι,mem_cons_of_mem->ρ,mem_cons_self->υ,length_cons->ω,length_singleton->Γ,mem_cons->Δ,append_nil->Λ,getElem?_map->Φ,mem_singleton->Ψ,mem_append_left->Z1,map_cons->Z2,getElem?_eq_some_iff->Z4,replicate->Z5,mem_append->Z6,getElem?_eq_getElem->Z7,getElem?_append_right->Z8,mem_append_right->Y1,length_set->Y3,mem_filter->Y5,length_nil->Y6,map_map->Y7,getElem?_set_ne->Y8,map_append->X0,append_assoc->X4,find?_cons->X7,getElem?_append_left->X9,length_replicate->W2,lookup->W3,all_eq_true->W8,mem_map->V0,getElem?_replicate->V3,pairwise_append->U0,takeWhile_cons_of_pos->U1,getElem?_set_self->U6,not_mem_nil->U7,cons_append->U8,mem_of_getElem?->U9
open Nat renaming le_refl->ο,lt_of_lt_of_le->Ω,ne_of_lt->Z9,le_trans->Y9,zero_le->W4,lt_irrefl->V2
open Bool renaming and_eq_true->Ξ,false_ne_true->Z0,and_eq_true_iff->X6,true_and->V7
open Option renaming isSome_iff_exists->V1
open Array renaming getElem?_eq_some_iff->V9
open Int renaming toNat_of_nonneg->U3
open PySem PySem.Spec
noncomputable section
open PySem.W renaming Frag->ε,nsIn->η,findIn->θ,keepIn->ξ,codeIn->ς,mg_of->χ,fnOf->ψ,mg_none_of->Y4,emptyDict->X1,instObj->X2,isFn->X3,excIn->X5,hasDictIn->X8,mroIn->W0,kia_one->W5,plainGet->W6,kitOne->W7,makesIn->W9,hideAll->V5,plainOver->V6,callWith_K->U2,lookIn->U4,specialIn->U5
open PySem.PyData renaming int->Θ,keyHash->Z3,list->Y0,bool->Y2,str->W1,tuple->V4,canLay0->V8
namespace L2
open PyProof.Rows
abbrev Key:=Sum Int Str
noncomputable def pK:Key->Value->Bool
 | .inl k,v=>Value.isInt k v
 | .inr x,v=>Value.isStrOf x v
noncomputable def keyH(w:World):Key->Int
 | .inl k=>hashInt k
 | .inr x=>hashStr w x
theorem cf:∀{k:Key} {v:Value},pK k v=true->(∃i t,k=Sum.inl i/\v=Value.int i t)\/(∃x t,k=Sum.inr x/\v=Value.str x t)
 | .inl i,v,h=>by
  obtain⟨t,e⟩:=Value.isInt_shape h
  simp_all
 | .inr x,v,h=>by
  obtain⟨t,e⟩:=Value.isStrOf_shape h
  simp_all
theorem xD(i:Int)(t:Tok):pK (.inl i) (.int i t)=true:=by simp [pK,Value.isInt]
theorem xC(x:Str)(t:Tok):pK (.inr x) (.str x t)=true:=by simp [pK,Value.isStrOf]
theorem key_ll(a b:Int):decide ((Sum.inl a:Key)=Sum.inl b)=(a==b):=by
 grind
theorem key_rr(a b:Str):decide ((Sum.inr a:Key)=Sum.inr b)=decide (a=b):=by
 simp
theorem key_lr(a:Int)(b:Str):decide ((Sum.inl a:Key)=Sum.inr b)=false:=decide_eq_false (λq=>nomatch q)
theorem key_rl(a:Str)(b:Int):decide ((Sum.inr a:Key)=Sum.inl b)=false:=decide_eq_false (λq=>nomatch q)
noncomputable def bZ(prog:Program)(w:World):PySem.KeyKind prog w Key where
 is:=pK
 hash:=keyH w
 inj:=λv a b ha hb=>by
  rcases cf ha with ⟨i,t,rfl,rfl⟩ | ⟨x,t,rfl,rfl⟩
  ·rcases cf hb with ⟨j,u,rfl,e⟩ | ⟨y,u,rfl,e⟩
   ·injection e with e1 _;rw[e1]
   ·exact nomatch e
  ·rcases cf hb with ⟨j,u,rfl,e⟩ | ⟨y,u,rfl,e⟩
   ·exact nomatch e
   ·injection e with e1 _;rw[e1]
 byValue:=λk v h=>by
  rcases cf h with ⟨i,t,rfl,rfl⟩ | ⟨x,t,rfl,rfl⟩<;>rfl
 pyHash:=λhv h=>by
  rcases cf hv with ⟨i,t,rfl,rfl⟩ | ⟨x,t,rfl,rfl⟩
  ·exact wpAny_pyHash_int h
  ·exact wpAny_pyHash_str h
 eqBool:=λhu hv h=>by
  rcases cf hu with ⟨i,t,rfl,rfl⟩ | ⟨x,t,rfl,rfl⟩
  ·rcases cf hv with ⟨j,u,rfl,rfl⟩ | ⟨y,u,rfl,rfl⟩
   ·rw[key_ll] at h;exact wpAny_eqBool_int h
   ·rw[key_lr] at h;exact SeqAt.EqAt.int_str i t y u _ _ _ _ h
  ·rcases cf hv with ⟨j,u,rfl,rfl⟩ | ⟨y,u,rfl,rfl⟩
   ·rw[key_rl] at h;exact SeqAt.EqAt.str_int x t j u _ _ _ _ h
   ·rw[key_rr] at h;exact wpAny_eqBool_str h
 «strs»:=λk x t v h=>by
  rcases cf h with ⟨i,u,rfl,e⟩ | ⟨y,u,rfl,e⟩
  ·exact nomatch e
  ·injection e with e1 _
   subst e1
   cases v<;>rfl
theorem sK(prog:Program)(w:World)(i:Int)(t:Tok):(bZ prog w).is (.inl i) (.int i t)=true:=xD i t
theorem iV(prog:Program)(w:World)(x:Str)(t:Tok):(bZ prog w).is (.inr x) (.str x t)=true:=xC x t
end L2
namespace L2
open PyProof.Rows
inductive V where
 | non | bl (b:Bool) | int (i:Int) | str (x:Str) | byt (b:Array UInt8) | flt (b:UInt64) | ref (a:Addr) | ty (n:String)
 deriving DecidableEq
def bC:V->Value->Prop
 | .non,u=>u=Value.none
 | .bl b,u=>u=Value.bool b
 | .int i,u=>∃t,u=Value.int i t
 | .str x,u=>∃t,u=Value.str x t
 | .byt b,u=>∃t,u=Value.bytes b t
 | .flt b,u=>∃t,u=Value.float b t
 | .ref a,u=>u=Value.ref a
 | .ty n,u=>u=Value.type n
abbrev bx:List V->List Value->Prop:=Paired bC
theorem bx.length{xs:List V}{us:List Value}(r:bx xs us):xs.length=us.length:=Paired.length r
theorem bx.get:∀{xs:List V} {us:List Value} {i:Nat} {x:V},bx xs us->xs[i]?=some x->∃u,us[i]?=some u/\bC x u
 | _,_,_,_,.nil,e=>by simp at e
 | _,_,0,_,.cons r _,e=>by simp_all
 | _,_,i+1,x,.cons _ t,e=>by
  obtain⟨u,h1,h2⟩:=bx.get t (by assumption)
  simp_all
theorem bx.append:∀{xs ys:List V} {us ws:List Value},bx xs us->bx ys ws->bx (xs++ys) (us++ws)
 | _,_,_,_,.nil,s=>s
 | _,_,_,_,.cons r t,s=>.cons r (bx.append t s)
theorem bx.take:∀{xs:List V} {us:List Value} (n:Nat),bx xs us->bx (xs.take n) (us.take n)
 | _,_,0,_=>.nil
 | _,_,_+1,.nil=>.nil
 | _,_,n+1,.cons r t=>.cons r (bx.take n t)
theorem bx.drop:∀{xs:List V} {us:List Value} (n:Nat),bx xs us->bx (xs.drop n) (us.drop n)
 | _,_,0,r=>r
 | _,_,_+1,.nil=>.nil
 | _,_,n+1,.cons _ t=>bx.drop n t
def iC:Option V->Option Value->Prop
 | some v,some u=>bC v u
 | none,none=>True
 | _,_=>False
def KV{κ:Type}:List (κ×V)->List (κ×Value)->Prop:=Paired λ(p:κ×V) (q:κ×Value)=>p.1=q.1/\bC p.2 q.2
noncomputable def kV:Key->V
 | .inl i=>.int i
 | .inr x=>.str x
inductive HO where
 | lst (xs:List V)
 | tup (xs:List V)
 | dK (kvs:List (Key×V)) | dT (kvs:List (List Key×V))
 | set (S:Int->Bool) (n:Nat)
 | ins (C dx:Addr) (fs:List (Str×V))
 | own (x:Addr)
 | xd (fs:List (Str×V))
 | met (f x:Addr)
 | rng (lo hi:Int)
 | frz (o:Obj) (u:HO)
 | tbl (ps:Array Value)
 | ext (φ:Heap->Prop)
abbrev Hp:=Addr->Option HO
noncomputable def upd(H:Hp)(a:Addr)(o:HO):Hp:=λb=>if b=a then some o else H b
theorem aA{H:Hp}{a:Addr}{o:HO}:upd H a o a=some o:=by unfold upd;simp
theorem upd_ne{H:Hp}{a b:Addr}{o:HO}(h:b≠a):upd H a o b=H b:=by unfold upd;simp_all
theorem zA{H:Hp}{a b:Addr}{o u:HO}(h:H a=some o)(h':H b=some u)(d:o≠u):a≠b:=by
 grind
theorem aU{H:Hp}{a b:Addr}{o:HO}(h:H a=some o)(h':H b=none):a≠b:=by
 grind
section
variable(P:Program)(w:World)
def cy(H:Hp)(h:Heap)(a:Addr):HO->Prop
 | .lst xs=>xs.length<=sizeLine/\∃(its:List Value) (n:Nat),bx xs its/\h.get? a=some { cls:=.type "list",data:=.seq its.toArray n }
 | .tup xs=>xs.length<=sizeLine/\∃its:List Value,bx xs its/\IsTup h a its.toArray
 | .dK kvs=>kvs.length<=sizeLine/\(a==sysModules)=false/\∃vs,KV kvs vs/\h.DictOf (bZ P w) a vs
 | .dT kvs=>kvs.length<=sizeLine/\(a==sysModules)=false/\∃xs:List (List Key×Addr×Value),
   Paired (λ(p:List Key×V) (q:List Key×Addr×Value)=>p.1=q.1/\H q.2.1=some (.tup (p.1.map kV))/\bC p.2 q.2.2) kvs xs /\
   ∃o es ep,h.get? a=some o/\o.ExactDict/\o.data=.dict es ep/\es.toList=xs.map (entryOfKey (tupleKind (bZ P w)))/\(xs.map (·.1)).Nodup
 | .set S n=>h.SetOf (intKind P w) a S n
 | .ins C dx fs=>H dx=some (.own a)/\fs.length<=1000/\dx≠a/\h.get? a=some (X2 C dx) /\
   ∃mA,h.Ns1 dx mA/\(∀f,iC (fs.lookup f) (mA f))/\PySem.Within mA (fs.map (·.1))
 | .own _=>∃o,h.get? a=some o
 | .xd fs=>∃mA,h.Ns1 a mA/\∀f,iC (fs.lookup f) (mA f)
 | .rng lo hi=>∃t u v,h.get? a=some { cls:=.type "range",data:=.fields #[.int lo t,.int hi u,.int 1 v] }
 | .frz o u=>h.get? a=some o/\cy H h a u
 | .tbl ps=>h.get? a=some { cls:=.none,data:=.fields ps }
 | .met f x=>h.get? a=some (PySem.W.methodObj (.ref f) (.ref x))
 | .ext φ=>φ h/\(∃o,h.get? a=some o)/\∀h1 h2:Heap,φ h1->(∀o,h1.get? a=some o->h2.get? a=some o)->φ h2
def HOk(H:Hp)(h:Heap):Prop:=∀a o,H a=some o->cy P w H h a o
end
section
variable{P:Program}{w:World}{H H':Hp}{h h':Heap}{a:Addr}{o:HO}
theorem cy.lt(x:cy P w H h a o):a<h.objs.size:=by
 cases o with
 | lst xs=>obtain⟨_,_,_,_,e⟩:=x;exact Heap.lt_size e
 | tup xs=>obtain⟨_,_,_,p⟩:=x;exact p.lt
 | dK kvs=>obtain⟨_,_,_,_,o,_,_,e,_⟩:=x;exact Heap.lt_size e
 | dT kvs=>obtain⟨_,_,_,_,o,_,_,e,_⟩:=x;exact Heap.lt_size e
 | set S n=>obtain⟨o,_,_,_,e,_⟩:=x;exact Heap.lt_size e
 | ins C dx fs=>obtain⟨_,_,_,e,_⟩:=x;exact Heap.lt_size e
 | own y=>obtain⟨_,e⟩:=x;exact Heap.lt_size e
 | xd fs=>obtain⟨_,⟨_,_,_,e,_⟩,_⟩:=x;exact Heap.lt_size e
 | rng lo hi=>obtain⟨_,_,_,e⟩:=x;exact Heap.lt_size e
 | frz ob u=>obtain⟨e,_⟩:=x;exact Heap.lt_size e
 | tbl ps=>exact Heap.lt_size (show h.get? a=some _ from x)
 | met f y=>exact Heap.lt_size (show h.get? a=some _ from x)
 | ext φ=>obtain⟨_,⟨_,e⟩,_⟩:=x;exact Heap.lt_size e
theorem Paired.mapP{α β:Type}{F G:α->β->Prop}:∀{l₁:List α} {l₂:List β},Paired F l₁ l₂->(∀a b,F a b->G a b)->Paired G l₁ l₂
 | _,_,.nil,_=>.nil
 | _,_,.cons r t,f=>.cons (f _ _ r) (Paired.mapP t f)
theorem cy.stay(x:cy P w H h a o)(k:∀b u,(b=a\/H b=some (.own a))->h.get? b=some u->h'.get? b=some u)
  (ho:∀b,H b=some (.own a)->H' b=some (.own a)) (ht:∀b xs,H b=some (.tup xs)->H' b=some (.tup xs)):cy P w H' h' a o:=by
 induction o with
 | lst xs=>obtain⟨z,its,n,r,e⟩:=x;exact⟨z,its,n,r,k _ _ (.inl rfl) e⟩
 | tup xs=>obtain⟨z,its,r,ob,e,c⟩:=x;exact⟨z,its,r,ob,k _ _ (.inl rfl) e,c⟩
 | dK kvs=>obtain⟨z,y,vs,r,ob,es,ep,e,c⟩:=x;exact⟨z,y,vs,r,ob,es,ep,k _ _ (.inl rfl) e,c⟩
 | dT kvs =>
  obtain⟨z,y,xs,r,ob,es,ep,e,c⟩:=x
  exact⟨z,y,xs,Paired.mapP r λp q z=>⟨z.1,ht _ _ z.2.1,z.2.2⟩,ob,es,ep,k _ _ (.inl rfl) e,c⟩
 | set S n=>obtain⟨ob,es,ep,t,e,c⟩:=x;exact⟨ob,es,ep,t,k _ _ (.inl rfl) e,c⟩
 | ins C dx fs =>
  obtain⟨d,z,ne,e,mA,⟨od,es,ep,e2,c⟩,r⟩:=x
  exact⟨ho _ d,z,ne,k _ _ (.inl rfl) e,mA,⟨od,es,ep,k _ _ (.inr d) e2,c⟩,r⟩
 | own y=>obtain⟨ob,e⟩:=x;exact⟨ob,k _ _ (.inl rfl) e⟩
 | xd fs=>obtain⟨mA,⟨od,es,ep,e,c⟩,r⟩:=x;exact⟨mA,⟨od,es,ep,k _ _ (.inl rfl) e,c⟩,r⟩
 | rng lo hi=>obtain⟨t,u,v,e⟩:=x;exact⟨t,u,v,k _ _ (.inl rfl) e⟩
 | frz ob u ih=>obtain⟨e,q⟩:=x;exact⟨k _ _ (.inl rfl) e,ih q⟩
 | tbl ps =>
  have e:h.get? a=some { cls:=.none,data:=.fields ps }:=x
  show h'.get? a=some { cls:=.none,data:=.fields ps }
  simp_all
 | met f y =>
  have e:h.get? a=some (PySem.W.methodObj (.ref f) (.ref y)):=x
  show h'.get? a=some (PySem.W.methodObj (.ref f) (.ref y))
  simp_all
 | ext φ=>obtain⟨p,⟨o,e⟩,st⟩:=x;exact⟨st _ _ p λo q=>k _ _ (.inl rfl) q,⟨o,k _ _ (.inl rfl) e⟩,st⟩
theorem HOk.lt(x:HOk P w H h)(e:H a=some o):a<h.objs.size:=(x a o e).lt
theorem HOk.fresh(x:HOk P w H h)(e:h.objs.size<=a):H a=none:=by
 cases q:H a with
 | none=>rfl
 | some u=>exact absurd (Ω (x.lt q) e) (V2 _)
theorem HOk.kept(x:HOk P w H h)(k:∀b u,h.get? b=some u->h'.get? b=some u):HOk P w H h':=λa o e =>
 (x a o e).stay (λb u _ q=>k b u q) (λ_ q=>q) λ_ _ q=>q
theorem HOk.laid(x:HOk P w H h)(k:∀b u,h.get? b=some u->h'.get? b=some u)(hp:h.objs.size<=a)(new:cy P w (upd H a o) h' a o):HOk P w (upd H a o) h':=λb u e=>by
 have hn:=x.fresh hp
 by_cases hb:b=a
 ·subst hb;rw[aA] at e;simp_all
 ·rw[upd_ne hb] at e
  exact(x b u e).stay (λc v _ q=>k c v q) (λc q=>by rw[upd_ne (aU q hn)];exact q) λc xs q=>by rw[upd_ne (aU q hn)];exact q
end
def Rd(H:Hp)(a:Addr)(u:HO):Prop:=H a=some u\/∃o,H a=some (.frz o u)
theorem Rd.ok{P:Program}{w:World}{H:Hp}{h:Heap}{a:Addr}{u:HO}(r:Rd H a u)(x:HOk P w H h):cy P w H h a u:=by
 rcases r with r | ⟨o,r⟩
 ·exact x a u r
 ·obtain⟨_,q⟩:=x a _ r
  exact q
def Mut:Option HO->Prop
 | some (.lst _)=>True
 | some (.dK _)=>True
 | some (.dT _)=>True
 | some (.set _ _)=>True
 | some (.ins _ _ _)=>True
 | some (.ext _)=>True
 | _=>False
section
variable{P:Program}{w:World}{H:Hp}{h h':Heap}{x e:Addr}{o':HO}
theorem HOk.write(ok:HOk P w H h)(mu:Mut (H x))(he:e=x\/H e=some (.own x))(k:∀b u,b≠e->h.get? b=some u->h'.get? b=some u)(heo:∃u,h'.get? e=some u)
  (new:cy P w (upd H x o') h' x o'):HOk P w (upd H x o') h':=λb u q=>by
 have nown:∀c y,H c=some (.own y)->c≠x:=λc y r z=>by subst z;rw[r] at mu;exact mu
 have ntup:∀c xs,H c=some (.tup xs)->c≠x:=λc xs r z=>by subst z;rw[r] at mu;exact mu
 by_cases hb:b=x
 ·subst hb;rw[aA] at q;simp_all
 ·rw[upd_ne hb] at q
  by_cases hbe:b=e
  ·have q':H b=some (.own x):=by
    simp_all
   rw[q] at q';cases q'
   obtain⟨v,hv⟩:=heo
   exact⟨v,by simp_all⟩
  ·refine(ok b u q).stay (λc v hc r=>k c v ?_ r) (λc r=>by rw[upd_ne (nown c b r)];exact r) λc xs r=>by rw[upd_ne (ntup c xs r)];exact r
   grind
end
structure Un(fs ex:List Addr)(H H':Hp)(h h':Heap):Prop where
 keep:∀b o,h.get? b=some o->H b=none->b∉fs->b∉ex->h'.get? b=some o
 slot:∀b o,h.get? b=some o->H b=none->b∈fs->b∉ex->∃sl,h'.get? b=some { o with slots:=sl }
 free:∀b o,h.get? b=some o->H b=none->b∉ex->H' b=none
 there:∀b o,h.get? b=some o->b∉ex->∃o',h'.get? b=some o'
 tups:∀b xs,H b=some (.tup xs)->H' b=some (.tup xs)
 frzs:∀b o u,H b=some (.frz o u)->H' b=some (.frz o u)
 tbls:∀b ps,H b=some (.tbl ps)->∃more,H' b=some (.tbl (ps++more))
section
variable{fs fs' ex ex':List Addr}{H H1 H2:Hp}{h h1 h2 h':Heap}{a x e:Addr}{o:HO}
theorem Un.any(u:Un fs ex H H1 h h1){b:Addr}{ob:Obj}(q:h.get? b=some ob)(n:H b=none)(hx:b∉ex):∃sl,h1.get? b=some { ob with slots:=sl }:=by
 by_cases hb:b∈fs
 ·exact u.slot b ob q n hb hx
 ·exact⟨ob.slots,u.keep b ob q n hb hx⟩
theorem Un.kept(k:∀b u,h.get? b=some u->h'.get? b=some u):Un fs ex H H h h' :=
 ⟨λb ob q _ _ _=>k b ob q,λb ob q _ _ _=>⟨ob.slots,k b ob q⟩,λ_ _ _ n _=>n,λb ob q _=>⟨ob,k b ob q⟩,λ_ _ q=>q,λ_ _ _ q=>q,λ_ ps q=>⟨#[],by assumption⟩⟩
theorem Un.refl:Un fs ex H H h h:=Un.kept λ_ _ q=>q
theorem Un.laid(k:∀b u,h.get? b=some u->h'.get? b=some u)(hp:h.objs.size<=a)(hn:H a=none):Un fs ex H (upd H a o) h h' where
 keep:=λb u q _ _ _=>k b u q
 slot:=λb u q _ _ _=>⟨u.slots,k b u q⟩
 free:=λb u q n _=>by rw[upd_ne (Z9 (Ω (Heap.lt_size q) hp))];exact n
 there:=λb u q _=>⟨u,k b u q⟩
 tups:=λb xs q=>by rw[upd_ne (aU q hn)];exact q
 frzs:=λb u xs q=>by rw[upd_ne (aU q hn)];exact q
 tbls:=λb ps q=>⟨#[],by rw[upd_ne (aU q hn),q];simp⟩
theorem Un.write(mu:Mut (H x))(he:e=x\/H e=some (.own x))(k:∀b u,b≠e->h.get? b=some u->h'.get? b=some u)(heo:∃u,h'.get? e=some u):Un fs ex H (upd H x o) h h':=by
 have hx:∀b,H b=none->b≠x:=λb n z=>by subst z;rw[n] at mu;exact mu
 have hb:∀b,H b=none->b≠e:=λb n z=>by
  simp_all
 have hm:∀b u,H b=some u->¬Mut (some u)->b≠x:=λb u q nm z=>by simp_all
 refine⟨λb u q n _ _=>k b u (hb b n) q,λb u q n _ _=>⟨u.slots,k b u (hb b n) q⟩,λb u q n _=>by rw[upd_ne (hx b n)];exact n,λb u q _=>?_,
  λb xs q=>by rw[upd_ne (hm b _ q λz=>z)];exact q,λb u xs q=>by rw[upd_ne (hm b _ q λz=>z)];exact q,λb ps q=>⟨#[],by rw[upd_ne (hm b _ q λz=>z),q];simp⟩⟩
 grind
end
noncomputable def trk(h:Heap)(H:Hp):List Addr:=(List.range h.objs.size).filter λa=>(H a).isSome
noncomputable def qQ(h:Heap)(H:Hp):Heap:=V5 h (trk h H)
theorem xH(h:Heap)(H:Hp):(qQ h H).objs.size=h.objs.size:=PySem.W.hideAll_size _ _
theorem z9{h:Heap}{H:Hp}{b:Addr}{o:Obj}(e:h.get? b=some o)(n:H b=none):(qQ h H).get? b=some o :=
 PySem.W.hideAll_get _ e λhm=>by
  have q:= (Y5.mp hm).2
  simp_all
theorem BM{h:Heap}{H:Hp}{b:Addr}{o:Obj}(e:(qQ h H).get? b=some o):h.get? b=some o/\H b=none:=by
 have e':= PySem.W.of_hideAll (trk h H) e
 refine⟨e',?_⟩
 cases q:H b with
 | none=>rfl
 | some x =>
  have hm:b∈trk h H:=Y5.mpr ⟨List.mem_range.mpr (Heap.lt_size e'),by simp [q]⟩
  have z:(qQ h H).get? b=none:=PySem.W.hideAll_none (trk h H) hm
  simp_all
noncomputable def Cr(g h:Heap)(L:Addr):List (Addr×Obj):=(List.range h.objs.size).filterMap λa=>if a=L\/(g.get? a).isSome=true then none else (h.get? a).map λo=>(a,o)
noncomputable def rest(g h:Heap)(L d:Addr):List (Addr×Obj):=(Cr g h L).filter λp=>decide (p.1≠d)
end L2
namespace L2
open PyProof.Rows
structure Mod(K:ε)(mg:Str->Option Value)(base:Heap):Prop where
 kin:K.In base
 glob:base.Ns mainGlobals mg
 blt:∃mb,base.Ns builtinsNs mb/\∀x:Str,x ≠ "__name__" -> mb x=bootBuiltins x
 nolimit:base.NoLimit
structure Cx where
 prog:Program
 w:World
 K:ε
 mg:Str->Option Value
 base:Heap
 A:Around
 N:List Str
 s₀:Shared
 H₀:Hp
 env:Env
 outer:List Env
 stack:List Env
 ex:List Addr
 fn:Str->Bool
 calm:Bool
 pn:List (Addr×Obj)
 xe:Value->Shared->Prop
noncomputable def frs(l:List Env):List Addr:=l.filterMap (·.frame)
abbrev Cx.fs(X:Cx):List Addr:=frs X.outer
def Vis(sc:Scope)(x:Str):Prop:=sc.names.lookup x=some .local\/sc.names.lookup x=some .cell\/sc.names.lookup x=some .free
def Loc(sc:Scope)(x:Str):Prop:=sc.names.lookup x=some .local\/sc.names.lookup x=some .cell
def Look(env:Env)(h:Heap)(m:Str->Option Value)(x:Str)(u:Value):Prop :=
 (env.kindOf x=some .local/\m x=some u)\/((env.kindOf x=some .cell\/env.kindOf x=some .free)/\∃c,env.cells.lookup x=some c/\h.IsCell c (some u))
structure Cx.Ok(X:Cx):Prop where
 mod:Mod X.K X.mg X.base
 kind:X.env.scope.kind=.function
 glob:X.env.globals=mainGlobals
 blt:X.env.builtins=builtinsNs
 above:X.s₀.heap.objs.size<=X.env.locals
 inj:∀x y c,X.env.cells.lookup x=some c->X.env.cells.lookup y=some c->x=y
 has:∀x,(X.env.kindOf x=some .cell\/X.env.kindOf x=some .free)->∃c,X.env.cells.lookup x=some c
 cab:∀x c,X.fn x=true->X.env.cells.lookup x=some c->X.s₀.heap.objs.size<=c
 hd:X.calm=true->X.A.handled=none
 frames:X.A.frames=some X.stack
 stk:X.stack=X.outer\/(X.stack=X.env::X.outer/\X.env.frame=some X.env.locals)
 exf:∀b∈X.ex,b≠X.env.locals/\∀x c,X.env.cells.lookup x=some c->c≠b
 bs:∀b o,X.base.get? b=some o->X.s₀.heap.get? b=some o/\X.H₀ b=none
 bsz:X.base.objs.size<=X.s₀.heap.objs.size
 noex:∀b o,X.base.get? b=some o->b∉X.ex
 exfs:∀b∈X.ex,b∉X.fs
 funs:X.s₀.heap.FunFrames X.base X.outer
 frf:∀b∈X.fs,X.H₀ b=none
structure Inv(X:Cx)(pins:List (Addr×Obj))(σ:List (Option V))(H:Hp)(s:Shared):Prop where
 ok:X.Ok
 os:s.os=X.s₀.os
 bare:AllBare s.gens
 base:Un X.fs X.ex X.H₀ H X.s₀.heap s.heap
 loc:∃m,s.heap.Ns X.env.locals m/\∀(i:Nat) (x:Str) (v:V),X.N[i]?=some x->σ[i]?=some (some v)->Vis X.env.scope x->∃u,bC v u/\Look X.env s.heap m x u
 cell:∀x c,X.env.cells.lookup x=some c->∃v,s.heap.IsCell c v
 free:H X.env.locals=none
 freeC:∀x c,X.env.cells.lookup x=some c->H c=none
 pin:∀p∈X.pn++pins,s.heap.get? p.1=some p.2/\H p.1=none/\p.1≠X.env.locals/\p.1∉X.fs/\∀v,p.2.data≠.cell v
 hok:HOk X.prog X.w H s.heap
 len:σ.length=X.N.length
section
variable{X:Cx}{pins:List (Addr×Obj)}{σ:List (Option V)}{H H':Hp}{s:Shared}{h':Heap}
theorem Cx.Ok.nofr(ok:X.Ok){b:Addr}{o:Obj}(e:X.base.get? b=some o):b∉X.fs:=λhb=>by
 have:=(ok.funs.mem hb).1
 simp_all
theorem Inv.bs(I:Inv X pins σ H s):∀b o,X.base.get? b=some o->s.heap.get? b=some o/\H b=none:=λb o e =>
 ⟨I.base.keep b o (I.ok.bs b o e).1 (I.ok.bs b o e).2 (I.ok.nofr e) (I.ok.noex b o e),I.base.free b o (I.ok.bs b o e).1 (I.ok.bs b o e).2 (I.ok.noex b o e)⟩
theorem Inv.bk(I:Inv X pins σ H s):∀b o,X.base.get? b=some o->s.heap.get? b=some o:=λb o e=>(I.bs b o e).1
theorem Inv.mod(I:Inv X pins σ H s):Mod X.K X.mg X.base:=I.ok.mod
theorem Inv.kIn(I:Inv X pins σ H s):X.K.In s.heap:=I.ok.mod.kin.keeps I.bk
theorem Inv.lt(I:Inv X pins σ H s):X.env.locals<s.heap.objs.size:=let ⟨_,hn,_⟩:=I.loc;hn.lt
theorem Inv.sz(I:Inv X pins σ H s):X.s₀.heap.objs.size<=s.heap.objs.size:=Y9 I.ok.above (Nat.le_of_lt I.lt)
theorem Inv.nofs(I:Inv X pins σ H s){a:Addr}(h:s.heap.objs.size<=a):a∉X.fs:=λhb=>by
 obtain⟨_,o,ho,_⟩:=I.ok.funs.mem hb
 exact absurd (Ω (Heap.lt_size ho) (Y9 I.sz h)) (V2 _)
theorem Inv.cne(I:Inv X pins σ H s):∀x c,X.env.cells.lookup x=some c->c≠X.env.locals:=λx c e z=>by
 obtain⟨v,o,ho,hd⟩:=I.cell x c e
 obtain⟨m,⟨o',es,ep,ho',hd',_⟩,_⟩:=I.loc
 simp_all
theorem Inv.funs(I:Inv X pins σ H s):s.heap.FunFrames X.base X.outer:=by
 have all:∀(l:List Env),(∀b∈frs l,b∈X.fs)->X.s₀.heap.FunFrames X.base l->s.heap.FunFrames X.base l:=by
  intro l
  induction l with
  | nil=>intro _ _;trivial
  | cons env r ih =>
   intro hs hl
   obtain⟨hk,⟨L,o,hf,hn,ho,hd⟩,hr⟩:=hl
   have hL:= hs L (by unfold frs;simp_all)
   obtain⟨sl,e⟩:=I.base.slot L o ho (I.ok.frf L hL) hL λz=>I.ok.exfs L z hL
   exact⟨hk,⟨L,_,hf,hn,e,hd⟩,ih (λb hb=>hs b (by unfold frs;rw[List.filterMap_cons,hf];exact ρ _ hb)) hr⟩
 exact all X.outer (λ_ hb=>hb) I.ok.funs
theorem Inv.stack(I:Inv X pins σ H s):s.heap.FunFrames X.base X.stack:=by
 rcases I.ok.stk with e | ⟨e,hf⟩
 ·rw[e];exact I.funs
 ·rw[e]
  obtain⟨m,hn,_⟩:=I.loc
  refine .cons (by rw[I.ok.kind];decide) hf hn ?_ I.funs
  exact Heap.get?_none_of_le (Y9 I.ok.bsz I.ok.above)
theorem Inv.stkSub(I:Inv X pins σ H s):∀b∈frs X.stack,b∈X.env.locals::X.fs:=λb hb=>by
 rcases I.ok.stk with e | ⟨e,hf⟩
 ·simp_all
 ·rw[e] at hb
  unfold frs at hb
  rw[List.filterMap_cons,hf] at hb
  exact hb
theorem Inv.stkFree(I:Inv X pins σ H s):∀b∈frs X.stack,H b=none:=λb hb=>by
 rcases Δ.mp (I.stkSub b hb) with e | hb
 ·rw[e];exact I.free
 ·obtain⟨_,o,ho,_⟩:=I.ok.funs.mem hb
  exact I.base.free b o ho (I.ok.frf b hb) λz=>I.ok.exfs b z hb
theorem Inv.step{g':Array GenState}{t':Nat}{d':Drawn}{ch:List Addr}(I:Inv X pins σ H s)
  (hch:∀b∈ch,(b∈X.ex\/X.s₀.heap.objs.size<=b)/\b≠X.env.locals/\(∀x c,X.env.cells.lookup x=some c->c≠b)/\∀p∈X.pn++pins,p.1≠b)
  (keep:∀b o,b≠X.env.locals->b∉X.fs->b∉ch->s.heap.get? b=some o->H b=none->h'.get? b=some o)
  (slot:∀b o,b≠X.env.locals->b∈X.fs->b∉ch->s.heap.get? b=some o->H b=none->∃sl,h'.get? b=some { o with slots:=sl }) (free:∀b o,b∉ch->s.heap.get? b=some o->H b=none->H' b=none)
  (there:∀b o,b∉ch->s.heap.get? b=some o->∃o',h'.get? b=some o')
  (tups:∀b xs,H b=some (.tup xs)->H' b=some (.tup xs)) (frzs:∀b o u,H b=some (.frz o u)->H' b=some (.frz o u)) (tbls:∀b ps,H b=some (.tbl ps)->∃more,H' b=some (.tbl (ps++more)))
  (ns:∀m,s.heap.Ns X.env.locals m->h'.Ns X.env.locals m) (hok:HOk X.prog X.w H' h') (hg:AllBare g') :
  Inv X pins σ H' { s with heap:=h',gens:=g',drawn:=d',toks:=t' }:=by
 have neL:∀b o,X.s₀.heap.get? b=some o->b≠X.env.locals:=λb o e=>Z9 (Ω (Heap.lt_size e) I.ok.above)
 have neC:∀b o,X.s₀.heap.get? b=some o->b∉X.ex->b∉ch:=λb o e hx hb=>by
  rcases (hch b hb).1 with z | z
  ·simp_all
  ·exact absurd (Ω (Heap.lt_size e) z) (V2 _)
 have cellK:∀x c,X.env.cells.lookup x=some c->∀v,s.heap.IsCell c v->h'.IsCell c v:=λx c e v ⟨o,ho,hd⟩=>by
  have nch:c∉ch:=λz=>(hch c z).2.2.1 x c e rfl
  by_cases hc:c∈X.fs
  ·obtain⟨sl,q⟩:=slot c o (I.cne x c e) hc nch ho (I.freeC x c e)
   exact⟨_,q,hd⟩
  ·exact⟨o,keep c o (I.cne x c e) hc nch ho (I.freeC x c e),hd⟩
 refine⟨I.ok,I.os,hg,⟨λb o e n hb hx=>?_,λb o e n hb hx=>?_,λb o e n hx=>?_,λb o e hx=>?_,λb xs e=>tups b xs (I.base.tups b xs e),λb o xs e=>frzs b o xs (I.base.frzs b o xs e),λb ps e=>?_⟩,?_,λx c e=>?_,?_,λx c e=>?_,λp hp=>?_,hok,I.len⟩
 ·exact keep b o (neL b o e) hb (neC b o e hx) (I.base.keep b o e n hb hx) (I.base.free b o e n hx)
 ·obtain⟨sl,e1⟩:=I.base.slot b o e n hb hx
  obtain⟨sl',e2⟩:=slot b _ (neL b o e) hb (neC b o e hx) e1 (I.base.free b o e n hx)
  simp_all
 ·obtain⟨o',e1⟩:=I.base.there b o e hx
  exact free b o' (neC b o e hx) e1 (I.base.free b o e n hx)
 ·obtain⟨o',e1⟩:=I.base.there b o e hx
  simp_all
 ·obtain⟨m1,e1⟩:=I.base.tbls b ps e
  grind
 ·obtain⟨m,hn,hl⟩:=I.loc
  refine⟨m,ns m hn,λi x v e1 e2 e3=>?_⟩
  obtain⟨u,r,l⟩:=hl i x v e1 e2 e3
  refine⟨u,r,?_⟩
  rcases l with l | ⟨k,c,e,z⟩
  ·exact .inl l
  ·exact .inr ⟨k,c,e,cellK x c e _ z⟩
 ·obtain⟨v,z⟩:=I.cell x c e
  grind
 ·obtain⟨m,⟨o,_,_,ho,_⟩,_⟩:=I.loc
  exact free _ o (λz=>(hch _ z).2.1 rfl) ho I.free
 ·obtain⟨v,o,ho,hd⟩:=I.cell x c e
  exact free c o (λz=>(hch c z).2.2.1 x c e rfl) ho (I.freeC x c e)
 ·obtain⟨e,n,ne,nf,d⟩:=I.pin p hp
  grind
theorem Inv.un{t':Nat}(I:Inv X pins σ H s)(u:Un X.fs [] H H' s.heap h')(hok:HOk X.prog X.w H' h'):Inv X pins σ H' { s with heap:=h',toks:=t' }:=by
 obtain⟨m,⟨o,es,ep,ho,r⟩,_⟩:=id I.loc
 obtain⟨sl,hL⟩:=u.any ho I.free (by simp)
 exact I.step (g':=s.gens) (d':=s.drawn) (ch:=[]) (λ_ z=>nomatch z) (λb o _ hb _ e n=>u.keep b o e n hb (by simp)) (λb o _ hb _ e n=>u.slot b o e n hb (by simp)) (λb o _ e n=>u.free b o e n (by simp)) (λb o _ e=>u.there b o e (by simp)) u.tups u.frzs u.tbls (λm' hm=>by
  obtain⟨o',es',ep',ho',r'⟩:=hm
  rw[ho] at ho';cases ho'
  exact⟨_,es',ep',hL,r'⟩) hok I.bare
theorem Inv.call{g':Array GenState}{t':Nat}{d':Drawn}{ch:List Addr}(I:Inv X pins σ H s)(u:Un (frs X.stack) ch H H' s.heap h')(hok:HOk X.prog X.w H' h')(hg:AllBare g')
  (hch:∀b∈ch,(b∈X.ex\/X.s₀.heap.objs.size<=b)/\b≠X.env.locals/\(∀x c,X.env.cells.lookup x=some c->c≠b)/\∀p∈X.pn++pins,p.1≠b) :
  Inv X pins σ H' { s with heap:=h',gens:=g',drawn:=d',toks:=t' }:=by
 obtain⟨m,⟨o,es,ep,ho,r⟩,_⟩:=id I.loc
 obtain⟨sl,hL⟩:=u.any ho I.free λz=>(hch _ z).2.1 rfl
 exact I.step (ch:=ch) hch (λb o hL hb hc e n=>u.keep b o e n (λz=>(Δ.mp (I.stkSub b z)).elim hL hb) hc) (λb o _ _ hc e n=>u.any e n hc) (λb o hc e n=>u.free b o e n hc) (λb o hc e=>u.there b o e hc) u.tups u.frzs u.tbls (λm' hm=>by
  obtain⟨o',es',ep',ho',r'⟩:=hm
  rw[ho] at ho';cases ho'
  exact⟨_,es',ep',hL,r'⟩) hok hg
theorem Inv.turned{t':Nat}{it:Addr}(I:Inv X pins σ H s)(k:∀b o,b≠it->s.heap.get? b=some o->h'.get? b=some o)(hn:H it=none)(hL:it≠X.env.locals)
  (h1:it∈X.ex\/X.s₀.heap.objs.size<=it) (h2:∀x c,X.env.cells.lookup x=some c->c≠it) (h3:∀p∈X.pn++pins,p.1≠it):Inv X pins σ H { s with heap:=h',toks:=t' }:=by
 have nit:∀b u,H b=some u->b≠it:=λb u e z=>by simp_all
 refine I.step (g':=s.gens) (d':=s.drawn) (ch:=[it]) (λb hb=>?_) (λb o _ _ hc e _=>k b o (λz=>hc (by simp [z])) e) (λb o _ _ hc e _=>⟨o.slots,k b o (λz=>hc (by simp [z])) e⟩) (λ_ _ _ _ n=>n)
  (λb o hc e=>⟨o,k b o (λz=>hc (by simp [z])) e⟩) (λ_ _ e=>e) (λ_ _ _ e=>e) (λb ps e=>⟨#[],by assumption⟩) (λm hm=>?_) (λb u e=>?_) I.bare
 ·grind
 ·obtain⟨o,es,ep,ho,r⟩:=hm
  exact⟨o,es,ep,k _ o (Ne.symm hL) ho,r⟩
 ·refine(I.hok b u e).stay (λc v hc q=>k c v ?_ q) (λ_ q=>q) λ_ _ q=>q
  grind
theorem Inv.tok(I:Inv X pins σ H s)(t:Nat):Inv X pins σ H { s with toks:=t }:=I.un (h':=s.heap) (t':=t) Un.refl I.hok
theorem Inv.kept{t':Nat}(I:Inv X pins σ H s)(k:∀b u,s.heap.get? b=some u->h'.get? b=some u):Inv X pins σ H { s with heap:=h',toks:=t' }:=I.un (Un.kept k) (I.hok.kept k)
theorem Inv.laid{a:Addr}{o:HO}{t':Nat}(I:Inv X pins σ H s)(k:∀b u,s.heap.get? b=some u->h'.get? b=some u)(hp:s.heap.objs.size<=a)(new:cy X.prog X.w (upd H a o) h' a o) :
  Inv X pins σ (upd H a o) { s with heap:=h',toks:=t' }:=I.un (Un.laid k hp (I.hok.fresh hp)) (I.hok.laid k hp new)
theorem Inv.write{x e:Addr}{o:HO}{t':Nat}(I:Inv X pins σ H s)(mu:Mut (H x))(he:e=x\/H e=some (.own x))(k:∀b u,b≠e->s.heap.get? b=some u->h'.get? b=some u)(heo:∃u,h'.get? e=some u)
  (new:cy X.prog X.w (upd H x o) h' x o):Inv X pins σ (upd H x o) { s with heap:=h',toks:=t' }:=I.un (Un.write mu he k heo) (I.hok.write mu he k heo new)
theorem Inv.weak{σ':List (Option V)}(I:Inv X pins σ H s)(hl:σ'.length=σ.length)(w:∀(i:Nat) v,σ'[i]?=some (some v)->σ[i]?=some (some v)):Inv X pins σ' H s :=
 ⟨I.ok,I.os,I.bare,I.base,let ⟨m,hn,hl'⟩:=I.loc;⟨m,hn,λi x v e1 e2 e3=>hl' i x v e1 (w i v e2) e3⟩,I.cell,I.free,I.freeC,I.pin,I.hok,hl.trans I.len⟩
theorem Inv.pins_of{pins':List (Addr×Obj)}(I:Inv X pins σ H s)(h:∀p∈pins',s.heap.get? p.1=some p.2/\H p.1=none/\p.1≠X.env.locals/\p.1∉X.fs/\∀v,p.2.data≠.cell v):Inv X pins' σ H s :=
 ⟨I.ok,I.os,I.bare,I.base,I.loc,I.cell,I.free,I.freeC,λp hp=>(Z6.mp hp).elim (λz=>I.pin p (Z1 _ z)) (h p),I.hok,I.len⟩
theorem ku{N:List Str}(hN:N.Nodup){i j:Nat}{x:Str}(a:N[i]?=some x)(b:N[j]?=some x):i=j:=by
 obtain⟨h1,e1⟩:=Z4.mp a
 obtain⟨h2,e2⟩:=Z4.mp b
 exact(List.getElem_inj hN).mp (e1.trans e2.symm)
theorem wU{M:Model}{A:Around}{E:Value->Shared->Prop}{i:Nat}{x:Str}{v:V}{u:Value}{Q:Unit->Shared->Prop}(I:Inv X pins σ H s)(hN:X.N.Nodup)(hi:X.N[i]?=some x)(hx:Loc X.env.scope x)(r:bC v u)
  (h:∀s',Inv X pins (σ.set i (some v)) H s'->(∃a,Heap.SameBut a s.heap s'.heap/\(a=X.env.locals\/X.env.cells.lookup x=some a))->Q () s') (hf:X.fn x=true\/X.env.scope.names.lookup x=some .local:=by first | exact .inl rfl | exact .inr rfl | assumption):wpAny M A (storeName X.env x u) Q E s:=by
 obtain⟨m,hn,hl⟩:=id I.loc
 have hcls:(X.env.scope.kind==.class||(X.env.scope.kind==.module&&X.env.locals != X.env.globals))=false:=by rw[I.ok.kind];rfl
 have hiσ:i<σ.length:=by rw[I.len];grind
 have cne:=I.cne
 have tracked:∀{a:Addr} {h':Heap},(∃o,s.heap.get? a=some o/\H a=none)->Heap.SameBut a s.heap h'->HOk X.prog X.w H h':=λ{a h'} ha hs b ob e=>by
  obtain⟨_,_,hfree⟩:=ha
  refine(I.hok b ob e).stay (λc w' hc q=>(hs.2 c ?_).trans q) (λ_ q=>q) λ_ _ q=>q
  grind
 rcases hx with hk | hk
 ·refine wpAny_storeName_local hk hn (λh' hn' hs=>?_) hcls
  obtain⟨oL,_,_,hoL,_⟩:=id hn
  refine h _ ⟨I.ok,I.os,I.bare,⟨λb o e n hb hx=>?_,λb o e n hb hx=>?_,I.base.free,λb o e hx=>?_,I.base.tups,I.base.frzs,I.base.tbls⟩,⟨_,hn',λj y v' e1 e2 e3=>?_⟩,λy c e=>?_,I.free,I.freeC,λp hp=>?_,tracked ⟨oL,hoL,I.free⟩ hs,by simpa using I.len⟩ ⟨_,hs,.inl rfl⟩
  ·exact(hs.2 b (Z9 (Ω (Heap.lt_size e) I.ok.above))).trans (I.base.keep b o e n hb hx)
  ·obtain⟨sl,e1⟩:=I.base.slot b o e n hb hx
   exact⟨sl,(hs.2 b (Z9 (Ω (Heap.lt_size e) I.ok.above))).trans e1⟩
  ·obtain⟨o',e1⟩:=I.base.there b o e hx
   exact⟨o',(hs.2 b (Z9 (Ω (Heap.lt_size e) I.ok.above))).trans e1⟩
  ·by_cases hj:j=i
   ·subst hj
    rw[hi] at e1;cases e1
    rw[U6 hiσ] at e2
    cases e2
    exact⟨u,r,.inl ⟨hk,by simp⟩⟩
   ·rw[Y8 (Ne.symm hj)] at e2
    obtain⟨u',r',q⟩:=hl j y v' e1 e2 e3
    refine⟨u',r',?_⟩
    rcases q with ⟨k,e⟩ | ⟨k,c,e,z⟩
    ·refine .inl ⟨k,?_⟩
     have:y≠x:=λe=>hj (ku hN e1 (e▸hi))
     simp_all
    ·exact .inr ⟨k,c,e,z.sameBut hs (cne y c e)⟩
  ·obtain⟨w',z⟩:=I.cell y c e
   exact⟨w',z.sameBut hs (cne y c e)⟩
  ·obtain⟨e,n,ne,nf,d⟩:=I.pin p hp
   exact⟨(hs.2 p.1 ne).trans e,n,ne,nf,d⟩
 ·have hfn:X.fn x=true:=by
   simp_all
  obtain⟨c,hc⟩:=I.ok.has x (.inl hk)
  obtain⟨w',z⟩:=I.cell x c hc
  refine wpAny_storeName_cell I.ok.kind hk hc z (λh' hc' hs=>?_)
  obtain⟨oc,hoc,hocd⟩:=id z
  refine h { s with heap:=h' } ⟨I.ok,I.os,I.bare,⟨λb o e n hb hx=>?_,λb o e n hb hx=>?_,I.base.free,λb o e hx=>?_,I.base.tups,I.base.frzs,I.base.tbls⟩,⟨m,hn.sameBut hs (Ne.symm (cne x c hc)),λj y v' e1 e2 e3=>?_⟩,λy c' e=>?_,I.free,I.freeC,λp hp=>?_,tracked ⟨oc,hoc,I.freeC x c hc⟩ hs,by simpa using I.len⟩ ⟨c,hs,.inr hc⟩
  ·exact(hs.2 b (Z9 (Ω (Heap.lt_size e) (I.ok.cab x c hfn hc)))).trans (I.base.keep b o e n hb hx)
  ·obtain⟨sl,e1⟩:=I.base.slot b o e n hb hx
   exact⟨sl,(hs.2 b (Z9 (Ω (Heap.lt_size e) (I.ok.cab x c hfn hc)))).trans e1⟩
  ·obtain⟨o',e1⟩:=I.base.there b o e hx
   exact⟨o',(hs.2 b (Z9 (Ω (Heap.lt_size e) (I.ok.cab x c hfn hc)))).trans e1⟩
  ·by_cases hj:j=i
   ·subst hj
    rw[hi] at e1;cases e1
    rw[U6 hiσ] at e2
    cases e2
    exact⟨u,r,.inr ⟨.inl hk,c,hc,hc'⟩⟩
   ·rw[Y8 (Ne.symm hj)] at e2
    obtain⟨u',r',q⟩:=hl j y v' e1 e2 e3
    refine⟨u',r',?_⟩
    rcases q with q | ⟨k,c',e,z'⟩
    ·exact .inl q
    ·refine .inr ⟨k,c',e,z'.sameBut hs ?_⟩
     rintro rfl
     exact hj (ku hN e1 (I.ok.inj _ _ _ e hc▸hi))
  ·by_cases hcc:c'=c
   ·grind
   ·obtain⟨w2,z2⟩:=I.cell y c' e
    exact⟨w2,z2.sameBut hs hcc⟩
  ·obtain⟨e,n,ne,nf,d⟩:=I.pin p hp
   refine⟨(hs.2 p.1 ?_).trans e,n,ne,nf,d⟩
   grind
theorem iH{M:Model}{A:Around}{E:Value->Shared->Prop}{i:Nat}{x:Str}{v:V}{u:Value}{Q:Unit->Shared->Prop}(I:Inv X pins σ H s)(hN:X.N.Nodup)(hi:X.N[i]?=some x)(hx:Loc X.env.scope x)(r:bC v u)
  (h:∀s',Inv X pins (σ.set i (some v)) H s'->Q () s') (hf:X.fn x=true\/X.env.scope.names.lookup x=some .local:=by first | exact .inl rfl | exact .inr rfl | assumption):wpAny M A (storeName X.env x u) Q E s :=
 wU I hN hi hx r (λs' I' _=>h s' I') hf
theorem Inv.call'{s':Shared}{ch:List Addr}(I:Inv X pins σ H s)(ho:s'.os=s.os)(u:Un (frs X.stack) ch H H' s.heap s'.heap)(hok:HOk X.prog X.w H' s'.heap)(hg:AllBare s'.gens)
  (hch:∀b∈ch,(b∈X.ex\/X.s₀.heap.objs.size<=b)/\b≠X.env.locals/\(∀x c,X.env.cells.lookup x=some c->c≠b)/\∀p∈X.pn++pins,p.1≠b):Inv X pins σ H' s':=by
 obtain⟨h',g',d',t',o'⟩:=s'
 have e:= ho
 subst e
 exact I.call u hok hg hch
end
abbrev XK:=Value->Option Addr->Hp->Prop
abbrev St:=List (Option V)
abbrev VK:=V->Hp->Prop
abbrev TE:=St->Hp->VK->Prop
abbrev TT:=St->Hp->(Bool->Hp->Prop)->Prop
abbrev TA:=St->Hp->(List V->Hp->Prop)->Prop
structure Ends where
 nx:St->Hp->Prop
 rt:VK
 bk:St->Hp->Prop:=λ_ _=>False
 ct:St->Hp->Prop:=λ_ _=>False
abbrev TS:=Ends->St->Hp->Prop
def EP(X:Cx)(pins:List (Addr×Obj))(σ:St)(Q:VK)(u:Value)(s':Shared):Prop:=∃v H',Inv X pins σ H' s'/\bC v u/\Q v H'
def TP(X:Cx)(pins:List (Addr×Obj))(σ:St)(Q:Bool->Hp->Prop)(b:Bool)(s':Shared):Prop:=∃H',Inv X pins σ H' s'/\Q b H'
def AP(X:Cx)(pins:List (Addr×Obj))(σ:St)(Q:List V->Hp->Prop)(us:List Value)(s':Shared):Prop:=∃vs H',Inv X pins σ H' s'/\bx vs us/\Q vs H'
def SP(X:Cx)(pins:List (Addr×Obj))(D:Ends)(f:Flow)(s':Shared):Prop :=
 match f with
 | .next=>∃σ' H',Inv X pins σ' H' s'/\D.nx σ' H'
 | .brk=>∃σ' H',Inv X pins σ' H' s'/\D.bk σ' H'
 | .cont=>∃σ' H',Inv X pins σ' H' s'/\D.ct σ' H'
 | .ret u=>∃v σ' H',Inv X pins σ' H' s'/\bC v u/\D.rt v H'
def PE(X:Cx)(e:Expr)(t:TE):Prop :=
 ∀(pins:List (Addr×Obj)) (s:Shared) (σ:St) (H:Hp) (Q:VK),Inv X pins σ H s->t σ H Q->wpAny (model X.prog X.w) X.A (eval e X.env) (EP X pins σ Q) X.xe s
def PT(X:Cx)(e:Expr)(t:TT):Prop :=
 ∀(pins:List (Addr×Obj)) (s:Shared) (σ:St) (H:Hp) (Q:Bool->Hp->Prop),Inv X pins σ H s->t σ H Q->wpAny (model X.prog X.w) X.A (isTrue e X.env (eval e X.env)) (TP X pins σ Q) X.xe s
def PW(X:Cx)(e:Expr)(t:TT):Prop :=
 ∀(whole:Sem Value) (pins:List (Addr×Obj)) (s:Shared) (σ:St) (H:Hp) (Q:Bool->Hp->Prop),Inv X pins σ H s->t σ H Q->wpAny (model X.prog X.w) X.A (isTrue e X.env whole) (TP X pins σ Q) X.xe s
theorem PW.pt{X:Cx}{e:Expr}{t:TT}(h:PW X e t):PT X e t:=h _
def PA(X:Cx)(es:List Expr)(t:TA):Prop :=
 ∀(pos:Pos) (pins:List (Addr×Obj)) (s:Shared) (σ:St) (H:Hp) (Q:List V->Hp->Prop),Inv X pins σ H s->t σ H Q->wpAny (model X.prog X.w) X.A (spliced (backTo pos (starEach es X.env))) (AP X pins σ Q) X.xe s
def PS(X:Cx)(st:Stmt)(t:TS):Prop :=
 ∀(pins:List (Addr×Obj)) (s:Shared) (σ:St) (H:Hp) (D:Ends),Inv X pins σ H s->t D σ H->wpAny (model X.prog X.w) X.A (exec st X.env) (SP X pins D) X.xe s
def PSs(X:Cx)(st:List Stmt)(t:TS):Prop :=
 ∀(pins:List (Addr×Obj)) (s:Shared) (σ:St) (H:Hp) (D:Ends),Inv X pins σ H s->t D σ H->wpAny (model X.prog X.w) X.A (execs st X.env) (SP X pins D) X.xe s
theorem thn{α:Type}{t:Sem α}{Q Q':α->Shared->Prop}{M:Model}{A:Around}{E:Value->Shared->Prop}{s:Shared}(h:wpAny M A t Q E s)(hQ:∀a s,Q a s->Q' a s):wpAny M A t Q' E s:=wpAny_mono h hQ λ_ _ x=>x
end L2
namespace L2
open PyProof.Rows
section
variable{X:Cx}
noncomputable def jG(i:Nat):TE:=λσ H Q=>∃v,σ[i]?=some (some v)/\Q v H
noncomputable def tC(v:V):TE:=λ_ H Q=>Q v H
theorem uk{i:Nat}{x:Str}{pos:Pos}(hN:X.N[i]?=some x)(hv:Vis X.env.scope x)(hd:(x==("__debug__" : Str))=false:=by decide)(hcd:(x==("__classdict__" : Str))=false:=by decide):PE X (.Name x pos) (jG i):=by
 intro pins s σ H Q I h
 obtain⟨v,e,h⟩:=h
 obtain⟨m,hn,hl⟩:=I.loc
 obtain⟨u,r,l⟩:=hl i x v hN e hv
 have fin:EP X pins σ Q u s:=⟨v,H,I,r,h⟩
 rcases l with ⟨hk,hm⟩ | ⟨hk,c,hc,hcell⟩
 ·exact wpAny_Name (wpAny_loadName_local I.ok.kind hk hn hm fin) hd
 ·rcases hk with hk | hk
  ·exact wpAny_Name (wpAny_loadName_cell I.ok.kind hk hc hcell fin) hd
  ·exact wpAny_Name (wpAny_loadName_free I.ok.kind hk hc hcell fin hcd) hd
theorem yU{i j pos}:PE X (.Constant (.int i) j pos) (tC (.int i)):=λ_ _ _ H _ I h=>wpAny_Constant_int ⟨.int i,H,I.tok _,⟨_,rfl⟩,h⟩
theorem pe_bl{b j pos}:PE X (.Constant (.bool b) j pos) (tC (.bl b)):=λ_ _ _ H _ I h=>Constant_bool ⟨.bl b,H,I,rfl,h⟩
theorem pe_non{j pos}:PE X (.Constant .none j pos) (tC .non):=λ_ _ _ H _ I h=>Constant_none ⟨.non,H,I,rfl,h⟩
theorem m5{x j pos}:PE X (.Constant (.str x) j pos) (tC (.str x)):=λ_ _ _ H _ I h=>Calls.Constant_str ⟨.str x,H,I.tok _,⟨_,rfl⟩,h⟩
def Gl(X:Cx)(x:Str):Prop:=X.env.kindOf x=some .globalImplicit
theorem d9{E:Value->Shared->Prop}{pins:List (Addr×Obj)}{s:Shared}{σ:St}{H:Hp}{x:Str}{u:Value}{pos:Pos}{Q:Value->Shared->Prop}(I:Inv X pins σ H s)(hg:Gl X x)(hm:X.mg x=some u)(h:Q u s)
  (hd:(x==("__debug__" : Str))=false:=by decide):wpAny (model X.prog X.w) X.A (eval (.Name x pos) X.env) Q E s :=
 Calls.Name_function_global I.ok.kind hg (Calls.loadGlobal_global (by rw[I.ok.glob];exact I.mod.glob.keeps I.bk) hm h) hd
theorem lu{E:Value->Shared->Prop}{pins:List (Addr×Obj)}{s:Shared}{σ:St}{H:Hp}{x:Str}{u:Value}{pos:Pos}{Q:Value->Shared->Prop}(I:Inv X pins σ H s)(hg:Gl X x)(hm:X.mg x=none)(hv:bootBuiltins x=some u)(h:Q u s)
  (hn:x ≠ "__name__" := by decide) (hd:(x==("__debug__" : Str))=false:=by decide):wpAny (model X.prog X.w) X.A (eval (.Name x pos) X.env) Q E s:=by
 obtain⟨mb,h1,h2⟩:=I.mod.blt
 exact Calls.Name_function_global I.ok.kind hg (Calls.loadGlobal_builtin (by rw[I.ok.glob];exact I.mod.glob.keeps I.bk) hm (by rw[I.ok.blt];exact h1.keeps I.bk) ((h2 x hn).trans hv) h) hd
theorem je{x:Str}{v:V}{u:Value}{pos:Pos}(hg:Gl X x)(hm:X.mg x=some u)(r:bC v u)(hd:(x==("__debug__" : Str))=false:=by decide):PE X (.Name x pos) (tC v) :=
 λ_ _ _ H _ I h=>d9 I hg hm ⟨v,H,I,r,h⟩ hd
theorem vK{x:Str}{v:V}{u:Value}{pos:Pos}(hg:Gl X x)(hm:X.mg x=none)(hv:bootBuiltins x=some u)(r:bC v u)(hn:x ≠ "__name__" := by decide)(hd:(x==("__debug__" : Str))=false:=by decide):PE X (.Name x pos) (tC v) :=
 λ_ _ _ H _ I h=>lu I hg hm hv ⟨v,H,I,r,h⟩ hn hd
variable{a b:Expr}{ta tb:TE}{pos:Pos}
noncomputable def tB(t:TE):TT:=λσ H Q=>t σ H λx H1=>∃c,x=.bl c/\Q c H1
theorem yH{e:Expr}{t:TE}(h:PE X e t)(he:∀whole,isTrue e X.env whole=(do let v <- whole;standAt e.pos;holding [v] (truthy v)):=by intro _;rfl):PT X e (tB t):=by
 intro pins s σ H Q I hw
 refine isTrue_plain (thn (h pins s σ H _ I hw) λv s1 ⟨x,H1,I1,r1,q1⟩=>?_) (he _)
 obtain⟨d,rfl,q⟩:=q1
 cases r1
 exact wpAny_truthy_bool ⟨H1,I1,q⟩
variable{tA tB':TT}{rest:List Expr}
noncomputable def tAnd(t u:TT):TT:=λσ H Q=>t σ H λc H1=>if c=true then u σ H1 Q else Q false H1
noncomputable def tOr(t u:TT):TT:=λσ H Q=>t σ H λc H1=>if c=true then Q true H1 else u σ H1 Q
noncomputable def tNot(t:TT):TT:=λσ H Q=>t σ H λc H1=>Q (!c) H1
theorem vG(ha:PT X a tA):PW X (.BoolOp .And [a] pos) tA:=by
 intro wh pins s σ H Q I h
 refine isTrue_and (thn (ha pins s σ H Q I h) λc s1 e=>?_)
 cases c with
 | true=>exact isTrue_and_nil e
 | false=>exact e
theorem pw_or1(ha:PT X a tA):PW X (.BoolOp .Or [a] pos) tA:=by
 intro wh pins s σ H Q I h
 refine isTrue_or (thn (ha pins s σ H Q I h) λc s1 e=>?_)
 cases c with
 | false=>exact isTrue_or_nil e
 | true=>exact e
theorem yG(ha:PT X a tA)(hb:PW X (.BoolOp .And (b::rest) pos) tB'):PW X (.BoolOp .And (a::b::rest) pos) (tAnd tA tB'):=by
 intro wh pins s σ H Q I h
 refine isTrue_and (thn (ha pins s σ H _ I h) λc s1 ⟨H1,I1,q1⟩=>?_)
 cases c with
 | true=>exact hb wh pins s1 σ H1 Q I1 q1
 | false=>assumption
theorem pw_or(ha:PT X a tA)(hb:PW X (.BoolOp .Or (b::rest) pos) tB'):PW X (.BoolOp .Or (a::b::rest) pos) (tOr tA tB'):=by
 intro wh pins s σ H Q I h
 refine isTrue_or (thn (ha pins s σ H _ I h) λc s1 ⟨H1,I1,q1⟩=>?_)
 cases c with
 | true=>assumption
 | false=>exact hb wh pins s1 σ H1 Q I1 q1
theorem yJ(ha:PT X a tA):PT X (.UnaryOp .Not a pos) (tNot tA):=by
 intro pins s σ H Q I h
 exact isTrue_not (ha pins s σ H (λc H1=>Q (!c) H1) I h)
noncomputable def tAndV(ta tb:TE):TE:=λσ H Q=>ta σ H λx H1=>∃c,x=.bl c/\if c=true then tb σ H1 Q else Q (.bl false) H1
noncomputable def tOrV(ta tb:TE):TE:=λσ H Q=>ta σ H λx H1=>∃c,x=.bl c/\if c=true then Q (.bl true) H1 else tb σ H1 Q
noncomputable def tNotV(ta:TE):TE:=λσ H Q=>ta σ H λx H1=>∃c,x=.bl c/\Q (.bl (!c)) H1
theorem pe_one{op}{t:TE}(h:PE X a t):PE X (.BoolOp op [a] pos) t:=λpins s σ H Q I hw=>BoolOp_one (h pins s σ H Q I hw)
theorem pe_and(ha:PE X a ta)(hb:PE X (.BoolOp .And (b::rest) pos) tb):PE X (.BoolOp .And (a::b::rest) pos) (tAndV ta tb):=by
 intro pins s σ H Q I h
 refine BoolOp_and (thn (ha pins s σ H _ I h) λv s1 ⟨x,H1,I1,r1,q1⟩=>?_)
 obtain⟨c,rfl,q1⟩:=q1
 cases r1
 refine wpAny_truthy_bool ?_
 cases c with
 | true=>exact hb pins s1 σ H1 Q I1 q1
 | false=>exact⟨.bl false,H1,I1,rfl,q1⟩
theorem pe_or(ha:PE X a ta)(hb:PE X (.BoolOp .Or (b::rest) pos) tb):PE X (.BoolOp .Or (a::b::rest) pos) (tOrV ta tb):=by
 intro pins s σ H Q I h
 refine BoolOp_or (thn (ha pins s σ H _ I h) λv s1 ⟨x,H1,I1,r1,q1⟩=>?_)
 obtain⟨c,rfl,q1⟩:=q1
 cases r1
 refine wpAny_truthy_bool ?_
 cases c with
 | false=>exact hb pins s1 σ H1 Q I1 q1
 | true=>exact⟨.bl true,H1,I1,rfl,q1⟩
theorem pe_not(ha:PE X a ta):PE X (.UnaryOp .Not a pos) (tNotV ta):=by
 intro pins s σ H Q I h
 refine UnaryOp_ (thn (ha pins s σ H _ I h) λv s1 ⟨x,H1,I1,r1,q1⟩=>?_)
 obtain⟨c,rfl,q1⟩:=q1
 cases r1
 exact not_of (wpAny_truthy_bool ⟨.bl (!c),H1,I1,rfl,q1⟩)
noncomputable def tIf(t:TT)(ta tb:TE):TE:=λσ H Q=>t σ H λc H1=>if c=true then ta σ H1 Q else tb σ H1 Q
theorem yV{c:Expr}(hc:PT X c tA)(ha:PE X a ta)(hb:PE X b tb):PE X (.IfExp c a b pos) (tIf tA ta tb):=by
 intro pins s σ H Q I h
 refine wpAny_IfExp (thn (hc pins s σ H _ I h) λd s1 ⟨H1,I1,q1⟩=>?_)
 cases d with
 | true=>exact ha pins s1 σ H1 Q I1 q1
 | false=>exact hb pins s1 σ H1 Q I1 q1
end
end L2
namespace L2
open PyProof.Rows
def SqL(K:ε)(H:Hp)(a:Addr)(xs:List V):Prop :=
 Rd H a (.lst xs) \/
  ∃(o:Obj) (its:Array Value) (n:Nat),K.lookup a=some o/\o.cls=.type "list" /\ o.dict=none/\o.data=.seq its n/\its.size<=sizeLine/\bx xs its.toList
def SqT(K:ε)(H:Hp)(a:Addr)(xs:List V):Prop :=
 Rd H a (.tup xs) \/
  ∃(o:Obj) (its:Array Value) (n:Nat),K.lookup a=some o/\o.cls=.type "tuple" /\ o.data=.seq its n/\its.size<=sizeLine/\bx xs its.toList
noncomputable def absV:Value->Option V
 | .none=>some .non
 | .bool b=>some (.bl b)
 | .int i _=>some (.int i)
 | .str x _=>some (.str x)
 | .bytes b _=>some (.byt b)
 | .float b _=>some (.flt b)
 | .ref a=>some (.ref a)
 | .type n=>some (.ty n)
 | _=>none
theorem bC.abs{x:V}{u:Value}(r:bC x u):absV u=some x:=by
 cases x with
 | non=>cases r;rfl
 | bl _=>cases r;rfl
 | int _=>obtain⟨t,rfl⟩:=r;rfl
 | str _=>obtain⟨t,rfl⟩:=r;rfl
 | byt _=>obtain⟨t,rfl⟩:=r;rfl
 | flt _=>obtain⟨t,rfl⟩:=r;rfl
 | ref _=>cases r;rfl
 | ty _=>cases r;rfl
theorem bC.inj{x y:V}{u:Value}(r:bC x u)(q:bC y u):x=y:=Option.some.inj (r.abs.symm.trans q.abs)
theorem bx.inj:∀{xs ys:List V} {us:List Value},bx xs us->bx ys us->xs=ys
 | _,_,_,.nil,.nil=>rfl
 | _,_,_,.cons r t,.cons r' t'=>by rw[r.inj r',bx.inj t t']
section
variable{X:Cx}{pins:List (Addr×Obj)}{σ:St}{H:Hp}{s:Shared}{a:Addr}{xs ys:List V}
theorem SqT.of{K:ε}(h:H a=some (.tup xs)):SqT K H a xs:=.inl (.inl h)
theorem Inv.list(I:Inv X pins σ H s)(h:SqL X.K H a xs):∃its:List Value,bx xs its/\PlainL s.heap a its.toArray/\xs.length<=sizeLine:=by
 rcases h with h | ⟨o,its,n,hk,hc,hd,hs,hz,r⟩
 ·obtain⟨z,its,n,r,e⟩:=h.ok I.hok
  exact⟨its,r,⟨_,n,e,rfl,rfl,rfl⟩,z⟩
 ·refine⟨its.toList,r,⟨o,n,I.kIn a o hk,hc,hd,by assumption⟩,?_⟩
  have e:=r.length
  simp_all
theorem Inv.tuple(I:Inv X pins σ H s)(h:SqT X.K H a xs):∃its:List Value,bx xs its/\IsTup s.heap a its.toArray/\xs.length<=sizeLine:=by
 rcases h with h | ⟨o,its,n,hk,hc,hs,hz,r⟩
 ·obtain⟨z,its,r,p⟩:=h.ok I.hok
  grind
 ·refine⟨its.toList,r,⟨o,I.kIn a o hk,hc,n,by assumption⟩,?_⟩
  have e:=r.length
  simp_all
theorem Inv.list_inj(I:Inv X pins σ H s)(h:SqL X.K H a xs)(h':SqL X.K H a ys):xs=ys:=by
 obtain⟨its,r,⟨o,n,e,_,_,d⟩,_⟩:=I.list h
 obtain⟨its',r',⟨o',n',e',_,_,d'⟩,_⟩:=I.list h'
 rw[e] at e';cases e'
 rw[d] at d'
 injection d' with d1 _
 have:its=its':=by simp_all
 subst this
 exact r.inj r'
theorem Inv.tuple_inj(I:Inv X pins σ H s)(h:SqT X.K H a xs)(h':SqT X.K H a ys):xs=ys:=by
 obtain⟨its,r,⟨o,e,_,n,d⟩,_⟩:=I.tuple h
 obtain⟨its',r',⟨o',e',_,n',d'⟩,_⟩:=I.tuple h'
 rw[e] at e';cases e'
 rw[d] at d'
 injection d' with d1 _
 have:its=its':=by simp_all
 subst this
 exact r.inj r'
end
abbrev Cx.wish(X:Cx)(E:Value->Shared->Prop):Cx:={ X with xe:=E }
abbrev Cx.nox(X:Cx):Cx:=X.wish λ_ _=>False
theorem Cx.Ok.wish{X:Cx}(ok:X.Ok)(E:Value->Shared->Prop):(X.wish E).Ok :=
 ⟨ok.mod,ok.kind,ok.glob,ok.blt,ok.above,ok.inj,ok.has,ok.cab,ok.hd,ok.frames,ok.stk,ok.exf,ok.bs,ok.bsz,ok.noex,ok.exfs,ok.funs,ok.frf⟩
theorem Cx.Ok.unwish{X:Cx}{E:Value->Shared->Prop}(ok:(X.wish E).Ok):X.Ok :=
 ⟨ok.mod,ok.kind,ok.glob,ok.blt,ok.above,ok.inj,ok.has,ok.cab,ok.hd,ok.frames,ok.stk,ok.exf,ok.bs,ok.bsz,ok.noex,ok.exfs,ok.funs,ok.frf⟩
section
variable{X:Cx}{pins:List (Addr×Obj)}{σ:St}{H:Hp}{s:Shared}{E:Value->Shared->Prop}
theorem Inv.wish(I:Inv X pins σ H s)(E:Value->Shared->Prop):Inv (X.wish E) pins σ H s:=⟨I.ok.wish E,I.os,I.bare,I.base,I.loc,I.cell,I.free,I.freeC,I.pin,I.hok,I.len⟩
theorem Inv.unwish(I:Inv (X.wish E) pins σ H s):Inv X pins σ H s:=⟨I.ok.unwish,I.os,I.bare,I.base,I.loc,I.cell,I.free,I.freeC,I.pin,I.hok,I.len⟩
theorem SP.unwish{D:Ends}{f:Flow}{s':Shared}(h:SP (X.wish E) pins D f s'):SP X pins D f s':=by
 cases f with
 | next=>obtain⟨σ',H',I,q⟩:=h;exact⟨σ',H',I.unwish,q⟩
 | brk=>obtain⟨σ',H',I,q⟩:=h;exact⟨σ',H',I.unwish,q⟩
 | cont=>obtain⟨σ',H',I,q⟩:=h;exact⟨σ',H',I.unwish,q⟩
 | ret u=>obtain⟨v,σ',H',I,r,q⟩:=h;exact⟨v,σ',H',I.unwish,r,q⟩
theorem PSs.nox{st:List Stmt}{t:TS}(h:PSs X.nox st t):PSs X st t:=λpins s σ H D I hw =>
 wpAny_mono (h pins s σ H D (I.wish _) hw) (λ_ _ q=>q.unwish) λ_ _ z=>False.elim z
end
section
variable{X:Cx}{st:Stmt}{rest:List Stmt}{t u:TS}{e:Expr}{te:TE}{pos:Pos}
noncomputable def tNext:TS:=λD σ H=>D.nx σ H
noncomputable def tSeq(t u:TS):TS:=λD σ H=>t { D with nx:=u D } σ H
theorem vH:PSs X [] tNext:=λ_ _ σ H _ I h=>wpAny_execs_nil ⟨σ,H,I,h⟩
theorem j9(h1:PS X st t)(h2:PSs X rest u):PSs X (st::rest) (tSeq t u):=by
 intro pins s σ H D I h
 refine wpAny_execs_cons (thn (h1 pins s σ H { D with nx:=u D } I h) λf s1 q=>?_)
 cases f with
 | next =>
  obtain⟨σ',H',I',q⟩:=q
  exact h2 pins s1 σ' H' D I' q
 | ret v=>exact q
 | brk=>exact q
 | cont=>exact q
theorem mj(h1:PS X st t):PSs X [st] t:=by
 intro pins s σ H D I h
 refine wpAny_execs_cons (thn (h1 pins s σ H D I h) λf s1 q=>?_)
 cases f with
 | next=>exact wpAny_execs_nil q
 | ret v=>exact q
 | brk=>exact q
 | cont=>exact q
theorem Inv.quiet{pins:List (Addr×Obj)}{σ:St}{H:Hp}{s:Shared}(I:Inv X pins σ H s):interactive X.env=false:=by simp [interactive,I.ok.kind]
noncomputable def rJ(te:TE):TS:=λD σ H=>te σ H λ_ H1=>D.nx σ H1
theorem ml(he:PE X e te)(hs:swapsWith e none pos.line X.env=pure false:=by rfl):PS X (.Expr e pos) (rJ te):=by
 intro pins s σ H D I h
 exact wpAny_Expr_any (thn (he pins s σ H _ I h) λv s1 ⟨x,H1,I1,r1,q1⟩=>⟨σ,H1,I1,q1⟩) I.quiet hs
noncomputable def tRet(te:TE):TS:=λD σ H=>te σ H D.rt
theorem ui(he:PE X e te):PS X (.Return (some e) pos) (tRet te):=by
 intro pins s σ H D I h
 exact wpAny_Return_some (thn (he pins s σ H _ I h) λv s1 ⟨x,H1,I1,r1,q1⟩=>⟨x,σ,H1,I1,r1,q1⟩)
noncomputable def tIfS(c:TT)(t u:TS):TS:=λD σ H=>c σ H λb H1=>if b=true then t D σ H1 else u D σ H1
theorem ps_if{c:Expr}{a b:List Stmt}{tc:TT}(hc:PT X c tc)(ha:PSs X a t)(hb:PSs X b u):PS X (.If c a b pos) (tIfS tc t u):=by
 intro pins s σ H D I h
 refine wpAny_If (thn (hc pins s σ H _ I h) λd s1 ⟨H1,I1,q1⟩=>?_)
 cases d with
 | true=>exact ha pins s1 σ H1 D I1 q1
 | false=>exact hb pins s1 σ H1 D I1 q1
noncomputable def tNever:TS:=λ_ _ _=>False
theorem yL:PS X st tNever:=λ_ _ _ _ _ _ h=>h.elim
end
abbrev TG:=V->St->Hp->(St->Hp->Prop)->Prop
abbrev TGs:=List V->St->Hp->(St->Hp->Prop)->Prop
def PG(X:Cx)(target:Expr)(t:TG):Prop :=
 ∀(pins:List (Addr×Obj)) (s:Shared) (σ:St) (H:Hp) (v:V) (u:Value) (Q:St->Hp->Prop),Inv X pins σ H s->bC v u->t v σ H Q ->
  wpAny (model X.prog X.w) X.A (assign target X.env u) (λ_ s'=>∃σ' H',Inv X pins σ' H' s'/\Q σ' H') X.xe s
def PGs(X:Cx)(ts:List Expr)(t:TGs):Prop :=
 ∀(pins:List (Addr×Obj)) (s:Shared) (σ:St) (H:Hp) (vs:List V) (us:List Value) (Q:St->Hp->Prop),Inv X pins σ H s->bx vs us->t vs σ H Q ->
  wpAny (model X.prog X.w) X.A (assignInOrder ((assignEach ts X.env).map (·.2)) us) (λ_ s'=>∃σ' H',Inv X pins σ' H' s'/\Q σ' H') X.xe s
section
variable{X:Cx}{pos:Pos}
noncomputable def wb(i:Nat):TG:=λv σ H Q=>Q (σ.set i (some v)) H
theorem bW{i:Nat}{x:Str}(hN:X.N.Nodup)(hi:X.N[i]?=some x)(hx:Loc X.env.scope x)(hf:X.fn x=true\/X.env.scope.names.lookup x=some .local:=by first | exact .inl rfl | exact .inr rfl | assumption):PG X (.Name x pos) (wb i):=by
 intro pins s σ H v u Q I r h
 exact wpAny_assign_Name (iH I hN hi hx r (λs' I'=>⟨_,H,I',h⟩) hf)
noncomputable def gNil:TGs:=λvs σ H Q=>vs=[]/\Q σ H
noncomputable def gCons(t:TG)(u:TGs):TGs:=λvs σ H Q=>∃v r,vs=v::r/\t v σ H λσ' H'=>u r σ' H' Q
theorem vI:PGs X [] gNil:=by
 intro pins s σ H vs us Q I r h
 obtain⟨e,h⟩:=h
 subst e
 exact assignInOrder_nil ⟨σ,H,I,h⟩
theorem si{e:Expr}{es:List Expr}{t:TG}{u:TGs}(h1:PG X e t)(h2:PGs X es u)
  (hs:(assignEach (e::es) X.env).map (·.2)=assign e X.env::(assignEach es X.env).map (·.2):=by rfl):PGs X (e::es) (gCons t u):=by
 intro pins s σ H vs us Q I r h
 obtain⟨v,vr,e1,h⟩:=h
 subst e1
 cases r with
 | cons r rr =>
  rw[hs]
  refine assignInOrder_cons (thn (h1 pins s σ H _ _ _ I r h) λ_ s1 ⟨σ1,H1,I1,q1⟩=>?_)
  exact h2 pins s1 σ1 H1 _ _ Q I1 rr q1
noncomputable def gTup(K:ε)(n:Nat)(t:TGs):TG:=λv σ H Q=>∃a xs,v=.ref a/\SqT K H a xs/\xs.length=n/\t xs σ H Q
theorem yP{es:List Expr}{k:Nat}{t:TGs}{n:Nat}(hc:X.calm=true)(h:PGs X es t)
  (hn:(assignEach es X.env).length=n:=by rfl) (hst:(assignEach es X.env).findIdx? (·.1)=none:=by rfl):PG X (.Tuple es k pos) (gTup X.K n t):=by
 intro pins s σ H v u Q I r hw
 obtain⟨a,xs,e1,hq,hl,hw⟩:=hw
 subst e1
 cases r
 obtain⟨its,rv,ht,hz⟩:=I.tuple hq
 refine assign_Tuple_tuple (I.ok.hd hc) ht (by simp [hn,<-hl,rv.length]) hst λh' hx=>?_
 have I1:Inv X pins σ H { s with heap:=h' }:=I.kept (t':=s.toks) λb o e=>hx b o (Z9 (Heap.lt_size e)) e
 exact h pins _ σ H xs _ Q I1 (by assumption) hw
noncomputable def tAsg(te:TE)(g:TG):TS:=λD σ H=>te σ H λx H1=>g x σ H1 D.nx
theorem ps_asg{tg e:Expr}{te:TE}{g:TG}(he:PE X e te)(hg:PG X tg g)(hs:swapsWithSole [tg] e pos.line X.env=pure false:=by rfl)(hw:swappedStores [tg] e X.env=pure none:=by rfl)
  (h1:(assignEach [tg] X.env).map (·.2)=[assign tg X.env]:=by rfl):PS X (.Assign [tg] e pos) (tAsg te g):=by
 intro pins s σ H D I h
 refine wpAny_Assign_stores (thn (he pins s σ H _ I h) λv s1 ⟨x,H1,I1,r1,q1⟩=>?_) hs hw
 rw[h1]
 exact thn (hg pins s1 σ H1 x v _ I1 r1 q1) λ_ s2 q=>q
theorem uh{i:Nat}{x:Str}{e:Expr}{te:TE}{pos':Pos}(hN:X.N.Nodup)(hi:X.N[i]?=some x)(hx:Loc X.env.scope x)(he:PE X e te)(hs:swapsWith e (some (.Name x pos')) pos.line X.env=pure false:=by rfl)(hf:X.fn x=true\/X.env.scope.names.lookup x=some .local:=by first | exact .inl rfl | exact .inr rfl | assumption) :
  PS X (.Assign [.Name x pos'] e pos) (tAsg te (wb i)):=by
 intro pins s σ H D I h
 refine wpAny_Assign_Name (thn (he pins s σ H _ I h) λv s1 ⟨y,H1,I1,r1,q1⟩=>?_) hs
 exact iH I1 hN hi hx r1 (λs2 I2=>⟨_,H1,I2,q1⟩) hf
end
section
variable{X:Cx}{pos:Pos}
end
structure It where
 go:Nat->Hp->Prop
 yld:Nat->Hp->V->Hp->Prop
 stop:Nat->Hp->Prop
def kZ(X:Cx)(pins:List (Addr×Obj))(H:Hp)(b:Addr):Prop :=
 H b=none/\b≠X.env.locals/\b∉X.fs/\(b∈X.ex\/X.s₀.heap.objs.size<=b)/\(∀x c,X.env.cells.lookup x=some c->c≠b)/\∀p∈X.pn++pins,p.1≠b
theorem Inv.fpOk{X:Cx}{pins:List (Addr×Obj)}{σ:St}{H H':Hp}{s:Shared}{b:Addr}(I:Inv X pins σ H s)(hb:s.heap.objs.size<=b)(hn:H' b=none):kZ X pins H' b:=by
 refine⟨hn,Nat.ne_of_gt (Ω I.lt hb),I.nofs hb,.inr (Y9 I.sz hb),λx c e z=>?_,λp hp z=>?_⟩
 ·obtain⟨v,q⟩:=I.cell x c e
  exact absurd (Ω q.lt (by simp_all)) (V2 _)
 ·exact absurd (Ω (Heap.lt_size (I.pin p hp).1) (by simp_all)) (V2 _)
structure Turn(P:Program)(w:World)(K:ε)(tg:Expr)(J:It)(fp:List Addr)(it:Addr)(tn:Nat->Heap->Prop):Prop where
 mem:it∈fp
 obj:∀i h,tn i h->∀b∈fp,∃o,h.get? b=some o/\∀v,o.data≠.cell v
 keep:∀i h h',tn i h->(∀b∈fp,∀o,h.get? b=some o->h'.get? b=some o)->tn i h'
 item:∀(X:Cx),X.prog=P->X.w=w->X.K=K->X.calm=true->∀(i:Nat) (pins:List (Addr×Obj)) (s:Shared) (σ:St) (H:Hp) (E:Value->Shared->Prop),Inv X pins σ H s->(∀b∈fp,kZ X pins H b)->tn i s.heap->J.go i H ->
  wpAny (model P w) X.A (pyNext (.ref it)) (λr s1=>∃u,r=some u /\
   wpAny (model P w) X.A (letOwnedTupleGo tg (.ref it) u) (λ_ s2=>∃x H',Inv X pins σ H' s2/\bC x u/\J.yld i H x H'/\tn (i+1) s2.heap/\∀b∈fp,H' b=none) E s1) E s
 done:∀(X:Cx),X.prog=P->X.w=w->X.K=K->X.calm=true->∀(i:Nat) (pins:List (Addr×Obj)) (s:Shared) (σ:St) (H:Hp) (E:Value->Shared->Prop),Inv X pins σ H s->(∀b∈fp,kZ X pins H b)->tn i s.heap->J.stop i H ->
  wpAny (model P w) X.A (pyNext (.ref it)) (λr s1=>r=none/\Inv X pins σ H s1) E s
 self:∀(A:Around) (i:Nat) (s:Shared) (Q:Value->Shared->Prop) (E:Value->Shared->Prop),tn i s.heap->Q (.ref it) s->wpAny (model P w) A (pyIter (.ref it)) Q E s
abbrev TI:=St->Hp->(It->Hp->Prop)->Prop
def PIE(X:Cx)(pins:List (Addr×Obj))(σ:St)(tg:Expr)(R:It->Hp->Prop)(itv:Value)(s2:Shared):Prop :=
 ∃(it:Addr) (fp:List Addr) (tn:Nat->Heap->Prop) (J:It) (H':Hp),itv=.ref it/\Inv X pins σ H' s2/\Turn X.prog X.w X.K tg J fp it tn/\tn 0 s2.heap/\(∀b∈fp,kZ X pins H' b)/\R J H'
def PI(X:Cx)(tg iter:Expr)(wi:TI):Prop :=
 ∀(pins:List (Addr×Obj)) (s:Shared) (σ:St) (H:Hp) (R:It->Hp->Prop),Inv X pins σ H s->wi σ H R ->
  wpAny (model X.prog X.w) X.A (eval iter X.env) (λv s1=>wpAny (model X.prog X.w) X.A (pyIter v) (PIE X pins σ tg R) X.xe s1) X.xe s
theorem sQ{M:Model}{A:Around}{E:Value->Shared->Prop}{s:Shared}{tg:Expr}{it:Addr}{u:Value}{o:Obj}{n:String}{vs:Array Value}{Q:Unit->Shared->Prop}(ho:s.heap.get? it=some o)(hc:o.cls=.type n)(hd:o.data=.fields vs)
    (hn:["enumerate", "zip", "dict_itemiterator", "dict_reverseitemiterator", "odict_iterator", "itertools.zip_longest", "itertools.pairwise"].contains n=false) (hQ:Q () s):wpAny M A (letOwnedTupleGo tg (.ref it) u) Q E s:=by
  cases tg<;>first
    | exact wpAny_pure hQ
    | (cases u<;>first
        | exact wpAny_pure hQ
        | (refine wpAny_bind (wpAny_load ho ?_)
           rw[hc,hd]
           show wpAny M A (if (["enumerate", "zip", "dict_itemiterator", "dict_reverseitemiterator", "odict_iterator", "itertools.zip_longest", "itertools.pairwise"].contains n&&vs[0]?==some (rawInt _))=true then _ else _) Q E s
           rw[if_neg (by intro h;rw[hn,Bool.false_and] at h;cases h)]
           exact wpAny_pure hQ))
noncomputable def Itl(K:ε)(a:Addr):It :=
 ⟨λi H=>∃xs x,SqL K H a xs/\xs[i]?=some x,λi H x H'=>H'=H/\∀xs,SqL K H a xs->xs[i]?=some x,λi H=>∃xs,SqL K H a xs/\xs.length<=i⟩
noncomputable def Itt(K:ε)(a:Addr):It :=
 ⟨λi H=>∃xs x,SqT K H a xs/\xs[i]?=some x,λi H x H'=>H'=H/\∀xs,SqT K H a xs->xs[i]?=some x,λi H=>∃xs,SqT K H a xs/\xs.length<=i⟩
noncomputable def Itr(lo:Int)(n:Nat):It:=⟨λi _=>i<n,λi H x H'=>H'=H/\x=.int (lo+i),λi _=>n<=i⟩
theorem wN{P:Program}{w:World}{K:ε}{tg:Expr}(a it:Addr):Turn P w K tg (Itl K a) [it] it (λi h=>h.IsListIter it a i) where
 mem:=by simp
 obj:=λi h st b hb=>by
  have e:b=it:=by simp_all
  subst e
  obtain⟨o,e,c,d⟩:=st
  simp_all
 keep:=λi h h' st k=>st.at λo e=>k it (by simp) o e
 item:=by
  intro X hP hw hK hc i pins s σ H E I hf st hg
  subst hP hw hK
  obtain⟨xs,x,hq,hx⟩:=hg
  obtain⟨its,rv,p,hz⟩:=I.list hq
  obtain⟨u,hu,ru⟩:=rv.get hx
  obtain⟨f0,f1,f2,f3,f4,f5⟩:=hf it (by simp)
  refine wpAny_pyNext_list_item st p.isList (x:=u) (by simp_all) λh' st' sb=>?_
  have I1:Inv X pins σ H { s with heap:=h' }:=I.turned (t':=s.toks) (λb o hb e=>(sb.2 b hb).trans e) f0 f1 f3 f4 f5
  obtain⟨o,e,c,d⟩:=id st'
  exact⟨u,rfl,sQ (s:={ s with heap:=h' }) e c d (by decide) ⟨x,H,I1,ru,⟨rfl,λys hy=>by rw[I.list_inj hy hq];exact hx⟩,st',λb hb=>(hf b hb).1⟩⟩
 done:=by
  intro X hP hw hK hc i pins s σ H E I hf st hg
  subst hP hw hK
  obtain⟨xs,hq,hx⟩:=hg
  obtain⟨its,rv,p,hz⟩:=I.list hq
  obtain⟨f0,f1,f2,f3,f4,f5⟩:=hf it (by simp)
  have hl:=rv.length
  exact wpAny_pyNext_list_end (I.ok.hd hc) st p.isList (by simp_all) λh' eb=>⟨rfl,I.turned (t':=s.toks) (λb o hb e=>eb b o hb e) f0 f1 f3 f4 f5⟩
 self:=λ_ _ _ _ _ st h=>wpAny_pyIter_listiter st h
theorem tL{P:Program}{w:World}{K:ε}{tg:Expr}(a it:Addr):Turn P w K tg (Itt K a) [it] it (λi h=>h.IsTupleIter it a i) where
 mem:=by simp
 obj:=λi h st b hb=>by
  have e:b=it:=by simp_all
  subst e
  obtain⟨o,e,c,d⟩:=st
  simp_all
 keep:=λi h h' st k=>st.at λo e=>k it (by simp) o e
 item:=by
  intro X hP hw hK hc i pins s σ H E I hf st hg
  subst hP hw hK
  obtain⟨xs,x,hq,hx⟩:=hg
  obtain⟨its,rv,p,hz⟩:=I.tuple hq
  obtain⟨u,hu,ru⟩:=rv.get hx
  obtain⟨f0,f1,f2,f3,f4,f5⟩:=hf it (by simp)
  refine wpAny_pyNext_tuple_item st (show s.heap.IsTuple a its.toArray from p) (x:=u) (by simp_all) λh' st' sb=>?_
  have I1:Inv X pins σ H { s with heap:=h' }:=I.turned (t':=s.toks) (λb o hb e=>(sb.2 b hb).trans e) f0 f1 f3 f4 f5
  obtain⟨o,e,c,d⟩:=id st'
  exact⟨u,rfl,sQ (s:={ s with heap:=h' }) e c d (by decide) ⟨x,H,I1,ru,⟨rfl,λys hy=>by rw[I.tuple_inj hy hq];exact hx⟩,st',λb hb=>(hf b hb).1⟩⟩
 done:=by
  intro X hP hw hK hc i pins s σ H E I hf st hg
  subst hP hw hK
  obtain⟨xs,hq,hx⟩:=hg
  obtain⟨its,rv,p,hz⟩:=I.tuple hq
  obtain⟨f0,f1,f2,f3,f4,f5⟩:=hf it (by simp)
  have hl:=rv.length
  exact wpAny_pyNext_tuple_end (I.ok.hd hc) st (show s.heap.IsTuple a its.toArray from p) (by simp_all) λh' eb=>⟨rfl,I.turned (t':=s.toks) (λb o hb e=>eb b o hb e) f0 f1 f3 f4 f5⟩
 self:=λ_ _ _ _ _ st h=>wpAny_pyIter_tupleiter st h
theorem tM{P:Program}{w:World}{K:ε}{tg:Expr}(it:Addr)(lo:Int)(n:Nat):Turn P w K tg (Itr lo n) [it] it (λi h=>IsRangeIter h it (lo+(i:Nat)*1) ((n:Int)-(i:Nat)) 1) where
 mem:=by simp
 obj:=λi h st b hb=>by
  simp_all
 keep:=λi h h' st k=>k it (by simp) _ st
 item:=by
  intro X hP hw hK hc i pins s σ H E I hf st hg
  subst hP hw hK
  obtain⟨f0,f1,f2,f3,f4,f5⟩:=hf it (by simp)
  have W:=Walks.range (prog:=X.prog) (w:=X.w) (I.ok.hd hc) it lo 1 n
  refine W.item i s _ _ hg st λv h' tk hv st' kk=>?_
  obtain⟨t,rfl⟩:=hv
  have I1:Inv X pins σ H { s with heap:=h',toks:=tk }:=I.turned (λb o hb e=>kk b o (by simp_all) e) f0 f1 f3 f4 f5
  refine⟨_,rfl,sQ st' rfl rfl (by decide) ⟨.int (lo+i),H,I1,⟨t,?_⟩,⟨rfl,rfl⟩,st',λb hb=>(hf b hb).1⟩⟩
  simp
 done:=by
  intro X hP hw hK hc i pins s σ H E I hf st hg
  obtain⟨f0,f1,f2,f3,f4,f5⟩:=hf it (by simp)
  exact wpAny_pyNext_range_end (I.ok.hd hc) st (by have:n<=i:=hg;omega) λh' eb=>⟨rfl,I.turned (λb o hb e=>eb b o hb e) f0 f1 f3 f4 f5⟩
 self:=λ_ _ _ _ _ st h=>wpAny_pyIter_rangeiter st h
end L2
namespace L2
open PyProof.Rows
section
variable{X:Cx}{tg:Expr}
theorem yF{pins:List (Addr×Obj)}{σ:St}{H:Hp}{s:Shared}{R:It->Hp->Prop}{E:Value->Shared->Prop}{lo hi:Int}{t u v:Tok}{tk:Nat}(I:Inv X pins σ H s)(h1 : -(2 ^ 62)<=lo)(h2:lo<2 ^ 62)(h3 : -(2 ^ 62)<=hi)(h4:hi<2 ^ 62)
  (q:R (Itr lo (hi-lo).toNat) H):wpAny (model X.prog X.w) X.A (pyIter (.ref s.heap.objs.size)) (PIE X pins σ tg R) E { s with heap:=s.heap.push { cls:=.type "range",data:=.fields #[.int lo t,.int hi u,.int 1 v] },toks:=tk }:=by
 refine wpAny_pyIter_range (IsRange.new ..) (small_one h1 h2 h3 h4) ?_
 have I1:Inv X pins σ H { s with heap:=s.heap.push { cls:=.type "range",data:=.fields #[.int lo t,.int hi u,.int 1 v] },toks:=tk }:=I.kept λb o e=>Heap.get?_push_of_some _ e
 refine⟨(s.heap.push { cls:=.type "range",data:=.fields #[.int lo t,.int hi u,.int 1 v] }).objs.size,[(s.heap.push { cls:=.type "range",data:=.fields #[.int lo t,.int hi u,.int 1 v] }).objs.size],_,_,H,rfl,
  I1.kept (t':=tk) λb o e=>Heap.get?_push_of_some _ e,tM _ lo (hi-lo).toNat,?_,λb hb=>?_,q⟩
 ·have e1:lo+((0:Nat):Int)*1=lo:=by simp
  have e2:(((hi-lo).toNat:Nat):Int)-((0:Nat):Int)=Builtin.Range.rangeSize lo hi 1:=by rw[rangeSize_one];omega
  rw[e1,e2]
  exact Heap.get?_push_size _ rfl
 ·have e:b=(s.heap.push { cls:=.type "range",data:=.fields #[.int lo t,.int hi u,.int 1 v] }).objs.size:=by simp_all
  subst e
  exact I1.fpOk (ο _) (I1.hok.fresh (ο _))
noncomputable def iRng1(ta:TA):TI:=λσ H R=>ta σ H λvs H1=>∃j:Int,vs=[.int j] /\ -(2 ^ 62)<=j/\j<2 ^ 62/\R (Itr 0 j.toNat) H1
theorem xi{a:Expr}{ta:TA}{p pos:Pos}(hg:Gl X "range")(hm:X.mg "range" = none)(ha:PA X [a] ta)(hs:starEach [a] X.env=[(false,eval a X.env)]:=by rfl):PI X tg (.Call (.Name "range" p) [a] [] pos) (iRng1 ta):=by
 intro pins s σ H R I h
 refine Call_ (lu I hg hm boot_range (PyProof.Rows.callWith_type1 (thn (ha pos pins s σ H _ I h) λus s1 ⟨vs,H1,I1,r1,q1⟩=>?_) hs rfl))
 obtain⟨j,e,q1,q2,q⟩:=q1
 subst e
 cases r1 with
 | cons r rr =>
  cases rr
  obtain⟨t,rfl⟩:=r
  exact call_range_1 (yF I1 (by omega) (by omega) q1 q2 (by simp_all))
def tFor(wi:TI)(g:TG)(tb:TS):TS:=λD σ H=>wi σ H λJ H1=>∃W:Nat->Nat->St->Hp->Prop,(∃m,W 0 m σ H1)/\∀i m σ H,W i m σ H ->
 (J.stop i H/\D.nx σ H)\/(J.go i H/\∃N:St->Hp->Prop,(∀σ' H',N σ' H'->∃m',m'<m/\W (i+1) m' σ' H')/\∀x H',J.yld i H x H'->g x σ H' λσ2 H2=>tb { D with nx:=N,ct:=N,bk:=D.nx } σ2 H2)
noncomputable def m4(fp:List Addr)(h:Heap):List (Addr×Obj):=fp.filterMap λb=>(h.get? b).map λo=>(b,o)
theorem hU{fp:List Addr}{h:Heap}{b:Addr}{o:Obj}(hb:b∈fp)(e:h.get? b=some o):(b,o)∈m4 fp h:=List.mem_filterMap.mpr ⟨b,hb,by simp_all⟩
theorem xr{fp:List Addr}{h:Heap}{p:Addr×Obj}(hp:p∈m4 fp h):p.1∈fp/\h.get? p.1=some p.2:=by
 obtain⟨b,hb,e⟩:=List.mem_filterMap.mp hp
 cases q:h.get? b with
 | none=>simp_all
 | some o =>
  grind
theorem Inv.pinned{pins:List (Addr×Obj)}{σ:St}{H:Hp}{s:Shared}{fp:List Addr}(I:Inv X pins σ H s)(hf:∀b∈fp,kZ X pins H b)(ho:∀b∈fp,∃o,s.heap.get? b=some o/\∀v,o.data≠.cell v):Inv X (pins++m4 fp s.heap) σ H s :=
 I.pins_of λp hp=>(Z6.mp hp).elim (λz=>I.pin p (Y1 _ z)) λz=>by
  obtain⟨hb,e⟩:=xr z
  obtain⟨f0,f1,f2,_⟩:=hf p.1 hb
  grind
theorem Inv.unpinned{pins pl:List (Addr×Obj)}{σ:St}{H:Hp}{s:Shared}(I:Inv X (pins++pl) σ H s):Inv X pins σ H s:=I.pins_of λp hp=>I.pin p (Y1 _ (Z1 _ hp))
theorem yM{iter:Expr}{body:List Stmt}{wi:TI}{g:TG}{tb:TS}{pos:Pos}(hp:PassesOwn (model X.prog X.w) X.A X.env X.xe)(hc:X.calm=true)(hi:PI X tg iter wi)(hg:PG X tg g)(hb:PSs X body tb)
  (hs:∀x,foldedSetIterable iter X.env x=pure x:=by intro _;rfl):PS X (.For tg iter body [] pos) (tFor wi g tb):=by
 intro pins s σ H D I h
 refine wpAny_For (thn (hi pins s σ H _ I h) λv s1 h1=>thn h1 λitv s2 h2=>?_) hs
 obtain⟨it,fp,tn,J,H2,e,I2,T,st2,f2,W,⟨m0,w0⟩,turn⟩:=h2
 subst e
 have stat:∀{H':Hp},(∀b∈fp,H' b=none)->∀b∈fp,kZ X pins H' b:=λhn b hb=>⟨hn b hb,(f2 b hb).2⟩
 refine codeAny_forLoop_any (λn s'=>∃i σ' H',Inv X pins σ' H' s'/\tn i s'.heap/\(∀b∈fp,H' b=none)/\W i n σ' H') ?_ m0 ⟨0,σ,H2,I2,st2,λb hb=>(f2 b hb).1,w0⟩
 rintro n s3 ⟨i,σ3,H3,I3,st3,fr3,w3⟩
 rcases turn i n σ3 H3 w3 with ⟨stop,qn⟩ | ⟨go,N,hN,step⟩
 ·refine wpAny_passesOwn hp (thn (T.done X rfl rfl rfl hc i pins s3 σ3 H3 X.xe I3 (stat fr3) st3 stop) λr s4 ⟨hr,I4⟩=>?_)
  subst hr
  exact wpAny_execs_nil ⟨σ3,H3,I4,qn⟩
 ·refine wpAny_passesOwn hp (thn (T.item X rfl rfl rfl hc i pins s3 σ3 H3 X.xe I3 (stat fr3) st3 go) λr s4 ⟨u,hr,h4⟩=>?_)
  subst hr
  refine wpAny_passesOwn hp (thn h4 λ_ s5 ⟨x,H5,I5,r5,y5,st5,fr5⟩=>?_)
  have I5':=I5.pinned (stat fr5) (T.obj _ _ st5)
  refine wpAny_passesOwn hp (thn (hg _ s5 σ3 H5 x u _ I5' r5 (step x H5 y5)) λ_ s6 ⟨σ6,H6,I6,q6⟩=>?_)
  refine wpAny_passesOwn hp (thn (hb _ s6 σ6 H6 _ I6 q6) λf s7 q7=>?_)
  have again:∀{σ7:St} {H7:Hp},Inv X (pins++m4 fp s5.heap) σ7 H7 s7->N σ7 H7->∃m,m<n/\∃i σ' H',Inv X pins σ' H' s7/\tn i s7.heap/\(∀b∈fp,H' b=none)/\W i m σ' H':=λ{σ7 H7} I7 n7=>by
   obtain⟨m',hm,w7⟩:=hN σ7 H7 n7
   refine⟨m',hm,i+1,σ7,H7,I7.unpinned,T.keep _ _ _ st5 λb hb o e=>(I7.pin (b,o) (Y1 _ (Y1 _ (hU hb e)))).1,λb hb=>?_,w7⟩
   obtain⟨o,e,d⟩:=T.obj _ _ st5 b hb
   exact(I7.pin (b,o) (Y1 _ (Y1 _ (hU hb e)))).2.1
  cases f with
  | next=>obtain⟨σ7,H7,I7,n7⟩:=q7;exact again I7 n7
  | cont=>obtain⟨σ7,H7,I7,n7⟩:=q7;exact again I7 n7
  | brk=>obtain⟨σ7,H7,I7,q7⟩:=q7;exact⟨σ7,H7,I7.unpinned,q7⟩
  | ret v=>obtain⟨x7,σ7,H7,I7,r7,q7⟩:=q7;exact⟨x7,σ7,H7,I7.unpinned,r7,q7⟩
end
end L2
namespace L2
open PyProof.Rows
abbrev R2:=V->V->Hp->VK->Prop
def OpR(X:Cx)(f:Value->Value->Sem Value)(r:R2):Prop :=
 ∀(pins:List (Addr×Obj)) (s:Shared) (σ:St) (H:Hp) (x y:V) (v u:Value) (Q:VK),Inv X pins σ H s->bC x v->bC y u->r x y H Q ->
  wpAny (model X.prog X.w) X.A (f v u) (EP X pins σ Q) X.xe s
def UnR(X:Cx)(f:Value->Sem Value)(r:V->Hp->VK->Prop):Prop :=
 ∀(pins:List (Addr×Obj)) (s:Shared) (σ:St) (H:Hp) (x:V) (v:Value) (Q:VK),Inv X pins σ H s->bC x v->r x H Q ->
  wpAny (model X.prog X.w) X.A (f v) (EP X pins σ Q) X.xe s
def eF(X:Cx)(f:Value)(r:List V->Hp->VK->Prop):Prop :=
 ∀(pins:List (Addr×Obj)) (s:Shared) (σ:St) (H:Hp) (xs:List V) (us:List Value) (Q:VK),Inv X pins σ H s->bx xs us->r xs H Q ->
  wpAny (model X.prog X.w) X.A (call f us) (EP X pins σ Q) X.xe s
def TruR(X:Cx)(r:V->Hp->(Bool->Hp->Prop)->Prop):Prop :=
 ∀(pins:List (Addr×Obj)) (s:Shared) (σ:St) (H:Hp) (x:V) (v:Value) (Q:Bool->Hp->Prop),Inv X pins σ H s->bC x v->r x H Q ->
  wpAny (model X.prog X.w) X.A (truthy v) (TP X pins σ Q) X.xe s
noncomputable def tOp(r:R2)(ta tb:TE):TE:=λσ H Q=>ta σ H λx H1=>tb σ H1 λy H2=>r x y H2 Q
def tUn(r:V->Hp->VK->Prop)(ta:TE):TE:=λσ H Q=>ta σ H λx H1=>r x H1 Q
def rI(C:Int->Int->Prop)(g:Int->Int->V):R2:=λx y H Q=>∃i j,x=.int i/\y=.int j/\C i j/\Q (g i j) H
noncomputable def rI0(g:Int->Int->V):R2:=λx y H Q=>∃i j,x=.int i/\y=.int j/\Q (g i j) H
def rU(g:Int->V):V->Hp->VK->Prop:=λx H Q=>∃i,x=.int i/\Q (g i) H
section
variable{X:Cx}{a b c:Expr}{ta tb tc:TE}{pos:Pos}
theorem binT(ha:PE X a ta)(hb:PE X b tb){pins:List (Addr×Obj)}{s:Shared}{σ:St}{H:Hp}{R:V->V->Hp->Prop}(I:Inv X pins σ H s)
  (h:ta σ H λx H1=>tb σ H1 λy H2=>R x y H2) {Q:Value->Shared->Prop} {f:Value->Value->Sem Value}
  (hf:∀v u s2 x y H2,Inv X pins σ H2 s2->bC x v->bC y u->R x y H2->wpAny (model X.prog X.w) X.A (f v u) Q X.xe s2) :
  wpAny (model X.prog X.w) X.A (eval a X.env) (λv s₁=>wpAny (model X.prog X.w) X.A (eval b X.env) (λu s₂=>wpAny (model X.prog X.w) X.A (f v u) Q X.xe s₂) X.xe s₁) X.xe s:=by
 refine thn (ha pins s σ H _ I h) λv s1 ⟨x,H1,I1,r1,q1⟩=>?_
 refine thn (hb pins s1 σ H1 _ I1 q1) λu s2 ⟨y,H2,I2,r2,q2⟩=>?_
 grind
theorem pe_op{op:Operator}{r:R2}(ho:OpR X (binaryOp op) r)(ha:PE X a ta)(hb:PE X b tb):PE X (.BinOp a op b pos) (tOp r ta tb):=by
 intro pins s σ H Q I h
 exact wpAny_BinOp (binT ha hb I h λv u s2 x y H2 I2 rx ry q=>ho pins s2 σ H2 x y v u Q I2 rx ry q)
theorem pe_un{op:UnaryOp}{r:V->Hp->VK->Prop}(ho:UnR X (unaryOp op) r)(ha:PE X a ta):PE X (.UnaryOp op a pos) (tUn r ta):=by
 intro pins s σ H Q I h
 exact UnaryOp_ (thn (ha pins s σ H _ I h) λv s1 ⟨x,H1,I1,r1,q1⟩=>ho pins s1 σ H1 x v Q I1 r1 q1)
theorem opI{f:Value->Value->Sem Value}{C:Int->Int->Prop}{g:Int->Int->Int}
  (rule:∀(i j:Int) (t u:Tok) (s:Shared) (Q:Value->Shared->Prop) (E:Value->Shared->Prop),C i j->Q (.int (g i j) s.toks) { s with toks:=s.toks+1 }->wpAny (model X.prog X.w) X.A (f (.int i t) (.int j u)) Q E s) :
  OpR X f (rI C λi j=>.int (g i j)):=by
 intro pins s σ H x y v u Q I rx ry h
 obtain⟨i,j,rfl,rfl,hc,q⟩:=h
 obtain⟨t,rfl⟩:=rx
 obtain⟨t',rfl⟩:=ry
 exact rule i j t t' s _ _ hc ⟨.int (g i j),H,I.tok _,⟨_,rfl⟩,q⟩
theorem opI0{f:Value->Value->Sem Value}{g:Int->Int->Int}
  (rule:∀(i j:Int) (t u:Tok) (s:Shared) (Q:Value->Shared->Prop) (E:Value->Shared->Prop),Q (.int (g i j) s.toks) { s with toks:=s.toks+1 }->wpAny (model X.prog X.w) X.A (f (.int i t) (.int j u)) Q E s) :
  OpR X f (rI0 λi j=>.int (g i j)):=by
 intro pins s σ H x y v u Q I rx ry h
 obtain⟨i,j,rfl,rfl,q⟩:=h
 obtain⟨t,rfl⟩:=rx
 obtain⟨t',rfl⟩:=ry
 exact rule i j t t' s _ _ ⟨.int (g i j),H,I.tok _,⟨_,rfl⟩,q⟩
theorem BI{f:Value->Value->Sem Value}{g:Int->Int->Bool}
  (rule:∀(i j:Int) (t u:Tok) (s:Shared) (Q:Value->Shared->Prop) (E:Value->Shared->Prop),Q (.bool (g i j)) s->wpAny (model X.prog X.w) X.A (f (.int i t) (.int j u)) Q E s) :
  OpR X f (rI0 λi j=>.bl (g i j)):=by
 intro pins s σ H x y v u Q I rx ry h
 obtain⟨i,j,rfl,rfl,q⟩:=h
 obtain⟨t,rfl⟩:=rx
 obtain⟨t',rfl⟩:=ry
 exact rule i j t t' s _ _ ⟨.bl (g i j),H,I,rfl,q⟩
def CDiv(i j:Int):Prop:=0<j/\j<1073741824
def CPow(i j:Int):Prop:=0<=j/\j<=1000000/\i.natAbs<2 ^ 64
def CMul(i j:Int):Prop:=(-(2 ^ 64)<i/\i<2 ^ 64)\/(-(2 ^ 64)<j/\j<2 ^ 64)
theorem CMul.ok{i j:Int}(h:CMul i j):IntMulOk i j:=by
 rcases h with ⟨h1,h2⟩ | ⟨h1,h2⟩
 ·exact .of_left (intBits_le_64 h1 h2)
 ·exact .of_right (intBits_le_64 h1 h2)
theorem op_add:OpR X (binaryOp .Add) (rI0 λi j=>.int (i+j)):=opI0 λ_ _ _ _ _ _ _ q=>add_int q
theorem op_mul:OpR X (binaryOp .Mult) (rI CMul λi j=>.int (i*j)):=opI λ_ _ _ _ _ _ _ hc q=>mul_int q hc.ok
theorem op_mod:OpR X (binaryOp .Mod) (rI (λ_ j=>0<j) λi j=>.int (i % j)):=opI λi j _ _ _ _ _ hc q=>by
 exact mod_int' (by omega) (by grind)
theorem op_pow:OpR X (binaryOp .Pow) (rI CPow λi j=>.int (i ^ j.toNat)):=opI λ_ _ _ _ _ _ _ hc q=>pow_int_small hc.1 hc.2.1 hc.2.2 q
theorem unI{f:Value->Sem Value}{g:Int->Int}
  (rule:∀(i:Int) (t:Tok) (s:Shared) (Q:Value->Shared->Prop) (E:Value->Shared->Prop),Q (.int (g i) s.toks) { s with toks:=s.toks+1 }->wpAny (model X.prog X.w) X.A (f (.int i t)) Q E s) :
  UnR X f (rU λi=>.int (g i)):=by
 intro pins s σ H x v Q I rx h
 obtain⟨i,rfl,q⟩:=h
 obtain⟨t,rfl⟩:=rx
 exact rule i t s _ _ ⟨.int (g i),H,I.tok _,⟨_,rfl⟩,q⟩
theorem un_neg:UnR X (unaryOp .USub) (rU λi=>.int (-i)):=unI λ_ _ _ _ _ q=>neg_int q
end
section
variable{X:Cx}{a b c:Expr}{ta tb tc:TE}{pos:Pos}
theorem uR{pins:List (Addr×Obj)}{σ:St}{H:Hp}{s:Shared}{Q:VK}{k k':Bool}(I:Inv X pins σ H s)(q:Q (.bl k) H)(e:k=k'):EP X pins σ Q (.bool k') s:=by
 subst e
 exact⟨.bl k,H,I,rfl,q⟩
theorem op_lt:OpR X (compareOp .Lt) (rI0 λi j=>.bl (decide (i<j))):=BI λ_ _ _ _ _ _ _ q=>lt_int q
theorem op_le:OpR X (compareOp .LtE) (rI0 λi j=>.bl (decide (i<=j))):=BI λ_ _ _ _ _ _ _ q=>le_int q
theorem op_gt:OpR X (compareOp .Gt) (rI0 λi j=>.bl (decide (j<i))):=BI λ_ _ _ _ _ _ _ q=>gt_int q
theorem op_ge:OpR X (compareOp .GtE) (rI0 λi j=>.bl (decide (j<=i))):=BI λ_ _ _ _ _ _ _ q=>ge_int q
theorem xq:OpR X (compareOp .In) (λx y H Q=>∃i j,x=.str i/\y=.str j/\Q (.bl (!(Builtin.Str.occurrences j i 0 j.length 1).isEmpty)) H):=by
 intro pins s σ H x y v u Q I rx ry h
 obtain⟨i,j,rfl,rfl,q⟩:=h
 obtain⟨t,rfl⟩:=rx
 obtain⟨t',rfl⟩:=ry
 exact in_str (uR I q rfl)
theorem BD:OpR X (compareOp .IsNot) (λx y H Q=>y=.non/\Q (.bl (!decide (x=.non))) H):=by
 intro pins s σ H x y v u Q I rx ry h
 obtain⟨rfl,q⟩:=h
 cases ry
 refine isnot_none_gen (uR I q ?_)
 cases x<;>first
  | (cases rx;rfl)
  | (obtain⟨t,rfl⟩:=rx;rfl)
theorem OpR.or{f:Value->Value->Sem Value}{r r':R2}(h:OpR X f r)(h':OpR X f r'):OpR X f (λx y H Q=>r x y H Q\/r' x y H Q):=by
 intro pins s σ H x y v u Q I rx ry q
 rcases q with q | q
 ·exact h pins s σ H x y v u Q I rx ry q
 ·exact h' pins s σ H x y v u Q I rx ry q
theorem aZ(b:Expr){op:CmpOp}(h:op≠.In:=by decide)(h2:op≠.NotIn:=by decide):behindInMarks op b=false:=by
 have e1:(op==CmpOp.In)=false:=by simp_all
 have e2:(op==CmpOp.NotIn)=false:=by simp_all
 cases b<;>simp [behindInMarks,e1,e2]
theorem vJ{op:CmpOp}{r:R2}(ho:OpR X (compareOp op) r)(ha:PE X a ta)(hb:PE X b tb)(hm:behindInMarks op b=false):PE X (.Compare a [op] [b] pos) (tOp r ta tb):=by
 intro pins s σ H Q I h
 exact wpAny_Compare1 (binT ha hb I h λv u s2 x y H2 I2 rx ry q=>ho pins s2 σ H2 x y v u Q I2 rx ry q) hm
noncomputable def tTest(t:TE):TT:=λσ H Q=>t σ H λx H'=>∃k,x=.bl k/\Q k H'
theorem mi{op:CmpOp}{r:R2}(ho:OpR X (compareOp op) r)(ha:PE X a ta)(hb:PE X b tb)(hm:behindInMarks op b=false):PT X (.Compare a [op] [b] pos) (tTest (tOp r ta tb)):=by
 intro pins s σ H Q I h
 refine wpAny_isTrue_Compare1 (thn (ha pins s σ H _ I h) λv s1 ⟨x,H1,I1,r1,q1⟩=>thn (hb pins s1 σ H1 _ I1 q1) λu s2 ⟨y,H2,I2,r2,q2⟩ =>
  thn (ho pins s2 σ H2 x y v u _ I2 r1 r2 q2) λc s3 ⟨z,H3,I3,r3,k,e,q3⟩=>?_) hm
 subst e
 cases r3
 exact wpAny_truthy_bool ⟨H3,I3,q3⟩
noncomputable def tR(r r':R2)(ta tb tc:TE):TE:=λσ H Q=>ta σ H λx H1=>tb σ H1 λy H2=>r x y H2 λz H3=>∃k,z=.bl k /\
 (if k=true then tc σ H3 λw' H4=>r' y w' H4 Q else Q (.bl false) H3)
theorem y0{op op':CmpOp}{r r':R2}(ho:OpR X (compareOp op) r)(ho':OpR X (compareOp op') r')(ha:PE X a ta)(hb:PE X b tb)(hc:PE X c tc)
  (hm:lastMarks [op,op'] [b,c]=false:=by with_unfolding_all rfl):PE X (.Compare a [op,op'] [b,c] pos) (tR r r' ta tb tc):=by
 intro pins s σ H Q I h
 refine Compare_chain (thn (ha pins s σ H _ I h) λv s1 ⟨x,H1,I1,r1,q1⟩=>chain_link (thn (hb pins s1 σ H1 _ I1 q1) λu s2 ⟨y,H2,I2,r2,q2⟩ =>
  thn (ho pins s2 σ H2 x y v u _ I2 r1 r2 q2) λd s3 ⟨z,H3,I3,r3,k,e,q3⟩=>?_)) hm
 subst e
 cases r3
 refine wpAny_truthy_bool ?_
 cases k with
 | false=>exact ite_ff ⟨.bl false,H3,I3,rfl,q3⟩
 | true=>exact ite_tt (chain_last (thn (hc pins s3 σ H3 _ I3 q3) λw' s4 ⟨z',H4,I4,r4,q4⟩=>ho' pins s4 σ H4 y z' u w' Q I4 r2 r4 q4))
theorem yK{op op':CmpOp}{r r':R2}(ho:OpR X (compareOp op) r)(ho':OpR X (compareOp op') r')(ha:PE X a ta)(hb:PE X b tb)(hc:PE X c tc)
  (hm:lastMarks [op,op'] [b,c]=false:=by with_unfolding_all rfl):PT X (.Compare a [op,op'] [b,c] pos) (tTest (tR r r' ta tb tc)):=by
 intro pins s σ H Q I h
 refine isTrue_chain (thn (ha pins s σ H _ I h) λv s1 ⟨x,H1,I1,r1,q1⟩=>test_link (thn (hb pins s1 σ H1 _ I1 q1) λu s2 ⟨y,H2,I2,r2,q2⟩ =>
  thn (ho pins s2 σ H2 x y v u _ I2 r1 r2 q2) λd s3 ⟨z,H3,I3,r3,k,e,q3⟩=>?_)) hm
 subst e
 cases r3
 refine wpAny_truthy_bool ?_
 cases k with
 | false =>
  obtain⟨k',e',q'⟩:=q3
  cases e'
  exact ite_ff ⟨H3,I3,q'⟩
 | true =>
  refine ite_tt (test_last (thn (hc pins s3 σ H3 _ I3 q3) λw' s4 ⟨z',H4,I4,r4,q4⟩=>thn (ho' pins s4 σ H4 y z' u w' _ I4 r2 r4 q4) λd' s5 ⟨z2,H5,I5,r5,k2,e2,q5⟩=>?_))
  subst e2
  cases r5
  exact wpAny_truthy_bool ⟨H5,I5,q5⟩
def TruV(K:ε)(x:V)(H:Hp)(k:Bool):Prop :=
 match x with
 | .non=>k=false
 | .bl b=>k=b
 | .int i=>k=(i != 0)
 | .str y=>y.length<=sizeLine/\k=((y.length:Int) != 0)
 | .byt y=>y.size<=sizeLine/\k=((y.size:Int) != 0)
 | .ref p=>(∃xs,SqL K H p xs/\k=!xs.isEmpty)\/(∃xs,SqT K H p xs/\k=!xs.isEmpty)\/∃kvs,H p=some (.dK kvs)/\k=!kvs.isEmpty
 | _=>False
theorem uJ{κ:Type}{kvs:List (κ×V)}{vs:List (κ×Value)}(r:KV kvs vs):(!vs.isEmpty)=!kvs.isEmpty:=by
 cases r<;>rfl
theorem nG{xs:List V}{its:List Value}(r:bx xs its):(!its.toArray.isEmpty)=!xs.isEmpty:=by
 cases r<;>simp
theorem ny:(sizeLine:Nat)<2 ^ 63:=by decide
theorem tru_ok:TruR X (λx H Q=>∃k,TruV X.K x H k/\Q k H):=by
 intro pins s σ H x v Q I rx h
 obtain⟨k,e,q⟩:=h
 have hs:= sizeLine_eq
 cases x with
 | non =>
  cases rx
  have e':= e
  subst e'
  exact truthy_none ⟨H,I,q⟩
 | bl b =>
  cases rx
  have e':= e
  subst e'
  exact wpAny_truthy_bool ⟨H,I,q⟩
 | int i =>
  obtain⟨t,rfl⟩:=rx
  have e':= e
  subst e'
  exact PySem.P.truthy_int ⟨H,I,q⟩
 | str y =>
  obtain⟨t,rfl⟩:=rx
  obtain⟨hy,e'⟩:y.length<=sizeLine/\k=((y.length:Int) != 0):=e
  subst e'
  exact PySem.P.truthy_str (by omega) ⟨H,I.tok _,q⟩
 | byt y =>
  obtain⟨t,rfl⟩:=rx
  obtain⟨hy,e'⟩:y.size<=sizeLine/\k=((y.size:Int) != 0):=e
  subst e'
  exact PySem.W.truthy_bytes (by omega) ⟨H,I.tok _,q⟩
 | ref p =>
  cases rx
  have e':= e
  rcases e' with ⟨xs,hx,e'⟩ | ⟨xs,hx,e'⟩ | ⟨kvs,hx,e'⟩
  ·subst e'
   obtain⟨its,r,pl,hz⟩:=I.list hx
   have hlen:=r.length
   exact wpAny_truthy_list pl.isList (by grind) ⟨H,I.tok _,by rw[nG r];exact q⟩
  ·subst e'
   obtain⟨its,r,pl,hz⟩:=I.tuple hx
   have hlen:=r.length
   exact truthy_tuple pl (by grind) ⟨H,I.tok _,by rw[nG r];exact q⟩
  ·subst e'
   obtain⟨hz,hS,vs,r,m⟩:kvs.length<=sizeLine/\(p==sysModules)=false/\∃vs,KV kvs vs/\s.heap.DictOf (bZ X.prog X.w) p vs:=I.hok p _ hx
   have hlen:= Paired.length r
   exact wpAny_truthy_dict hS m (by omega) ⟨H,I.tok _,by rw[uJ r];exact q⟩
 | _=>exact(show False from e).elim
theorem yI(ha:PE X a ta)(he:∀whole,isTrue a X.env whole=(do let v <- whole;standAt a.pos;holding [v] (truthy v))) :
  PT X a (λσ H Q=>ta σ H λx H'=>∃k,TruV X.K x H' k/\Q k H'):=by
 intro pins s σ H Q I h
 exact isTrue_plain (thn (ha pins s σ H _ I h) λv s1 ⟨x,H1,I1,r1,q1⟩=>tru_ok pins s1 σ H1 x v Q I1 r1 q1) (he _)
theorem ur:OpR X (binaryOp .Add) (λx y H Q=>∃i j,x=.str i/\y=.str j/\i.length+j.length<=sizeLine/\Q (.str (i++j)) H):=by
 intro pins s σ H x y v u Q I rx ry h
 obtain⟨i,j,rfl,rfl,hz,q⟩:=h
 obtain⟨t,rfl⟩:=rx
 obtain⟨t',rfl⟩:=ry
 exact add_str (λt' tk=>⟨.str (i++j),H,I.tok _,⟨_,rfl⟩,q⟩) hz
theorem fu{x:V}{us:List Value}(r:bx [x] us):∃u,us=[u]/\bC x u:=by
 cases r with
 | cons r1 r2=>cases r2;simp_all
theorem vp{x y:V}{us:List Value}(r:bx [x,y] us):∃u w',us=[u,w']/\bC x u/\bC y w':=by
 cases r with
 | cons r1 r2 =>
  cases r2 with
  | cons r3 r4=>cases r4;grind
theorem xT:eF X (.type "int") (λxs H Q=>(∃i,xs=[.int i]/\Q (.int i) H)\/∃k,xs=[.bl k]/\Q (.int (if k then 1 else 0)) H):=by
 intro pins s σ H xs us Q I r h
 rcases h with ⟨i,rfl,q⟩ | ⟨k,rfl,q⟩
 ·obtain⟨u,rfl,t,rfl⟩:=fu r
  exact call_int_int ⟨.int i,H,I,⟨_,rfl⟩,q⟩
 ·obtain⟨u,rfl,r1⟩:=fu r
  cases r1
  exact call_int_bool ⟨.int (if k then 1 else 0),H,I.tok _,⟨_,rfl⟩,q⟩
theorem rj:eF X (.type "str") (λxs H Q=>∃i,xs=[.int i]/\i.natAbs.log2<1920/\Q (.str (toString i)) H):=by
 intro pins s σ H xs us Q I r h
 obtain⟨i,rfl,hz,q⟩:=h
 obtain⟨u,rfl,t,rfl⟩:=fu r
 exact PySem.P.str_of_int hz ⟨.str _,H,I.tok _,⟨_,rfl⟩,q⟩
theorem AN:eF X (.builtin "ord") (λxs H Q=>∃x,xs=[.str x]/\x.length=1/\Q (.int (x.cps.getD 0 0:Nat)) H):=by
 intro pins s σ H xs us Q I r h
 obtain⟨x,rfl,hz,q⟩:=h
 obtain⟨u,rfl,t,rfl⟩:=fu r
 exact ord_of_one hz ⟨.int _,H,I.tok _,⟨_,rfl⟩,q⟩
theorem tF:eF X (.builtin "divmod") (λxs H Q=>∃i j,xs=[.int i,.int j]/\CDiv i j/\∀p,H p=none->Q (.ref p) (upd H p (.tup [.int (i / j),.int (i % j)]))):=by
 intro pins s σ H xs us Q I r h
 obtain⟨i,j,rfl,⟨h1,h2⟩,q⟩:=h
 obtain⟨u,w',rfl,⟨t,rfl⟩,⟨t',rfl⟩⟩:=vp r
 refine divmod_int (by omega) ?_ (.inl (PyProof.noPylong_small (by omega)))
 rw[Int.fdiv_eq_ediv_of_nonneg i (by omega),Int.fmod_eq_emod_of_nonneg i (by omega)]
 have hn:= I.hok.fresh (ο _)
 refine⟨.ref s.heap.objs.size,_,?_,rfl,q _ hn⟩
 refine I.laid (λb o e=>Heap.get?_push_of_some _ e) (ο _) ⟨by simp only[ω,Y6];decide,[.int (i / j) s.toks,.int (i % j) (s.toks+1)],.cons ⟨_,rfl⟩ (.cons ⟨_,rfl⟩ .nil),?_⟩
 exact⟨_,Heap.get?_push_size s.heap rfl,rfl,0,rfl⟩
end
end L2
namespace L2
open PyProof.Rows
structure ObjM(h:Heap)(x dx C:Addr)(mA:Str->Option Value):Prop where
 obj:h.get? x=some (X2 C dx)
 ns:h.Ns1 dx mA
 ne:dx≠x
theorem pF{h:Heap}{dx:Addr}{mA:Str->Option Value}(n:h.Ns1 dx mA):∃od,h.get? dx=some od/\∀name,U4 name od=some (mA name):=by
 obtain⟨o,es,ep,ho,hd,hk,_,hm⟩:=n
 refine⟨o,ho,λname=>?_⟩
 have e:=hm name
 unfold nsFind findBy at e
 rw[<-Array.find?_toList] at e
 unfold U4
 rw[hd]
 dsimp only
 split
 ·simp_all
 ·rename_i q
  rw[q] at e
  have a:es.toList.any (·.refKey)=false:=by
   rw[List.any_eq_false]
   intro y hy
   obtain⟨z,t,hkey⟩:=hk y (Array.mem_toList_iff.mp hy)
   simp [DictEntry.refKey,hkey]
  simp_all
theorem ObjM.look{h:Heap}{x dx C:Addr}{mA:Str->Option Value}(I:ObjM h x dx C mA):∃od,PySem.W.InstAt h x (X2 C dx) C (some od)/\∀name,U4 name od=some (mA name) :=
 let ⟨od,ho,hl⟩:=pF I.ns
 ⟨od,⟨I.obj,rfl,rfl,ho⟩,hl⟩
section
variable{prog:Program}{w:World}{A:Around}{E:Value->Shared->Prop}{s:Shared}{K:ε}{x dx C f:Addr}{mA:Str->Option Value}{name:Str}{v:Value}
theorem B6{expr:Bool}{Q:Value->Shared->Prop}(X:K.In s.heap)(I:ObjM s.heap x dx C mA)(hg:W6 K C name=true)(hh:X8 K C=true)
  (ha:θ K (.ref C) name=some none) (hv:mA name=some v) (hv':PySem.W.handedIn v=true) (h:Q v { s with toks:=s.toks+1 }) :
  wpAny (model prog w) A (getAttr (.ref x) name expr) Q E s:=by
 obtain⟨od,J,hl⟩:=I.look
 exact PySem.W.get_value X J (PySem.W.plainGet_of hg).1 (PySem.W.findObj_own hh ha rfl (by simp_all)) hv' h
theorem Ac{pl:Sem Bool}{Q:Value×List Value->Shared->Prop}(X:K.In s.heap)(I:ObjM s.heap x dx C mA)(hg:W6 K C name=true)
  (hf:θ K (.ref C) name=some (some (.ref f))) (ht:X3 K (.ref f)=true) (hv:mA name=none) (h:Q (.ref f,[.ref x]) s) :
  wpAny (model prog w) A (getMethod (.ref x) name pl) Q E s:=by
 obtain⟨od,J,hl⟩:=I.look
 exact PySem.W.method_fn X J (PySem.W.plainGet_of hg).1 (PySem.W.plainGet_of hg).2 hf (beq_iff_eq.mp ht) (by show(U4 name od).map (·.isSome)=some false;simp_all) h
theorem Bd{ns:List Str}{Q:Unit->Shared->Prop}(X:K.In s.heap)(I:ObjM s.heap x dx C mA)
  (hs:θ K (.ref C) "__setattr__" = some (some (.builtin "object.__setattr__"))) (hp:V6 K C=true) (ht:PySem.W.takerIn K C name=some none) (hh:X8 K C=true)
  (hw:PySem.Within mA ns) (hsz:ns.length<=sizeLine)
  (h:∀h',ObjM h' x dx C (λy=>if y=name then some v else mA y)->Heap.SameBut dx s.heap h'->Q () { s with heap:=h',toks:=s.toks+2 }) :
  wpAny (model prog w) A (setAttr (.ref x) name v) Q E s:=by
 obtain⟨od,J,hl⟩:=I.look
 refine PySem.W.set_plain X J hs (PySem.W.osa_open X J hp ht λb=>?_)
 obtain⟨cd,hc,hd'⟩:=PySem.W.any_some hh
 have hx:= I.obj
 refine wpAny_bind (wpAny_pure (wpAny_bind (wpAny_bind (wpAny_loadPart hx (wpAny_bind (PySem.W.Looks.here (PySem.W.looks_clsIn X hc) ?_))))))
 rw[hd']
 refine wpAny_pure (wpAny_bind (wpAny_pure (wpAny_bind ?_)))
 refine wpAny_nsSet1 I.ns λh' hn2 hs2=>?_
 obtain⟨oD,esD,epD,hoD,hdD,hcD⟩:=hn2.count (PySem.Within.cons name v hw)
 refine wpAny_bind (wpAny_lookBehind hoD (by rw[hdD];exact pastItsLine_dict (Y9 hcD (by simp_all))) ?_)
 exact wpAny_pure (h _ ⟨(hs2.2 _ (Ne.symm I.ne)).trans I.obj,hn2,I.ne⟩ hs2)
theorem zF{R:Result->Shared->Prop}{vs:List Value}{kw:List (Str×Value)}(X:K.In s.heap)(hm:W9 K C=true)
  (hi:θ K (.ref C) "__init__" = some (some (.ref f))) (hf:PySem.W.typeIn K (.ref f)=some (.type "function"))
  (h:codeAny (model prog w) (A.under (.builtin "type.__call__" ⟨.ref C::vs,kw⟩)) (.call (.ref f) ⟨.ref (s.heap.objs.size+1)::vs,kw⟩) (PySem.W.InitBack (s.heap.objs.size+1) R)
   { s with heap:=(s.heap.push X1).push (X2 C s.heap.objs.size) }) :
  codeAny (model prog w) A (.call (.ref C) ⟨vs,kw⟩) R s:=by
 exact PySem.W.make_core (PySem.W.makes_of X hm) (PySem.W.looks_findIn X hi) (λself=>PySem.W.bind_fn X self hf) (.inl rfl) h
theorem xx{R:Result->Shared->Prop}(X:K.In s.heap)(hm:W9 K C=true)
  (hi:θ K (.ref C) "__init__" = some (some (.builtin "object.__init__")))
  (hb:∀self,PySem.W.Looks (model prog w) s.heap (bindSpecial (.builtin "object.__init__") self) (.builtin "object.__init__",[self]))
  (h:codeAny (model prog w) (A.under (.builtin "type.__call__" ⟨[.ref C],[]⟩)) (.call (.builtin "object.__init__") ⟨[.ref (s.heap.objs.size+1)],[]⟩) (PySem.W.InitBack (s.heap.objs.size+1) R)
   { s with heap:=(s.heap.push X1).push (X2 C s.heap.objs.size) }) :
  codeAny (model prog w) A (.call (.ref C) ⟨[],[]⟩) R s:=by
 exact PySem.W.make_core (PySem.W.makes_of X hm) (PySem.W.looks_findIn X hi) hb (.inr ⟨rfl,rfl⟩) h
end
noncomputable def gC(f:Str)(v:V):List (Str×V)->List (Str×V)
 | []=>[(f,v)]
 | (g,x)::r=>if g=f then (g,v)::r else (g,x)::gC f v r
theorem lL(f g:Str)(v:V):∀fs:List (Str×V),(gC f v fs).lookup g=if g=f then some v else fs.lookup g
 | []=>by
  show W3 g [(f,v)]=_
  grind
 | (k,x)::r=>by
  have ih:=lL f g v r
  rw[show gC f v ((k,x)::r)=(if k=f then (k,v)::r else (k,x)::gC f v r) from rfl]
  grind
theorem lx(f:Str)(v:V):∀fs:List (Str×V),f∈(gC f v fs).map (·.1)/\∀g,g∈fs.map (·.1)->g∈(gC f v fs).map (·.1)
 | []=>⟨by simp [gC],λg h=>by simp at h⟩
 | (k,x)::r=>by
  obtain⟨i1,i2⟩:=lx f v r
  rw[show gC f v ((k,x)::r)=(if k=f then (k,v)::r else (k,x)::gC f v r) from rfl]
  grind
theorem lN(f:Str)(v:V):∀fs:List (Str×V),(gC f v fs).length<=fs.length+1
 | []=>by simp [gC]
 | (k,x)::r=>by
  have ih:=lN f v r
  rw[show gC f v ((k,x)::r)=(if k=f then (k,v)::r else (k,x)::gC f v r) from rfl]
  grind
theorem iC.some_of{v:V}{o:Option Value}(r:iC (some v) o):∃u,o=some u/\bC v u:=by
 cases o with
 | none=>exact(show False from r).elim
 | some u=>exact⟨u,rfl,r⟩
theorem iC.none_of{o:Option Value}(r:iC none o):o=none:=by
 cases o with
 | none=>rfl
 | some u=>exact(show False from r).elim
theorem pP{v:V}{u:Value}(r:bC v u):PySem.W.handedIn u=true:=by
 cases v with
 | non=>cases (show u=Value.none from r);rfl
 | bl b=>cases (show u=Value.bool b from r);rfl
 | int i=>obtain⟨t,e⟩:=(show ∃t,u=Value.int i t from r);cases e;rfl
 | str x=>obtain⟨t,e⟩:=(show ∃t,u=Value.str x t from r);cases e;rfl
 | byt b=>obtain⟨t,e⟩:=(show ∃t,u=Value.bytes b t from r);cases e;rfl
 | flt b=>obtain⟨t,e⟩:=(show ∃t,u=Value.float b t from r);cases e;rfl
 | ref a=>cases (show u=Value.ref a from r);rfl
 | ty n=>cases (show u=Value.type n from r);rfl
section
variable{P:Program}{w:World}{H H':Hp}{h h':Heap}{a C dx:Addr}{fs fs':List (Str×V)}
theorem qP(hok:HOk P w H h)(e:H a=some (.ins C dx fs)):∃mA,ObjM h a dx C mA/\(∀f,iC (fs.lookup f) (mA f))/\PySem.Within mA (fs.map (·.1))/\fs.length<=1000/\H dx=some (.own a):=by
 obtain⟨d,z,ne,ob,mA,n,r,q⟩:=(show cy P w H h a (.ins C dx fs) from hok a _ e)
 exact⟨mA,⟨ob,n,ne⟩,r,q,z,d⟩
end
structure Cls(K:ε)(C:Addr):Prop where
 pg:W6 K C Str.empty=true
 hd:X8 K C=true
 po:V6 K C=true
 sa:θ K (.ref C) "__setattr__" = some (some (.builtin "object.__setattr__"))
theorem Cls.get{K:ε}{C:Addr}(c:Cls K C)(f:Str):W6 K C f=true:=c.pg
def jc(K:ε)(C:Addr)(f:Str):Prop:=θ K (.ref C) f=some none
theorem jc.taker{K:ε}{C:Addr}{f:Str}(n:jc K C f):PySem.W.takerIn K C f=some none:=by
 unfold PySem.W.takerIn
 rw[show θ K (.ref C) f=some none from n]
 rfl
structure Meth(K:ε)(C:Addr)(m:Str)(f:Addr):Prop where
 at_:θ K (.ref C) m=some (some (.ref f))
 fn:X3 K (.ref f)=true
 kp:ξ K (.ref f)=true
section
variable{X:Cx}{pins:List (Addr×Obj)}{σ:St}{H:Hp}{s:Shared}{a C dx:Addr}{fs:List (Str×V)}{f:Str}{v:V}{A:Around}{E:Value->Shared->Prop}
theorem uM{b:Bool}{Q:Value->Shared->Prop}(I:Inv X pins σ H s)(e:H a=some (.ins C dx fs))(c:Cls X.K C)(n:jc X.K C f)(l:fs.lookup f=some v)
  (h:∀u s',Inv X pins σ H s'->bC v u->Q u s'):wpAny (model X.prog X.w) A (getAttr (.ref a) f b) Q E s:=by
 obtain⟨mA,O,r,_,_,_⟩:=qP I.hok e
 obtain⟨u,hu,ru⟩:=iC.some_of (v:=v) (o:=mA f) (by grind)
 exact B6 I.kIn O (c.get f) c.hd n hu (pP ru) (h u _ (I.tok _) ru)
theorem nL{m:Str}{g:Addr}{pl:Sem Bool}{Q:Value×List Value->Shared->Prop}(I:Inv X pins σ H s)(e:H a=some (.ins C dx fs))(c:Cls X.K C)(k:Meth X.K C m g)(l:fs.lookup m=none)
  (h:Q (.ref g,[.ref a]) s):wpAny (model X.prog X.w) A (getMethod (.ref a) m pl) Q E s:=by
 obtain⟨mA,O,r,_,_,_⟩:=qP I.hok e
 have hn:mA m=none:=iC.none_of (by grind)
 exact Ac I.kIn O (c.get m) k.at_ k.fn hn h
theorem tT{y:V}{u:Value}{Q:Unit->Shared->Prop}(I:Inv X pins σ H s)(e:H a=some (.ins C dx fs))(c:Cls X.K C)(n:jc X.K C f)(hl:fs.length<1000)(ry:bC y u)
  (h:∀s',Inv X pins σ (upd H a (.ins C dx (gC f y fs))) s'->Q () s'):wpAny (model X.prog X.w) A (setAttr (.ref a) f u) Q E s:=by
 obtain⟨mA,O,r,wi,_,ho⟩:=qP I.hok e
 have hz:(fs.map (·.1)).length<=sizeLine:=by rw[ι,sizeLine_eq];omega
 refine Bd I.kIn O c.sa c.po n.taker c.hd wi hz λh' O' sb=>h _ ?_
 have hd:∃o,h'.get? dx=some o:=let ⟨o,_,_,e',_⟩:=O'.ns;⟨o,e'⟩
 refine I.write (by rw[e];exact True.intro) (.inr ho) (λb q hb z=>(sb.2 b hb).trans z) hd ?_
 refine⟨by rw[upd_ne O.ne];exact ho,?_,O.ne,O'.obj,_,O'.ns,λg=>?_,λg hg=>?_⟩
 ·have:=lN f y fs;omega
 ·rw[lL]
  by_cases q:g=f
  ·rw[if_pos q,if_pos q];exact ry
  simp_all
 ·by_cases q:g=f
  ·rw[q];exact(lx f y fs).1
  ·refine(lx f y fs).2 g (wi g λz=>hg ?_)
   simp_all
theorem Inv.made(I:Inv X pins σ H s):Inv X pins σ (upd (upd H s.heap.objs.size (.own (s.heap.objs.size+1))) (s.heap.objs.size+1) (.ins C s.heap.objs.size []))
  { s with heap:=(s.heap.push X1).push (X2 C s.heap.objs.size) }:=by
 have e1:(s.heap.push X1).get? s.heap.objs.size=some X1:=Heap.get?_push_size s.heap rfl
 have e2:((s.heap.push X1).push (X2 C s.heap.objs.size)).get? (s.heap.objs.size+1)=some (X2 C s.heap.objs.size):=by
  have:=Heap.get?_push_size (s.heap.push X1) (o:=X2 C s.heap.objs.size) rfl
  simp_all
 have e3:(s.heap.push X1).Ns s.heap.objs.size (λ_=>none):=⟨X1,#[],_,e1,rfl,(λe he=>absurd he (by simp)),λ_=>rfl⟩
 have I1:=I.laid (o:=.own (s.heap.objs.size+1)) (t':=s.toks) (λb u q=>Heap.get?_push_of_some _ q) (ο _) ⟨_,e1⟩
 refine I1.laid (λb u q=>Heap.get?_push_of_some _ q) (Nat.le_of_eq (Heap.size_push _ _)) ?_
 have ne:s.heap.objs.size≠s.heap.objs.size+1:=Z9 (Nat.lt_succ_self _)
 refine⟨by rw[upd_ne ne,aA],W4 _,ne,e2,λ_=>none,(Heap.Ns1.of_empty e3).at λo q=>Heap.get?_push_of_some _ q,λ_=>True.intro,λy hy=>absurd rfl hy⟩
theorem wH{prog:Program}{w:World}{env:Env}{e:Expr}{f:Str}{pos:Pos}{s:Shared}{Q:Value->Shared->Prop}(hb:attributeBase e f env (eval e env)=eval e env)
  (h:wpAny (model prog w) A (eval e env) (λo s₁=>wpAny (model prog w) A (getAttr o f true) Q E s₁) E s):wpAny (model prog w) A (eval (.Attribute e f pos) env) Q E s :=
 Attribute_any_ h (by rw[arm_eval_Attribute,hb])
end
noncomputable def tFld(K:ε)(ta:TE)(f:Str):TE:=λσ H Q=>ta σ H λx H1=>∃a C dx fs v,x=.ref a/\H1 a=some (.ins C dx fs)/\Cls K C/\jc K C f/\fs.lookup f=some v/\Q v H1
noncomputable def sFld(K:ε)(ta tv:TE)(f:Str):TS:=λD σ H=>tv σ H λy H1=>ta σ H1 λx H2=>∃a C dx fs,x=.ref a/\H2 a=some (.ins C dx fs)/\Cls K C/\jc K C f/\fs.length<1000 /\
 D.nx σ (upd H2 a (.ins C dx (gC f y fs)))
section
variable{X:Cx}{o e value:Expr}{f:Str}{pos pos' tpos:Pos}{ta tv:TE}
theorem pe_fld(he:PE X e ta)(hb:attributeBase e f X.env (eval e X.env)=eval e X.env):PE X (.Attribute e f pos) (tFld X.K ta f):=by
 intro pins s σ H Q I h
 refine wH hb (thn (he pins s σ H _ I h) λu s1 ⟨x,H1,I1,rx,a,C,dx,fs,v,ex,ea,c,n,l,q⟩=>?_)
 subst ex
 obtain rfl:u=Value.ref a:=rx
 exact uM I1 ea c n l λu' s2 I2 ru=>⟨v,H1,I2,ru,q⟩
theorem ps_fld(ha:PE X o ta)(hv:PE X value tv)(hs:swapsWith value (some (.Attribute o f pos')) pos.line X.env=pure false):PS X (.Assign [.Attribute o f pos'] value pos) (sFld X.K ta tv f):=by
 intro pins s σ H D I h
 refine plainObj_wpAny_Assign_Attribute (thn (hv pins s σ H _ I h) λu s1 ⟨y,H1,I1,ry,q⟩=>thn (ha pins s1 σ H1 _ I1 q) λov s2 ⟨x,H2,I2,rx,a,C,dx,fs,ex,ea,c,n,l,q2⟩=>?_) hs
 subst ex
 obtain rfl:ov=Value.ref a:=rx
 exact tT I2 ea c n l ry λs3 I3=>⟨σ,_,I3,q2⟩
end
section
variable{X:Cx}{pins:List (Addr×Obj)}{σ:St}{H:Hp}{s:Shared}{A:Around}{E:Value->Shared->Prop}{Q:Value->Shared->Prop}{c:Value}{b:Bool}
end
end L2
namespace L2
open PyProof.Rows
structure Room(k:Nat)(A:Around):Prop where
 hd:A.handled=none
 dp:A.depth+3*k+5<recursionLimit
 un:A.units+16*k+200<cLine
theorem Room.mono{j k:Nat}{A:Around}(r:Room k A)(h:j<=k):Room j A:=⟨r.hd,by have:=r.dp;omega,by have:=r.un;omega⟩
theorem Room.deeper{k:Nat}{A:Around}(r:Room (k+1) A)(env:Env):Room k (A.deeper env) :=
 ⟨r.hd,by have:=r.dp;show A.depth+1+3*k+5<_;omega,by have:=r.un;show A.units+3+16*k+200<_;omega⟩
theorem uF{A:Around}{C:Addr}{us:List Value}{kw:List (Str×Value)}:(A.under (.builtin "type.__call__" ⟨.ref C::us,kw⟩)).depth=A.depth+1:=by
 rfl
theorem uE{A:Around}{C:Addr}{us:List Value}{kw:List (Str×Value)}:(A.under (.builtin "type.__call__" ⟨.ref C::us,kw⟩)).units=A.units+1:=by
 rfl
theorem Room.make{k:Nat}{A:Around}(r:Room (k+1) A)(C:Addr)(us:List Value)(kw:List (Str×Value)):Room k (A.under (.builtin "type.__call__" ⟨.ref C::us,kw⟩)) :=
 ⟨r.hd,by have:=r.dp;rw[uF];omega,by have:=r.un;rw[uE];omega⟩
theorem Room.depth{k:Nat}{A:Around}(r:Room k A):A.depth<recursionLimit:=by have:=r.dp;omega
theorem Room.units{k:Nat}{A:Around}(r:Room k A):A.units+64<cLine:=by have:=r.un;omega
noncomputable def tQ:TA:=λ_ H Q=>Q [] H
noncomputable def jD(ta:TE)(tr:TA):TA:=λσ H Q=>ta σ H λx H1=>tr σ H1 λxs H2=>Q (x::xs) H2
section
variable{X:Cx}{e:Expr}{es:List Expr}{te:TE}{t:TA}{pos:Pos}
theorem iQ:PA X [] tQ:=λ_ _ _ _ H Q I h=>Calls.spliced_nil ⟨[],H,I,.nil,h⟩
theorem dO(ha:PE X e te)(hr:PA X es t)(hs:starEach (e::es) X.env=(false,eval e X.env)::starEach es X.env:=by rfl):PA X (e::es) (jD te t):=by
 intro pos pins s σ H Q I h
 rw[hs]
 refine Calls.spliced_cons (thn (ha pins s σ H _ I h) λu s1 ⟨x,H1,I1,r1,q1⟩=>?_)
 exact thn (hr pos pins s1 σ H1 _ I1 q1) λus s2 ⟨xs,H2,I2,r2,q2⟩=>⟨x::xs,H2,I2,.cons r1 r2,q2⟩
noncomputable def tTup(t:TA):TE:=λσ H Q=>t σ H λxs H1=>xs.length<=sizeLine/\∀p,H1 p=none->Q (.ref p) (upd H1 p (.tup xs))
noncomputable def tLst(t:TA):TE:=λσ H Q=>t σ H λxs H1=>xs.length<=sizeLine/\∀p,H1 p=none->Q (.ref p) (upd H1 p (.lst xs))
theorem pe_tup{x1}(h:PA X es t):PE X (.Tuple es x1 pos) (tTup t):=by
 intro pins s σ H Q I hq
 refine wpAny_Tuple_spliced (thn (h pos pins s σ H _ I hq) λus s1 ⟨xs,H1,I1,r,z,q⟩=>⟨by rw[<-r.length];exact z,?_⟩)
 have hf:= I1.hok.fresh (ο _)
 refine⟨.ref s1.heap.objs.size,upd H1 s1.heap.objs.size (.tup xs),I1.laid (λb u e=>Heap.get?_push_of_some _ e) (ο _) ?_,rfl,q _ hf⟩
 exact⟨z,us,r,⟨_,Heap.get?_push_size _ rfl,rfl,_,rfl⟩⟩
theorem ul(h:PA X es t):PE X (.List es pos) (tLst t):=by
 intro pins s σ H Q I hq
 refine wpAny_List_spliced (thn (h pos pins s σ H _ I hq) λus s1 ⟨xs,H1,I1,r,z,q⟩=>⟨by rw[<-r.length];exact z,?_⟩)
 have hf:= I1.hok.fresh (ο _)
 refine⟨.ref s1.heap.objs.size,upd H1 s1.heap.objs.size (.lst xs),I1.laid (λb u e=>Heap.get?_push_of_some _ e) (ο _) ?_,rfl,q _ hf⟩
 exact⟨z,us,0,r,Heap.get?_push_size _ rfl⟩
end
abbrev Sp:=List V->Hp->VK->XK->Prop
abbrev CXT:=List Env->Hp->Shared->XK->Value->Shared->Prop
structure Env0(P:Program)(w:World)(K:ε)(mg:Str->Option Value)(base:Heap)(A:Around)(outer:List Env)(s:Shared)(H:Hp):Prop where
 frames:A.frames=some outer
 mod:Mod K mg base
 bs:∀b o,base.get? b=some o->s.heap.get? b=some o/\H b=none
 bsz:base.objs.size<=s.heap.objs.size
 funs:s.heap.FunFrames base outer
 frf:∀b∈frs outer,H b=none
 hok:HOk P w H s.heap
 bare:AllBare s.gens
def CE(outer:List Env)(P:Program)(w:World)(H:Hp)(s:Shared)(Q:VK)(u:Value)(s':Shared):Prop :=
 ∃v H',s'.os=s.os/\AllBare s'.gens/\Un (frs outer) [] H H' s.heap s'.heap/\HOk P w H' s'.heap/\bC v u/\Q v H'
def CR(CX:CXT)(outer:List Env)(P:Program)(w:World)(H:Hp)(s:Shared)(Q:VK)(E:XK)(r:Result)(s':Shared):Prop :=
 match r with
 | .ok (.ret u)=>CE outer P w H s Q u s'
 | .ok _=>False
 | .error e=>CX outer H s E e s'
structure FnOk(P:Program)(w:World)(K:ε)(mg:Str->Option Value)(base:Heap)(CX:CXT)(k:Nat)(f:Addr)(fd:FuncData)(ps:List Str)(sp:Sp):Prop where
 len:∀vs H Q E,sp vs H Q E->vs.length=ps.length
 run:∀(A:Around) (outer:List Env) (s:Shared) (H:Hp) (args:Args) (us:List Value) (vs:List V) (Q:VK) (E:XK),Room k A->Env0 P w K mg base A outer s H->BindsTo s fd args (ps.zip us)->bx vs us->sp vs H Q E ->
  codeAny (model P w) A (.call (.ref f) args) (CR CX outer P w H s Q E) s
theorem FnOk.imp{P:Program}{w:World}{K:ε}{mg:Str->Option Value}{base:Heap}{CX:CXT}{k:Nat}{f:Addr}{fd:FuncData}{ps:List Str}{sp sp':Sp}(F:FnOk P w K mg base CX k f fd ps sp)
  (h:∀vs H Q E,sp' vs H Q E->sp vs H Q E):FnOk P w K mg base CX k f fd ps sp' :=
 ⟨λvs H Q E q=>F.len vs H Q E (h _ _ _ _ q),λA outer s H args us vs Q E hr he hb hv hs=>F.run A outer s H args us vs Q E hr he hb hv (h _ _ _ _ hs)⟩
theorem Env0.make{P:Program}{w:World}{K:ε}{mg:Str->Option Value}{base:Heap}{A:Around}{outer:List Env}{s:Shared}{H:Hp}(e:Env0 P w K mg base A outer s H)(C:Addr)(us:List Value)(kw:List (Str×Value)) :
  Env0 P w K mg base (A.under (.builtin "type.__call__" ⟨.ref C::us,kw⟩)) outer s H:=⟨by first | exact e.frames | (simpa [Around.under,Code.envs,Code.isFrame,pushEnvs] using e.frames),e.mod,e.bs,e.bsz,e.funs,e.frf,e.hok,e.bare⟩
section
variable{X:Cx}{pins:List (Addr×Obj)}{σ:St}{H:Hp}{s s':Shared}
theorem Inv.env0(I:Inv X pins σ H s):Env0 X.prog X.w X.K X.mg X.base X.A X.stack s H :=
 ⟨I.ok.frames,I.ok.mod,I.bs,Y9 I.ok.bsz I.sz,I.stack,I.stkFree,I.hok,I.bare⟩
theorem Inv.after{Q:VK}{u:Value}(I:Inv X pins σ H s)(h:CE X.stack X.prog X.w H s Q u s'):EP X pins σ Q u s':=by
 obtain⟨v,H',os,bare,un,hok,r,q⟩:=h
 obtain⟨hh,g,d,t,os'⟩:=s'
 obtain rfl:os'=s.os:=os
 exact⟨v,H',I.call un hok bare (λb z=>absurd z (by simp)),r,q⟩
end
noncomputable def tCall(sp:Sp)(dvs:List V)(E:XK)(t:TA):TE:=λσ H Q=>t σ H λvs H1=>sp (vs++dvs) H1 Q E
noncomputable def tMeth(C:Addr)(m:Str)(sp:Sp)(dvs:List V)(E:XK)(ta:TE)(t:TA):TE:=λσ H Q=>ta σ H λx H1=>∃a dx fs,x=.ref a/\H1 a=some (.ins C dx fs)/\fs.lookup m=none /\
 t σ H1 λvs H2=>sp (x::(vs++dvs)) H2 Q E
noncomputable def tMake(C:Addr)(sp:Sp)(dvs:List V)(E:XK)(t:TA):TE:=λσ H Q=>t σ H λvs H1=>∀x dx,H1 x=none->H1 dx=none->dx≠x ->
 sp (.ref x::(vs++dvs)) (upd (upd H1 dx (.own x)) x (.ins C dx [])) (λv H2=>v=.non/\Q (.ref x) H2) E
def cY(K:ε)(fd:FuncData)(ps:List Str)(ds:List Value):Prop :=
 ∀(s:Shared) (us:List Value),K.In s.heap->(us++ds).length=ps.length->BindsTo s fd ⟨us,[]⟩ (ps.zip (us++ds))
theorem cY.all{K:ε}{fd:FuncData}{ps:List Str}(h:∀us:List Value,us.length=ps.length->bindArgs fd ⟨us,[]⟩=pure (ps.zip us)):cY K fd ps []:=λs us _ hl=>by
 rw[Λ] at hl ⊢
 exact .of_eq (h us hl)
def du(CX:CXT)(X:Cx)(E:XK):Prop:=∀(pins:List (Addr×Obj)) (σ:St) (H:Hp) (s:Shared) (e:Value) (s':Shared),Inv X pins σ H s->CX X.stack H s E e s'->X.xe e s'
section
variable{X:Cx}{CX:CXT}{k:Nat}{f C:Addr}{fd:FuncData}{ps:List Str}{sp:Sp}{dvs:List V}{ds:List Value}{E:XK}{x m:Str}{p pos apos:Pos}{e o:Expr}{es:List Expr}{ta:TE}{t:TA}
theorem yA{pins:List (Addr×Obj)}{σ:St}{H:Hp}{s:Shared}{Q:VK}{us:List Value}{vs:List V}(F:FnOk X.prog X.w X.K X.mg X.base CX k f fd ps sp)(hr:Room k X.A)(hb:cY X.K fd ps ds)(hd:bx dvs ds)(hx:du CX X E)
  (I:Inv X pins σ H s) (r:bx vs us) (h:sp (vs++dvs) H Q E):wpAny (model X.prog X.w) X.A (call (.ref f) us) (EP X pins σ Q) X.xe s:=by
 have r2:= r.append hd
 have hl:(us++ds).length=ps.length:=by rw[<-r2.length];exact F.len _ _ _ _ h
 refine wpAny_call (codeAny_mono (F.run X.A X.stack s H ⟨us,[]⟩ (us++ds) (vs++dvs) Q E hr I.env0 (hb s us I.kIn hl) r2 h) λr s' hq=>?_)
 cases r with
 | error e=>exact hx pins σ H s e s' I hq
 | ok fl =>
  cases fl with
  | ret u=>exact I.after hq
  | next=>assumption
  | brk=>assumption
  | cont=>assumption
theorem ke(F:FnOk X.prog X.w X.K X.mg X.base CX k f fd ps sp)(hr:Room k X.A)(hg:Gl X x)(hm:X.mg x=some (.ref f))(hk:ξ X.K (.ref f)=true)(hb:cY X.K fd ps ds)(hd:bx dvs ds)(hx:du CX X E)
  (ha:PA X (e::es) t) (hdb:(x==("__debug__" : Str))=false:=by decide) (he:starEach (e::es) X.env=(false,eval e X.env)::starEach es X.env:=by rfl) (hpl:(backTo pos (starEach es X.env)).any (·.1)=false:=by rfl) :
  PE X (.Call (.Name x p) (e::es) [] pos) (tCall sp dvs E t):=by
 intro pins s σ H Q I h
 refine wpAny_Call_Name_kw (d9 I hg hm ?_ hdb)
 refine U2 (h₀:=X.base) I.ok.mod.kin hk (thn (ha pos pins s σ H _ I h) λus s1 ⟨vs,H1,I1,r,q⟩=>⟨I1.kIn,?_⟩) he hpl
 exact yA F hr hb hd hx I1 r q
theorem qA{pl:Sem Bool}(he:PE X o ta)(c:Cls X.K C)(hm:Meth X.K C m f)(F:FnOk X.prog X.w X.K X.mg X.base CX k f fd ps sp)(hr:Room k X.A)(hb:cY X.K fd ps ds)(hd:bx dvs ds)(hx:du CX X E)(ha:PA X (e::es) t)
  (hst:starEach (e::es) X.env=(false,eval e X.env)::starEach es X.env:=by rfl) (hpl:(backTo pos (starEach es X.env)).any (·.1)=false:=by rfl)
  (ht:eval (.Call (.Attribute o m apos) (e::es) [] pos) X.env=(do
   let ov <- eval o X.env
   standAt apos.atName
   let (f,first) <- holding [ov] (getMethod ov m pl)
   callWith pos f first (backTo pos (starEach (e::es) X.env)) (backToKw pos (keywordEach [] X.env))):=by rfl) :
  PE X (.Call (.Attribute o m apos) (e::es) [] pos) (tMeth C m sp dvs E ta t):=by
 intro pins s σ H Q I h
 refine PySem.W.methodCall_KW (thn (he pins s σ H _ I h) λu s1 ⟨x,H1,I1,rx,a,dx,fs,ex,ea,l,q⟩=>?_) ht
 subst ex
 obtain rfl:u=Value.ref a:=rx
 refine nL I1 ea c hm l ?_
 refine U2 (h₀:=X.base) I.ok.mod.kin hm.kp (thn (ha pos pins s1 σ H1 _ I1 q) λus s2 ⟨vs,H2,I2,r,q2⟩=>⟨I2.kIn,?_⟩) hst hpl
 exact yA (vs:=.ref a::vs) F hr hb hd hx I2 (.cons rfl r) q2
structure Mk(K:ε)(C f:Addr):Prop where
 makes:W9 K C=true
 init:θ K (.ref C) "__init__" = some (some (.ref f))
 fn:X3 K (.ref f)=true
 kp:ξ K (.ref C)=true
theorem yz{pins:List (Addr×Obj)}{σ:St}{H:Hp}{s:Shared}{Q:VK}{us:List Value}{vs:List V}(M:Mk X.K C f)(F:FnOk X.prog X.w X.K X.mg X.base CX k f fd ps sp)(hr:Room (k+1) X.A)(hb:cY X.K fd ps ds)(hd:bx dvs ds)
  (hx:du CX X E) (I:Inv X pins σ H s) (r:bx vs us)
  (h:∀x dx,H x=none->H dx=none->dx≠x->sp (.ref x::(vs++dvs)) (upd (upd H dx (.own x)) x (.ins C dx [])) (λv H2=>v=.non/\Q (.ref x) H2) E) :
  wpAny (model X.prog X.w) X.A (call (.ref C) us) (EP X pins σ Q) X.xe s:=by
 have hq:=h (s.heap.objs.size+1) s.heap.objs.size (I.hok.fresh (Nat.le_succ _)) (I.hok.fresh (ο _)) (Z9 (Nat.lt_succ_self _))
 have I2:=Inv.made (C:=C) I
 have r2:bx (V.ref (s.heap.objs.size+1)::(vs++dvs)) (Value.ref (s.heap.objs.size+1)::(us++ds)):=.cons rfl (r.append hd)
 have hl:(Value.ref (s.heap.objs.size+1)::us++ds).length=ps.length:=by
  have e:=r2.length
  rw[F.len _ _ _ _ hq] at e
  simp_all
 refine wpAny_call (zF (f:=f) I.kIn M.makes M.init (beq_iff_eq.mp M.fn) (codeAny_mono (F.run _ X.stack _ _ ⟨Value.ref (s.heap.objs.size+1)::us,[]⟩ (Value.ref (s.heap.objs.size+1)::(us++ds)) _ _ E (hr.make C us [])
  (I2.env0.make C us []) (hb _ (Value.ref (s.heap.objs.size+1)::us) I2.kIn hl) r2 hq) λr s' hq'=>?_))
 cases r with
 | error e=>exact hx pins σ _ _ e s' I2 hq'
 | ok fl =>
  cases fl with
  | ret u =>
   obtain⟨v,H',I3,rv,ev,q3⟩:=I2.after hq'
   subst ev
   exact⟨rv,⟨V.ref (s.heap.objs.size+1),H',I3,rfl,q3⟩⟩
  | next=>assumption
  | brk=>assumption
  | cont=>assumption
theorem yS(M:Mk X.K C f)(F:FnOk X.prog X.w X.K X.mg X.base CX k f fd ps sp)(hr:Room (k+1) X.A)(hg:Gl X x)(hm:X.mg x=some (.ref C))(hb:cY X.K fd ps ds)(hd:bx dvs ds)(hx:du CX X E)
  (hdb:(x==("__debug__" : Str))=false:=by decide):PE X (.Call (.Name x p) [] [] pos) (tMake C sp dvs E tQ):=by
 intro pins s σ H Q I h
 refine wpAny_Call_Name_kw (d9 I hg hm ?_ hdb)
 exact PySem.W.callWith_K0 I.kIn M.kp (yz M F hr hb hd hx I .nil h)
end
section
variable{X:Cx}{CX:CXT}{k:Nat}{f C:Addr}{fd:FuncData}{ps ks:List Str}{sp:Sp}{E:XK}{x m:Str}{p pos apos kpos:Pos}{e o:Expr}{es:List Expr}{kws:List Keyword}{te ta:TE}{t tk:TA}{nm:Option Str}
variable{g:List Value->List Value->List Value}{gV:List V->List V->List V}
end
structure FnScope(N P:List Str)(sc:Scope):Prop where
 kind:sc.kind=.function
 co:sc.isCoroutine=false
 gen:sc.isGenerator=false
 nd:N.Nodup
 pre:N.take P.length=P
 par:∀x∈P,sc.names.lookup x=some .local\/sc.names.lookup x=some .cell
 nofree:∀y∈sc.names,y.2≠.free
theorem qa{kindOf:Str->Option NameKind}{x:Str}:∀{binds:List (Str×Value)} {m:Str->Option Value},(∀v,(x,v)∉binds)->bindL kindOf binds m x=m x
 | [],_,_=>rfl
 | (n,v)::r,m,h=>by
  unfold bindL
  rw[qa λw hw=>h w (ρ _ hw)]
  split
  all_goals grind
theorem qc{kindOf:Str->Option NameKind}{x:Str}:∀{binds:List (Str×Value)} {m:Str->Option Value},(∀v,(x,v)∉binds)->bindC kindOf binds m x=m x
 | [],_,_=>rfl
 | (n,v)::r,m,h=>by
  unfold bindC
  rw[qc λw hw=>h w (ρ _ hw)]
  split
  all_goals grind
theorem qb{kindOf:Str->Option NameKind}{x:Str}{v:Value}:∀{P:List Str} {vs:List Value} {i:Nat} {m:Str->Option Value},P.Nodup->P[i]?=some x->vs[i]?=some v->kindOf x=some .local ->
  bindL kindOf (P.zip vs) m x=some v
 | [],_,_,_,_,h,_,_=>by simp at h
 | _::_,[],_,_,_,_,h,_=>by simp at h
 | p::P,w::vs,0,m,nd,h1,h2,hk=>by
  simp at h1 h2;subst h1;subst h2
  show bindL kindOf ((p,w)::P.zip vs) m p=_
  unfold bindL
  rw[qa λv hv=>(List.nodup_cons.mp nd).1 (List.of_mem_zip hv).1,if_pos hk]
  simp
 | p::P,w::vs,i+1,m,nd,h1,h2,hk=>by
  show bindL kindOf ((p,w)::P.zip vs) m x=_
  unfold bindL
  exact qb (i:=i) (List.nodup_cons.mp nd).2 (by assumption) (by assumption) hk
theorem qd{kindOf:Str->Option NameKind}{x:Str}{v:Value}:∀{P:List Str} {vs:List Value} {i:Nat} {m:Str->Option Value},P.Nodup->P[i]?=some x->vs[i]?=some v->kindOf x≠some .local ->
  bindC kindOf (P.zip vs) m x=some v
 | [],_,_,_,_,h,_,_=>by simp at h
 | _::_,[],_,_,_,_,h,_=>by simp at h
 | p::P,w::vs,0,m,nd,h1,h2,hk=>by
  simp at h1 h2;subst h1;subst h2
  show bindC kindOf ((p,w)::P.zip vs) m p=_
  unfold bindC
  rw[qc λv hv=>(List.nodup_cons.mp nd).1 (List.of_mem_zip hv).1,if_neg hk]
  simp
 | p::P,w::vs,i+1,m,nd,h1,h2,hk=>by
  show bindC kindOf ((p,w)::P.zip vs) m x=_
  unfold bindC
  exact qd (i:=i) (List.nodup_cons.mp nd).2 (by assumption) (by assumption) hk
noncomputable def start(N:List Str)(vs:List V):St:=vs.map some++Z5 (N.length-vs.length) none
noncomputable def et(CX:CXT)(P:Program)(w:World)(K:ε)(mg:Str->Option Value)(base:Heap)(N:List Str)(qual:Str)(scope:Scope)(f:Addr)(cd:Value)(A:Around)(outer:List Env)(s:Shared)(H:Hp)(E:XK):Cx where
 prog:=P
 w:=w
 K:=K
 mg:=mg
 base:=base
 A:=A.deeper (envOfC qual scope s.heap.objs.size f cd)
 N:=N
 s₀:=s
 H₀:=H
 env:=envOfC qual scope s.heap.objs.size f cd
 outer:=outer
 stack:=envOfC qual scope s.heap.objs.size f cd::outer
 ex:=[]
 calm:=true
 fn:=λ_=>true
 pn:=[]
 xe:=λe s'=>wpAny (model P w) (A.deeper (envOfC qual scope s.heap.objs.size f cd)) (leaving (envOfC qual scope s.heap.objs.size f cd) e) (λ_ s''=>CX outer H s E e s'') (λe' s''=>CX outer H s E e' s'') s'
theorem tz{sc:Scope}{n:Nat}{x:Str}(h:sc.names.lookup x=some .cell):∃c,(cellsFrom n sc.names []).lookup x=some c:=by
 have q:=PySem.W.cellsFrom_some sc.names n [] (.inl h)
 exact V1.mp q
theorem pO{CX:CXT}{P:Program}{w:World}{K:ε}{mg:Str->Option Value}{base:Heap}{N ps:List Str}{qual:Str}{scope:Scope}{f:Addr}{cd:Value}{A:Around}{outer:List Env}{s s1:Shared}{H:Hp}{E:XK}{us:List Value}{vs:List V}
  (S:FnScope N ps scope) (hd:A.handled=none) (e0:Env0 P w K mg base A outer s H) (hl:vs.length=ps.length) (r:bx vs us)
  (x:InCallC s s.heap.objs.size (bindL (envOfC qual scope s.heap.objs.size f cd).kindOf (ps.zip us) λ_=>none) (cellsFrom (s.heap.objs.size+1) scope.names []) (bindC (envOfC qual scope s.heap.objs.size f cd).kindOf (ps.zip us) λ_=>none) s1) :
  Inv (et CX P w K mg base N qual scope f cd A outer s H E) [] (start N vs) H s1:=by
 have hpl:ps.length<=N.length:=by have:=congrArg List.length S.pre;grind
 obtain⟨h1,tk,rfl,hk⟩:=x.done
 have noA:∀b:Addr,b∉(et CX P w K mg base N qual scope f cd A outer s H E).ex:=λb z=>absurd (show b∈([]:List Addr) from z) (by simp)
 refine⟨⟨e0.mod,S.kind,rfl,rfl,ο _,λy z c h1 h2=>?_,λy hy=>?_,λy c _ h=>?_,λ_=>hd,Around.frames_deeper e0.frames,.inr ⟨rfl,rfl⟩,λb z=>absurd z (noA b),e0.bs,e0.bsz,λb _ _=>noA b,λb z=>absurd z (noA b),e0.funs,e0.frf⟩,
  rfl,e0.bare,Un.kept hk,⟨_,x.toInCall.ns,λi y v h1 h2 h3=>?_⟩,λy c h=>⟨_,x.cell y c h⟩,e0.hok.fresh (ο _),λy c h=>?_,λp hp=>absurd (show p∈([]:List (Addr×Obj)) from hp) (by simp),e0.hok.kept hk,?_⟩
 ·exact name_of_addr x.apart (PySem.mem_of_lookup h1) (PySem.mem_of_lookup h2)
 ·rcases hy with hy | hy
  ·exact tz hy
  ·exact absurd rfl (S.nofree _ (PySem.mem_of_lookup hy))
 ·exact Nat.le_of_lt (x.above y c (PySem.mem_of_lookup h))
 ·have hi:i<vs.length:=by
   unfold start at h2
   grind
  have ha:vs[i]?=some v:=by
   unfold start at h2
   grind
  obtain⟨u,hu,rv⟩:=r.get ha
  have hp:ps[i]?=some y:=by
   rw[<-S.pre,List.getElem?_take_of_lt (by omega)];exact h1
  have ndP:ps.Nodup:=by rw[<-S.pre];exact S.nd.sublist (List.take_sublist _ _)
  refine⟨u,rv,?_⟩
  rcases S.par y (U9 hp) with k | k
  ·exact .inl ⟨k,qb ndP hp hu k⟩
  ·obtain⟨c,e⟩:=tz k
   refine .inr ⟨.inl k,c,e,?_⟩
   have q:=x.cell y c e
   rw[qd ndP hp hu (by show scope.names.lookup y≠_;simp_all)] at q
   exact q
 ·exact e0.hok.fresh (Nat.le_of_lt (x.above y c (PySem.mem_of_lookup h)))
 ·unfold start
  show _=N.length
  simp_all
theorem wc{CX:CXT}{P:Program}{w:World}{K:ε}{mg:Str->Option Value}{base:Heap}{k:Nat}{f:Addr}{name qual:Str}{params:Arguments}{body:List Stmt}{scope:Scope}{dV kV doc pm cdv ct oc:Value}{an od:Option Addr}
  {osl:Array (Option Value)} {N ps:List Str} {sp:Sp} (lk:K.lookup f=some ⟨oc,od,.func (ψ name qual params body scope dV kV doc pm an cdv ct),osl⟩) (hcd:ς K cdv qual=true) (S:FnScope N ps scope)
  (len:∀vs H Q E,sp vs H Q E->vs.length=ps.length)
  (hbody:∀(A:Around) (outer:List Env) (s:Shared) (H:Hp) (vs:List V) (Q:VK) (E:XK),Room k (A.deeper (envOfC qual scope s.heap.objs.size f cdv))->sp vs H Q E ->
   ∃t,PSs (et CX P w K mg base N qual scope f cdv A outer s H E) body t/\t { nx:=λ_ H'=>Q .non H',rt:=Q } (start N vs) H) :
  FnOk P w K mg base CX (k+1) f (ψ name qual params body scope dV kV doc pm an cdv ct) ps sp:=by
 refine⟨len,λA outer s H args us vs Q E hr e0 hb r hsp=>?_⟩
 have hl:=len _ _ _ _ hsp
 have KX:= e0.mod.kin.keeps λb o e=>(e0.bs b o e).1
 have lim:= e0.mod.nolimit.keeps λb o e=>(e0.bs b o e).1
 have hkind:∀y∈ps.zip us,scope.names.lookup y.1=some .local\/(scope.names.lookup y.1=some .cell/\((cellsFrom (s.heap.objs.size+1) scope.names []).lookup y.1).isSome=true):=λ⟨n,v⟩ hy=>by
  rcases S.par n (List.of_mem_zip hy).1 with q | q
  ·simp_all
  ·exact .inr ⟨q,PySem.W.cellsFrom_some _ _ _ (.inl q)⟩
 refine codeAny_call_function hr.depth (KX _ _ lk) rfl S.co S.gen rfl (PySem.W.codeRec_of KX hcd) (hb _ _ _ _ ?_)
 refine wpAny_newFunctionEnv_cells S.kind hkind λenv he s1 x=>?_
 subst he
 refine⟨lim.keeps x.toInCall.keep,codeAny_func ?_⟩
 obtain⟨t,ht,hq⟩:=hbody A outer s H vs Q E (hr.deeper _) hsp
 have I:Inv (et CX P w K mg base N qual scope f cdv A outer s H E) [] (start N vs) H s1:=pO S hr.hd e0 hl r x
 refine wpAny_mono (ht [] s1 (start N vs) H _ I hq) (λfl s' hs=>?_) λe s' hs=>hs
 have fin:∀{σ':St} {H':Hp} {v:V} {u:Value},Inv (et CX P w K mg base N qual scope f cdv A outer s H E) [] σ' H' s'->bC v u->Q v H'->CE outer P w H s Q u s' :=
  λ{σ' H' v u} J rv q=>⟨v,H',J.os,J.bare,J.base,J.hok,rv,q⟩
 cases fl with
 | ret u =>
  obtain⟨v,σ',H',J,rv,q⟩:=hs
  exact fin J rv q
 | next =>
  obtain⟨σ',H',J,q⟩:=hs
  exact fin (v:=V.non) J rfl q
 | brk =>
  obtain⟨_,_,_,q⟩:=hs
  simp_all
 | cont =>
  obtain⟨_,_,_,q⟩:=hs
  simp_all
end L2
namespace L2
open PyProof.Rows
section
variable{X:Cx}{x:Str}{p pos:Pos}{e:Expr}{es:List Expr}{t:TA}{id T:String}{r:List V->Hp->VK->Prop}
def tCB(r:List V->Hp->VK->Prop)(t:TA):TE:=λσ H Q=>t σ H λvs H1=>r vs H1 Q
theorem m6(hc:eF X (.builtin id) r)(hg:Gl X x)(hm:X.mg x=none)(hv:bootBuiltins x=some (.builtin id))(ha:PA X (e::es) t)(hn:x ≠ "__name__" := by decide)(hdb:(x==("__debug__" : Str))=false:=by decide)
  (he:starEach (e::es) X.env=(false,eval e X.env)::starEach es X.env:=by rfl) (hpl:(backTo pos (starEach es X.env)).any (·.1)=false:=by rfl):PE X (.Call (.Name x p) (e::es) [] pos) (tCB r t):=by
 intro pins s σ H Q I h
 refine wpAny_Call_Name_kw (lu I hg hm hv ?_ hn hdb)
 exact PyProof.Rows.callWith_builtin1 (thn (ha pos pins s σ H _ I h) λus s1 ⟨vs,H1,I1,r1,q1⟩=>hc pins s1 σ H1 vs us Q I1 r1 q1) he hpl
theorem py(hc:eF X (.type T) r)(hg:Gl X x)(hm:X.mg x=none)(hv:bootBuiltins x=some (.type T))(ha:PA X (e::es) t)(hn:x ≠ "__name__" := by decide)(hdb:(x==("__debug__" : Str))=false:=by decide)
  (he:starEach (e::es) X.env=(false,eval e X.env)::starEach es X.env:=by rfl) (hpl:(backTo pos (starEach es X.env)).any (·.1)=false:=by rfl):PE X (.Call (.Name x p) (e::es) [] pos) (tCB r t):=by
 intro pins s σ H Q I h
 refine wpAny_Call_Name_kw (lu I hg hm hv ?_ hn hdb)
 exact PyProof.Rows.callWith_type1 (thn (ha pos pins s σ H _ I h) λus s1 ⟨vs,H1,I1,r1,q1⟩=>hc pins s1 σ H1 vs us Q I1 r1 q1) he hpl
end
end L2
namespace HT
open PyProof.Rows
noncomputable def lexLt:List Int->List Int->Bool
 | [],[]=>false
 | [],_::_=>true
 | _::_,[]=>false
 | x::xs,y::ys=>if x=y then lexLt xs ys else decide (x<y)
section
open PySem.SeqAt
open PySem.AutoSeq1 (wpAny_loadPart')
open PySem.MeetsSeq PySem.MeetsSeq2 PySem.MeetsSeq3
end
section
variable{prog:Program}{w:World}{A:Around}{E:Value->Shared->Prop}{s:Shared}
theorem Cp{t b:Addr}{vs ws:List Value}{Q:Value->Shared->Prop}(ht:IsTup s.heap t vs.toArray)(hb:IsTup s.heap b ws.toArray)(hv:vs≠[])
  (h1:ws=[]->Q (.ref t) s) (h2:ws≠[]->Q (.ref s.heap.objs.size) { s with heap:=s.heap.push { cls:=.type "tuple",data:=.seq (vs++ws).toArray } })
  (hsz:vs.length+ws.length<=sizeLine):wpAny (model prog w) A (binaryOp .Add (.ref t) (.ref b)) Q E s:=by
 obtain⟨⟨cls,dd,data,sl⟩,ho,hc,n,hd⟩:=id ht
 obtain⟨⟨cls2,dd2,data2,sl2⟩,ho2,hc2,n2,hd2⟩:=id hb
 subst hc hd hc2 hd2
 have e:vs.toArray++ws.toArray=(vs++ws).toArray:=by simp
 by_cases hw:ws=[]
 ·exact concat_meets ⟨_,ho,rfl⟩ ⟨_,ho2,rfl⟩ noFill_tuple_add seq_tuple_add PySem.F.slot_tuple_add PySem.F.entry_tuple_add (PySem.F.args_tuple_add_2 _ _)
   (tuple_addW1 t b vs.toArray ws.toArray n n2 dd dd2 sl sl2 (by simp_all) (by simp [hw])) ⟨ho,ho2,h1 hw⟩
 ·refine concat_meets ⟨_,ho,rfl⟩ ⟨_,ho2,rfl⟩ noFill_tuple_add seq_tuple_add PySem.F.slot_tuple_add PySem.F.entry_tuple_add (PySem.F.args_tuple_add_2 _ _)
   (tuple_addW2 t b vs.toArray ws.toArray n n2 dd dd2 sl sl2 (by simp_all) (by simp_all) (by exact hsz)) ⟨ho,ho2,?_⟩
  simp_all
noncomputable def sIx(n d:Nat):Option Int->Nat
 | none=>d
 | some v=>if v<0 then (v+(n:Int)).toNat else min v.toNat n
theorem sIx_le(n d:Nat)(hd:d<=n)(o:Option Int):sIx n d o<=n:=by
 cases o with
 | none=>exact hd
 | some v =>
  show(if v<0 then (v+(n:Int)).toNat else min v.toNat n)<=n
  grind
theorem wF(v:Int)(n d:Nat):(if v<0 then max (v+(n:Int)) 0 else min v (n:Int))=((sIx n d (some v):Nat):Int):=by
 show(if v<0 then max (v+(n:Int)) 0 else min v (n:Int))=(((if v<0 then (v+(n:Int)).toNat else min v.toNat n):Nat):Int)
 grind
theorem vi(lo hi:Option Int)(n:Nat):Builtin.Slice.sliceAdjust lo hi 1 (n:Int)=(((sIx n 0 lo:Nat):Int),((sIx n n hi:Nat):Int)):=by
 have h1:¬((1:Int)<0):=by omega
 unfold Builtin.Slice.sliceAdjust
 refine Prod.ext ?_ ?_
 ·cases lo with
  | none=>rfl
  | some v=>exact wF v n 0
 ·cases hi with
  | none=>rfl
  | some v=>exact wF v n n
theorem uj(i j:Nat):Builtin.Slice.slicePlaces (i:Int) (j:Int) 1=j-i:=by
 unfold Builtin.Slice.slicePlaces
 omega
theorem mK{v:Value}{o:Option Int}{Q:Option Int->Shared->Prop}(p:IsPart v o)(h:Q o s):wpAny (model prog w) A (Builtin.Slice.slicePartIndex v) Q E s:=by
 cases p with
 | none=>exact slicePart_none h
 | int i t=>exact slicePart_int h
theorem lf{sl:Addr}{vl vu:Value}{lo hi:Option Int}{n:Nat}{Q:Int×Int×Nat->Shared->Prop}(hs:s.heap.IsSliceOf sl vl vu .none)(pl:IsPart vl lo)(pu:IsPart vu hi)
  (h:Q (((sIx n 0 lo:Nat):Int),1,sIx n n hi-sIx n 0 lo) s):wpAny (model prog w) A (Builtin.Slice.sliceApplied (.ref sl) (pure (n:Int))) Q E s:=by
 obtain⟨os,hos,hcs,hds⟩:=id hs
 refine wpAny_bind (wpAny_bind (wpAny_field hos hds rfl (wpAny_bind (wpAny_field hos hds rfl (wpAny_bind (wpAny_field hos hds rfl (wpAny_pure ?_)))))))
 refine wpAny_bind (slicePart_none ?_)
 refine wpAny_bind (mK pl (wpAny_bind (mK pu (wpAny_bind (wpAny_pure ?_)))))
 show wpAny _ _ (match Builtin.Slice.sliceAdjust lo hi 1 (n:Int) with | (lo,hi)=>pure (lo,(1:Int),Builtin.Slice.slicePlaces lo hi 1)) _ _ s
 rw[vi lo hi n]
 show wpAny _ _ (pure (((sIx n 0 lo:Nat):Int),(1:Int),Builtin.Slice.slicePlaces ((sIx n 0 lo:Nat):Int) ((sIx n n hi:Nat):Int) 1)) _ _ s
 rw[uj]
 exact wpAny_pure h
theorem yN(xs:Array Value)(i k:Nat):((List.range k).filterMap λ(m:Nat)=>xs[((i:Int)+(m:Int)*1).toNat]?).toArray=((xs.toList.drop i).take k).toArray:=by
 have e:(λ(m:Nat)=>xs[((i:Int)+(m:Int)*1).toNat]?)=λm=>xs[i+m]?:=by
  grind
 rw[e]
 have:=pick_run xs i k
 rw[List.filterMap_map] at this
 have e2:((λx=>xs[x]?)∘λx=>i+x)=λm=>xs[i+m]?:=rfl
 simp_all
theorem kG{t sl:Addr}{items:Array Value}{vl vu:Value}{lo hi:Option Int}{Q:Value->Shared->Prop}(ht:IsTup s.heap t items)(hs:s.heap.IsSliceOf sl vl vu .none)(pl:IsPart vl lo)(pu:IsPart vu hi)
  (hw:¬(sIx items.size 0 lo=0/\sIx items.size items.size hi=items.size))
  (h:Q (.ref s.heap.objs.size) { s with heap:=s.heap.push { cls:=.type "tuple",data:=.seq ((items.toList.drop (sIx items.size 0 lo)).take (sIx items.size items.size hi-sIx items.size 0 lo)).toArray } })
  (hsz:items.size<=sizeLine):wpAny (model prog w) A (getItem (.ref t) (.ref sl)) Q E s:=by
 have htake:sizeOk (.seq ((items.toList.drop (sIx items.size 0 lo)).take (sIx items.size items.size hi-sIx items.size 0 lo)).toArray):=by
  show((items.toList.drop (sIx items.size 0 lo)).take (sIx items.size items.size hi-sIx items.size 0 lo)).toArray.size<=sizeLine
  grind
 obtain⟨os,hos,hcs,hds⟩:=id hs
 have hTs:s.TypeIs (.ref sl) "slice" := ⟨os,hos,hcs⟩
 unfold getItem
 try with_reducible refine wpAny_holding ?_
 refine wpAny_bind (wpAny_sequenceKey ht.typeIs (by decide) ?_)
 refine wpAny_bind (wpAny_callSpecial?_slot (name:=Str.ofString "__getitem__") ht.typeIs PyProof.Rows.slot_tuple_getitem
  (wpAny_call_entry PyProof.Rows.slot_tuple_getitem ht.typeIs entry_tuple_getitem ?_ (args_tuple_getitem _ _)))
 show wpAny _ _ (Builtin.Tuple.tupleItemsOf (.ref t) >>= _) _ _ s
 refine wpAny_bind (tupleItemsOf_ ht ?_)
 refine wpAny_bind (wpAny_typeOf hTs ?_)
 refine wpAny_bind (lf hs pl pu ?_)
 have hno:¬((((sIx items.size 0 lo:Nat):Int)==0&&(1:Int)==1&&(sIx items.size items.size hi-sIx items.size 0 lo)==items.size)=true):=by
  simp_all
 show wpAny _ _ (if (((sIx items.size 0 lo:Nat):Int)==0&&(1:Int)==1&&(sIx items.size items.size hi-sIx items.size 0 lo)==items.size)=true then _ else _) _ _ s
 rw[if_neg hno,yN]
 first
  | exact wpAny_bind (m:=Builtin.Tuple.tupleExact _) (wpAny_newObj_type (wpAny_pure ⟨_,rfl,wpAny_pure h⟩) htake)
  | exact wpAny_bind (m:=Builtin.Tuple.tupleExact _) (wpAny_newObj_type (wpAny_bind (wpAny_pure (wpAny_pure ⟨_,rfl,wpAny_pure h⟩))) htake)
  | exact wpAny_bind (wpAny_bind (m:=Builtin.Tuple.tupleExact _) (wpAny_newObj_type (wpAny_pure (wpAny_pure ⟨_,rfl,wpAny_pure h⟩)) htake))
  | exact wpAny_bind (wpAny_bind (m:=Builtin.Tuple.tupleExact _) (wpAny_newObj_type (wpAny_pure ⟨_,rfl,wpAny_pure h⟩) htake))
end
end HT
namespace L2
open PyProof.Rows
abbrev TO:=St->Hp->(Option Int->Hp->Prop)->Prop
def PO(X:Cx)(e:Option Expr)(t:TO):Prop :=
 ∀(pins:List (Addr×Obj)) (s:Shared) (σ:St) (H:Hp) (Q:Option Int->Hp->Prop),Inv X pins σ H s->t σ H Q ->
  wpAny (model X.prog X.w) X.A (evalPart e X.env) (λu s'=>∃o H',Inv X pins σ H' s'/\IsPart u o/\Q o H') X.xe s
noncomputable def A5:TO:=λ_ H Q=>Q none H
noncomputable def tPart(t:TE):TO:=λσ H Q=>t σ H λx H1=>∃i,x=.int i/\Q (some i) H1
section
variable{X:Cx}{e:Expr}{te:TE}{lo hi:Option Expr}{tl th:TO}{pos p2:Pos}
theorem Bq:PO X none A5:=by
 intro pins s σ H Q I h
 exact wpAny_pure ⟨none,H,I,.none,h⟩
theorem Bp(h:PE X e te):PO X (some e) (tPart te):=by
 intro pins s σ H Q I hw
 refine thn (h pins s σ H _ I hw) λu s1 ⟨x,H1,I1,r1,q1⟩=>?_
 obtain⟨i,rfl,q⟩:=q1
 obtain⟨t,rfl⟩:=r1
 exact⟨some i,H1,I1,.int i t,q⟩
def SlR(X:Cx)(r:V->Option Int->Option Int->Hp->VK->Prop):Prop :=
 ∀(pins:List (Addr×Obj)) (s:Shared) (σ:St) (H:Hp) (x:V) (v vl vu:Value) (lo hi:Option Int) (sl:Addr) (Q:VK),Inv X pins σ H s->bC x v->s.heap.IsSliceOf sl vl vu .none->IsPart vl lo->IsPart vu hi->r x lo hi H Q ->
  ∃T id,typeLookup (.type T) "__getitem__" = pure (some (.builtin id))/\s.TypeIs v T/\wpAny (model X.prog X.w) X.A (getItem v (.ref sl)) (EP X pins σ Q) X.xe s
theorem SlR.or{r r':V->Option Int->Option Int->Hp->VK->Prop}(h:SlR X r)(h':SlR X r'):SlR X (λx lo hi H Q=>r x lo hi H Q\/r' x lo hi H Q):=by
 intro pins s σ H x v vl vu lo hi sl Q I rx hs pl pu q
 rcases q with q | q
 ·exact h pins s σ H x v vl vu lo hi sl Q I rx hs pl pu q
 ·exact h' pins s σ H x v vl vu lo hi sl Q I rx hs pl pu q
def tSl(r:V->Option Int->Option Int->Hp->VK->Prop)(te:TE)(tl th:TO):TE:=λσ H Q=>te σ H λx H1=>tl σ H1 λl H2=>th σ H2 λu H3=>r x l u H3 Q
theorem yR{r:V->Option Int->Option Int->Hp->VK->Prop}(hr:SlR X r)(he:PE X e te)(hl:PO X lo tl)(hu:PO X hi th):PE X (.Subscript e (.Slice lo hi none p2) pos) (tSl r te tl th):=by
 intro pins s σ H Q I h
 refine Subscript_ (thn (he pins s σ H _ I h) λv s1 ⟨x,H1,I1,r1,q1⟩=>?_)
 refine wpAny_Slice (thn (hl pins s1 σ H1 _ I1 q1) λvl s2 ⟨l,H2,I2,pl,q2⟩=>thn (hu pins s2 σ H2 _ I2 q2) λvu s3 ⟨u,H3,I3,pu,q3⟩=>?_)
 refine wpAny_pure ?_
 have I4:Inv X pins σ H3 { s3 with heap:=s3.heap.push { cls:=.type "slice",data:=.fields #[vl,vu,.none] } }:=I3.kept λb ob q=>Heap.get?_push_of_some _ q
 obtain⟨T,id,hT,ht,hg⟩:=hr pins { s3 with heap:=s3.heap.push { cls:=.type "slice",data:=.fields #[vl,vu,.none] } } σ H3 x v vl vu l u s3.heap.objs.size Q I4 r1 (Heap.IsSliceOf.new ..) pl pu q3
 exact tail_any ht hT hg (by rfl)
noncomputable def xQ(xs:List V)(lo hi:Option Int):List V:=(xs.drop (HT.sIx xs.length 0 lo)).take (HT.sIx xs.length xs.length hi-HT.sIx xs.length 0 lo)
theorem lS(xs:List V)(lo hi:Option Int):(xQ xs lo hi).length<=xs.length:=by
 unfold xQ
 grind
def rSlT(K:ε):V->Option Int->Option Int->Hp->VK->Prop:=λx lo hi H Q=>∃a xs,x=.ref a/\SqT K H a xs /\
 ¬(HT.sIx xs.length 0 lo=0/\HT.sIx xs.length xs.length hi=xs.length)/\∀p,H p=none->Q (.ref p) (upd H p (.tup (xQ xs lo hi)))
theorem sl_tup:SlR X (rSlT X.K):=by
 intro pins s σ H x v vl vu lo hi sl Q I rx hs pl pu h
 obtain⟨a,xs,rfl,hx,hw,q⟩:=h
 cases rx
 obtain⟨its,r,ht,hz⟩:=I.tuple hx
 have hlen:its.toArray.size=xs.length:=by exact r.length.symm
 refine⟨"tuple",_,PyProof.Rows.slot_tuple_getitem.lookup,ht.typeIs,?_⟩
 refine HT.kG ht hs pl pu (by simp_all) ?_ (by omega)
 rw[hlen]
 refine⟨.ref s.heap.objs.size,_,I.laid (λb ob q=>Heap.get?_push_of_some _ q) (ο _) ?_,rfl,q _ (I.hok.fresh (ο _))⟩
 exact⟨Y9 (lS xs lo hi) hz,_,(r.drop (HT.sIx xs.length 0 lo)).take (HT.sIx xs.length xs.length hi-HT.sIx xs.length 0 lo),IsTup.new _ _⟩
noncomputable def rCatT(K:ε):R2:=λx y H Q=>∃a b xs ys,x=.ref a/\y=.ref b/\SqT K H a xs/\SqT K H b ys/\xs≠[]/\xs.length+ys.length<=sizeLine /\
 (ys=[]->Q (.ref a) H)/\(ys≠[]->∀p,H p=none->Q (.ref p) (upd H p (.tup (xs++ys))))
theorem bx.nil_iff{xs:List V}{us:List Value}(r:bx xs us):us=[]↔xs=[]:=by
 cases r with
 | nil=>simp
 | cons _ _=>simp
theorem BF:OpR X (binaryOp .Add) (rCatT X.K):=by
 intro pins s σ H x y v u Q I rx ry h
 obtain⟨a,b,xs,ys,rfl,rfl,ha,hb,hx,hz,q1,q2⟩:=h
 cases rx
 cases ry
 obtain⟨its,r1,p1,_⟩:=I.tuple ha
 obtain⟨its2,r2,p2,_⟩:=I.tuple hb
 refine HT.Cp p1 p2 (λz=>hx (r1.nil_iff.mp z)) (λz=>⟨.ref a,H,I,rfl,q1 (r2.nil_iff.mp z)⟩) (λz=>?_) (by rw[<-r1.length,<-r2.length];exact hz)
 refine⟨.ref s.heap.objs.size,_,I.laid (λb ob q=>Heap.get?_push_of_some _ q) (ο _) ?_,rfl,q2 (λw=>z (r2.nil_iff.mpr w)) _ (I.hok.fresh (ο _))⟩
 exact⟨by simp_all,_,r1.append r2,IsTup.new _ _⟩
end
end L2
namespace L2
open PyProof.Rows
noncomputable def ixN(n:Nat)(i:Int):Option Nat:=if 0<=i then (if i<n then some i.toNat else none) else if -(n:Int)<=i then some (i+n).toNat else none
noncomputable def atI{α:Type}(xs:List α)(i:Int):Option α:=(ixN xs.length i).bind λj=>xs[j]?
theorem BX{n:Nat}{i:Int}{j:Nat}(h:ixN n i=some j):seqIndex? i n=some j/\j<n /\ -(n:Int)<=i/\i<n:=by
 unfold ixN at h
 by_cases h0:0<=i
 ·rw[if_pos h0] at h
  by_cases h1:i<n
  ·rw[if_pos h1] at h
   have e:= Option.some.inj h
   exact⟨by rw[seqIndex_of h0 h1,e],by omega,by omega,h1⟩
  simp_all
 ·rw[if_neg h0] at h
  by_cases h1 : -(n:Int)<=i
  ·rw[if_pos h1] at h
   have e:= Option.some.inj h
   exact⟨by rw[seqIndex_neg (by omega) h1,e],by omega,h1,by omega⟩
  simp_all
theorem rn{α:Type}{xs:List α}{i:Int}{v:α}(h:atI xs i=some v):∃j,seqIndex? i xs.length=some j/\xs[j]?=some v/\j<xs.length /\ -(xs.length:Int)<=i/\i<xs.length:=by
 unfold atI at h
 cases e:ixN xs.length i with
 | none=>simp_all
 | some j =>
  rw[e] at h
  obtain⟨h1,h2,h3,h4⟩:=BX e
  simp_all
theorem wI{α:Type}{xs:List α}{j:Nat}{v:α}(h:xs[j]?=some v):atI xs (j:Int)=some v:=by
 have hj:= (Z4.mp h).1
 have e:ixN xs.length (j:Int)=some j:=by
  unfold ixN
  simp_all
 unfold atI;simp_all
def rq(b:Expr):Prop:=∀o i,subscripted b false o i=operate [o,i] (getItem o i)
def IxR(X:Cx)(r:R2):Prop :=
 ∀(value slice:Expr) (pins:List (Addr×Obj)) (s:Shared) (σ:St) (H:Hp) (x y:V) (v u:Value) (Q:VK),Inv X pins σ H s->bC x v->bC y u->r x y H Q ->
  subscripted slice false v u=operate [v,u] (getItem v u)->wpAny (model X.prog X.w) X.A (subscriptTail value slice v u) (EP X pins σ Q) X.xe s
def MtR(X:Cx)(id:String)(r:V->List V->Hp->VK->Prop):Prop :=
 ∀(pins:List (Addr×Obj)) (s:Shared) (σ:St) (H:Hp) (x:V) (xs:List V) (v:Value) (us:List Value) (Q:VK),Inv X pins σ H s->bC x v->bx xs us->r x xs H Q ->
  wpAny (model X.prog X.w) X.A (call (.builtin id) (v::us)) (EP X pins σ Q) X.xe s
section
variable{X:Cx}{a b:Expr}{ta tb:TE}{pos:Pos}
theorem IxR.or{r r':R2}(h:IxR X r)(h':IxR X r'):IxR X (λx y H Q=>r x y H Q\/r' x y H Q):=by
 intro value slice pins s σ H x y v u Q I rx ry q hs
 rcases q with q | q
 ·exact h value slice pins s σ H x y v u Q I rx ry q hs
 ·exact h' value slice pins s σ H x y v u Q I rx ry q hs
theorem pe_ix{r:R2}(hr:IxR X r)(ha:PE X a ta)(hb:PE X b tb)(hs:rq b):PE X (.Subscript a b pos) (tOp r ta tb):=by
 intro pins s σ H Q I h
 exact Subscript_ (binT ha hb I h λv u s2 x y H2 I2 rx ry q=>hr a b pins s2 σ H2 x y v u Q I2 rx ry q (hs _ _))
noncomputable def rIxL(K:ε):R2:=λx y H Q=>∃p xs i v,x=.ref p/\y=.int i/\SqL K H p xs/\atI xs i=some v/\Q v H
noncomputable def rIxT(K:ε):R2:=λx y H Q=>∃p xs i v,x=.ref p/\y=.int i/\SqT K H p xs/\atI xs i=some v/\Q v H
noncomputable def rIxS:R2:=λx y H Q=>∃z i c,x=.str z/\y=.int i/\z.length<=sizeLine/\atI z.cps.toList i=some c/\Q (.str ⟨#[c]⟩) H
theorem BW:IxR X (rIxL X.K):=by
 intro value slice pins s σ H x y v u Q I rx ry h hs
 obtain⟨p,xs,i,z,rfl,rfl,hq,he,q⟩:=h
 cases rx
 obtain⟨t,rfl⟩:=ry
 obtain⟨its,r,pl,hz⟩:=I.list hq
 obtain⟨j,h1,h2,h3,h4,h5⟩:=rn he
 obtain⟨w,ew,rw'⟩:=r.get h2
 have hl:=r.length
 have hn:=ny
 have fin:EP X pins σ Q w s:=⟨z,H,I,rw',q⟩
 by_cases h0:0<=i
 ·have hj:i.toNat=j:=by
   rw[seqIndex_of h0 h5] at h1
   simp_all
  exact item_listR pl.isList h0 (by omega) (by simp_all) fin hs
 ·have hj:(i+(its.toArray.size:Int)).toNat=j:=by
   rw[seqIndex_neg (by omega) h4] at h1
   simp_all
  exact subscriptTail_builtinR (x:=w) pl.isList.typeIs slot_list_getitem.lookup
   (wpAny_getItem_list_neg (Q:=λr s'=>r=w/\EP X pins σ Q r s') pl.isList (by omega) (by simp_all) (by omega) (by simp_all) ⟨rfl,fin⟩) hs
theorem ix_tup:IxR X (rIxT X.K):=by
 intro value slice pins s σ H x y v u Q I rx ry h hs
 obtain⟨p,xs,i,z,rfl,rfl,hq,he,q⟩:=h
 cases rx
 obtain⟨t,rfl⟩:=ry
 obtain⟨its,r,pl,hz⟩:=I.tuple hq
 obtain⟨j,h1,h2,h3,h4,h5⟩:=rn he
 obtain⟨w,ew,rw'⟩:=r.get h2
 have hl:=r.length
 have hn:=ny
 have fin:EP X pins σ Q w s:=⟨z,H,I,rw',q⟩
 exact subscriptTail_builtinR (x:=w) pl.typeIs slot_tuple_getitem.lookup
  (getItem_tuple (j:=j) (Q:=λr s'=>r=w/\EP X pins σ Q r s') pl (by omega) (by omega) (by simp_all) (by simp_all) ⟨rfl,fin⟩) hs
theorem ix_str:IxR X rIxS:=by
 intro value slice pins s σ H x y v u Q I rx ry h hs
 obtain⟨z,i,c,rfl,rfl,hz,he,q⟩:=h
 obtain⟨t,rfl⟩:=rx
 obtain⟨t',rfl⟩:=ry
 obtain⟨j,h1,h2,h3,h4,h5⟩:=rn he
 have hl:z.cps.toList.length=z.length:=by rfl
 rw[hl] at h1 h4 h5
 have hn:=ny
 exact tail_any (typeIs_str s z t) slot_str_getitem.lookup (getItem_str (c:=c) (by
  grind) (by simp_all) ⟨.str ⟨#[c]⟩,H,I.tok _,⟨_,rfl⟩,q⟩) hs
noncomputable def rIx(K:ε):R2:=λx y H Q=>rIxL K x y H Q\/rIxT K x y H Q\/rIxS x y H Q
theorem zV:IxR X (rIx X.K):=BW.or (ix_tup.or ix_str)
theorem qh(lo hi:Option Int)(n:Nat):(sliceBounds lo hi none n).1=((HT.sIx n 0 lo:Nat):Int)/\(sliceBounds lo hi none n).2.1=((HT.sIx n n hi:Nat):Int)/\(sliceBounds lo hi none n).2.2=1:=by
 refine⟨?_,?_,rfl⟩
 ·cases lo with
  | none=>rfl
  | some i =>
   simp only[sliceBounds,HT.sIx,Option.getD_none,show(1:Int) > 0 by decide,if_true]
   grind
 ·cases hi with
  | none=>rfl
  | some i =>
   simp only[sliceBounds,HT.sIx,Option.getD_none,show(1:Int) > 0 by decide,if_true]
   grind
theorem oK(its:List Value)(lo hi:Option Int):slicePick its.toArray lo hi none=((its.drop (HT.sIx its.length 0 lo)).take (HT.sIx its.length its.length hi-HT.sIx its.length 0 lo)).toArray:=by
 obtain⟨h1,h2,h3⟩:=qh lo hi its.toArray.size
 unfold slicePick
 rw[h1,h2,h3]
 simp only[sliceRange_one,pick_run,List.size_toArray]<;>rfl
def rSlL(K:ε):V->Option Int->Option Int->Hp->VK->Prop:=λx lo hi H Q=>∃a xs,x=.ref a/\SqL K H a xs/\∀p,H p=none->Q (.ref p) (upd H p (.lst (xQ xs lo hi)))
theorem Bb:SlR X (rSlL X.K):=by
 intro pins s σ H x v vl vu lo hi sl Q I rx hs pl pu h
 obtain⟨a,xs,rfl,hx,q⟩:=h
 cases rx
 obtain⟨its,r,ht,hz⟩:=I.list hx
 have hlen:=r.length
 refine⟨"list",_,slot_list_getitem.lookup,ht.isList.typeIs,?_⟩
 refine wpAny_getItem_list_slice ht.isList hs pl pu .none (by simp) ?_ (by simp_all)
 rw[oK,<-hlen]
 refine⟨.ref s.heap.objs.size,_,I.laid (λb ob q=>Heap.get?_push_of_some _ q) (ο _) ?_,rfl,q _ (I.hok.fresh (ο _))⟩
 exact⟨Y9 (lS xs lo hi) hz,_,0,(r.drop (HT.sIx xs.length 0 lo)).take (HT.sIx xs.length xs.length hi-HT.sIx xs.length 0 lo),Heap.get?_push_size _ rfl⟩
theorem rl:eF X (.builtin "len") (λxs H Q=>∃p ys,xs=[.ref p]/\(SqL X.K H p ys\/SqT X.K H p ys)/\Q (.int ys.length) H):=by
 intro pins s σ H xs us Q I r h
 obtain⟨p,ys,rfl,hq,q⟩:=h
 obtain⟨u,rfl,rx⟩:=fu r
 cases rx
 have hn:=ny
 rcases hq with hq | hq
 ·obtain⟨its,r',pl,hz⟩:=I.list hq
  have hlen:=r'.length
  exact Calls.call_len_list pl.isList (by grind) ⟨.int ys.length,H,I.tok _,⟨s.toks+1,by simp_all⟩,q⟩
 ·obtain⟨its,r',pl,hz⟩:=I.tuple hq
  have hlen:=r'.length
  exact len_tuple pl (by grind) ⟨.int ys.length,H,I.tok _,⟨s.toks+1,by simp_all⟩,q⟩
theorem rk:eF X (.builtin "len") (λxs H Q=>∃z,xs=[.str z]/\z.length<=sizeLine/\Q (.int z.length) H):=by
 intro pins s σ H xs us Q I r h
 obtain⟨z,rfl,hz,q⟩:=h
 obtain⟨u,rfl,t,rfl⟩:=fu r
 have hn:=ny
 exact len_str (by omega) ⟨.int z.length,H,I.tok _,⟨_,rfl⟩,q⟩
theorem eF.or{f:Value}{r r':List V->Hp->VK->Prop}(h:eF X f r)(h':eF X f r'):eF X f (λxs H Q=>r xs H Q\/r' xs H Q):=by
 intro pins s σ H xs us Q I rs q
 rcases q with q | q
 ·exact h pins s σ H xs us Q I rs q
 ·exact h' pins s σ H xs us Q I rs q
def tyV(K:ε)(T:String)(x:V)(H:Hp):Prop:=match x with
 | .str _=>T = "str"
 | .int _=>T = "int"
 | .ref p=>(T = "list" /\ ∃xs,SqL K H p xs)\/(T = "tuple" /\ ∃o,K.lookup p=some o/\o.cls=.type "tuple" /\ o.dict=none) \/
   (T = "dict" /\ ((∃kvs,H p=some (.dK kvs))\/∃kvs,H p=some (.dT kvs)))\/(T = "set" /\ ∃S n,H p=some (.set S n))
 | _=>False
theorem tyV_is{pins:List (Addr×Obj)}{σ:St}{H:Hp}{s:Shared}{T:String}{x:V}{v:Value}(I:Inv X pins σ H s)(r:bC x v)(ty:tyV X.K T x H) :
  s.TypeIs v T/\∀a,v=.ref a->∃ob,s.heap.get? a=some ob/\ob.dict=none:=by
 cases x with
 | str z =>
  obtain⟨t,rfl⟩:=r
  cases (show T = "str" from ty)
  exact⟨typeIs_str s z t,λ_ e=>nomatch e⟩
 | int i =>
  obtain⟨t,rfl⟩:=r
  cases (show T = "int" from ty)
  exact⟨typeIs_int s i t,λ_ e=>nomatch e⟩
 | ref p =>
  cases r
  rcases ty with ⟨rfl,xs,hq⟩ | ⟨rfl,o,hk,hc,hd⟩ | ⟨rfl,hk⟩ | ⟨rfl,S,n,hk⟩
  ·obtain⟨its,_,pl,_⟩:=I.list hq
   refine⟨pl.isList.typeIs,λa e=>?_⟩
   cases e
   obtain⟨o,n,e,c,hd,_⟩:=pl
   simp_all
  ·refine⟨⟨o,I.kIn p o hk,hc⟩,λa e=>?_⟩
   cases e
   exact⟨o,I.kIn _ o hk,hd⟩
  ·have z:∃o,s.heap.get? p=some o/\o.ExactDict:=by
    rcases hk with ⟨kvs,hk⟩ | ⟨kvs,hk⟩
    ·obtain⟨_,_,_,_,o,_,_,e,ex,_⟩:=I.hok p _ hk
     simp_all
    ·obtain⟨_,_,_,_,o,_,_,e,ex,_⟩:=I.hok p _ hk
     simp_all
   obtain⟨o,e,ex⟩:=z
   refine⟨⟨o,e,ex.1⟩,λa e2=>?_⟩
   cases e2
   exact⟨o,e,ex.2.1⟩
  ·obtain⟨o,_,_,_,e,ex,_⟩:=I.hok p _ hk
   refine⟨⟨o,e,ex.1⟩,λa e2=>?_⟩
   cases e2
   exact⟨o,e,ex.2.1⟩
 | _=>exact False.elim ty
def tBM(K:ε)(T:String)(r:V->List V->Hp->VK->Prop)(to:TE)(t:TA):TE:=λσ H Q=>to σ H λx H1=>tyV K T x H1/\t σ H1 λxs H2=>r x xs H2 Q
variable{o e:Expr}{es:List Expr}{to:TE}{t:TA}{name:Str}{apos cpos:Pos}{T id:String}{r:V->List V->Hp->VK->Prop}
theorem pe_bm(pa:PlainAttrs T)(slot:Slot T name id)(hty:typeOf (.builtin id)=pure (.type "method_descriptor"))(hm:MtR X id r)(ho:PE X o to)(ha:PA X (e::es) t)
  (hbase:attributeBase o name X.env (eval o X.env)=eval o X.env:=by rfl)
  (hfew:((backTo cpos (starEach (e::es) X.env)).all (λx=>!x.1)&&(backToKw cpos (keywordEach [] X.env)).all (λx=>x.1.isSome)
   && decide ((e::es).length+([]:List Keyword).length+(if ([]:List Keyword).isEmpty then 0 else 1)<30))=true:=by rfl)
  (hline:(apos.endLine==cpos.line)=true:=by rfl) (hs:starEach (e::es) X.env=(false,eval e X.env)::starEach es X.env:=by rfl) (hplain:(backTo cpos (starEach es X.env)).any (·.1)=false:=by rfl) :
  PE X (.Call (.Attribute o name apos) (e::es) [] cpos) (tBM X.K T r to t):=by
 intro pins s σ H Q I h
 refine wpAny_Call_method_late hbase hfew hline rfl (thn (ho pins s σ H _ I h) λv s1 ⟨x,H1,I1,r1,ty,q1⟩=>?_)
 obtain⟨h1,h2⟩:=tyV_is I1 r1 ty
 refine⟨T,id,pa,slot,hty,h1,h2,?_⟩
 have hA:=ha cpos pins s1 σ H1 _ I1 q1
 rw[hs] at hA ⊢
 refine Calls.callWith_builtin (by assumption) (Calls.evalArgs_plain ?_)
 exact thn hA λus s2 ⟨vs,H2,I2,r2,q2⟩=>hm pins s2 σ H2 x vs v us Q I2 r1 r2 q2
end
end L2
namespace L2
open PyProof.Rows
def MtM(X:Cx)(id:String)(r:V->List V->Hp->VK->Prop):Prop :=
 ∀(pins:List (Addr×Obj)) (s:Shared) (σ:St) (H:Hp) (x:V) (xs:List V) (v:Value) (us:List Value) (Q:VK),Inv X pins σ H s->bC x v->bx xs us->r x xs H Q ->
  wpAny (model X.prog X.w) X.A (call (.builtin id) (v::us)) (EP X pins σ Q) X.xe s
theorem bx.one:∀{x:V} {us:List Value},bx [x] us->∃u,us=[u]/\bC x u
 | _,_,.cons r .nil=>⟨_,rfl,r⟩
section
variable{X:Cx}{pins:List (Addr×Obj)}{σ:St}{H:Hp}{s:Shared}{l b:Addr}{xs ys zs:List V}
theorem Inv.lset{its its':List Value}{n:Nat}{f:Array Value->Array Value}{t':Nat}(I:Inv X pins σ H s)(hH:H l=some (.lst xs))
  (e:s.heap.get? l=some { cls:=.type "list",data:=.seq its.toArray n }) (hf:f its.toArray=its'.toArray) (hv:bx ys its') (hz:ys.length<=sizeLine) :
  Inv X pins σ (upd H l (.lst ys)) { s with heap:=s.heap.update l (Obj.mapSeq f),toks:=t' }:=by
 have q:=PySem.IsL.update e f
 rw[hf] at q
 refine I.write (by rw[hH];exact trivial) (.inl rfl) (λb' u hb hu=>(Heap.get?_update_other s.heap (Obj.mapSeq f) (Ne.symm hb)).trans hu) ⟨_,q⟩ ?_
 exact⟨hz,its',_,hv,q⟩
theorem Inv.lnew{its:List Value}{t':Nat}(I:Inv X pins σ H s)(hv:bx ys its)(hz:ys.length<=sizeLine) :
  Inv X pins σ (upd H s.heap.objs.size (.lst ys)) { s with heap:=s.heap.push { cls:=.type "list",data:=.seq its.toArray },toks:=t' } :=
 I.laid (λ_ _ q=>Heap.get?_push_of_some _ q) (ο _) ⟨hz,its,0,hv,Heap.get?_push_size _ rfl⟩
theorem Inv.fresh(I:Inv X pins σ H s):H s.heap.objs.size=none:=I.hok.fresh (ο _)
theorem Inv.lstM(I:Inv X pins σ H s)(hH:H l=some (.lst xs)):xs.length<=sizeLine/\∃(its:List Value) (n:Nat),bx xs its/\xs.length=its.length/\s.heap.get? l=some { cls:=.type "list",data:=.seq its.toArray n }:=by
 obtain⟨z,its,n,r,e⟩:=I.hok l _ hH
 exact⟨z,its,n,r,r.length,e⟩
end
section
variable{X:Cx}
def Bi:V->List V->Hp->VK->Prop:=λx vs H Q=>∃l xs y,x=.ref l/\vs=[y]/\H l=some (.lst xs)/\xs.length<sizeLine/\Q .non (upd H l (.lst (xs++[y])))
theorem pE:MtM X "list.append" Bi:=by
 intro pins s σ H x vs v us Q I rx rv h
 obtain⟨l,xs,y,rfl,rfl,hH,hz,q⟩:=h
 cases rx
 obtain⟨u,rfl,ru⟩:=rv.one
 obtain⟨z,its,n,r,hl,e⟩:=I.lstM hH
 refine call_meets F.slot_list_append ⟨_,e,rfl⟩ F.entry_list_append (F.args_list_append_2 _ _) (PySem.list_append l its.toArray n u (by simp_all)) ⟨e,?_⟩
 refine⟨.non,_,I.lset hH e (by simp) (r.append (.cons ru .nil)) ?_,rfl,q⟩
 grind
end
section
variable{prog:Program}{w:World}{A:Around}{E:Value->Shared->Prop}{s:Shared}
end
section
variable{X:Cx}
end
end L2
namespace Att
open PySem.W PySem.Calls PyProof.Rows
theorem lZ{P:Params}{h:Heap}:∀(ns:List Int) (vs:List Value),WellAll P h vs (ns.map WData.int)->IntsAre vs ns:=by
 intro ns
 induction ns with
 | nil =>
  intro vs w
  cases w
  exact .nil
 | cons n ns ih =>
  intro vs w
  cases w with
  | cons a b =>
   cases a
   exact .cons _ _ (ih _ b)
theorem w6{l:OpenLaw}{n:Nat}(hn:l.most=some n){P:Params}{h:Heap}{args:List WData}{vals:List Value}
  (hpre:l.row.toRowW.claim.pre args=true) (hwl:WellAll P h vals args) :
  ∃a vs ns,vals=[Value.ref a]/\args=[WData.list (ns.map WData.int)]/\h.get? a=some { cls:=.type "list",data:=.seq vs.toArray }/\IntsAre vs ns/\ns.length<=n:=by
 have hsh:= (pre_splitW hpre).1
 have hc:l.pre.holds [] { args:=args }=true:=(pre_splitW hpre).2
 obtain⟨d,r,rfl,h1,h2⟩:=hasAllW_cons hsh
 obtain rfl:=hasAllW_nil h2
 obtain⟨xs,rfl,h3⟩:=hasW_list h1
 obtain⟨ns,rfl⟩:=items_int h3
 have hlen:ns.length<=n:=by
  have h4:(WTm.not (.lt (.lit (.int (n:Int))) (.len (.arg 0)))).holds [] { args:=[.list (ns.map .int)] }=true:=by
   have h4:=(holds_andW hc).1
   simp_all
  have h5:=condW_of h4 (w_not (w_lt w_lit (w_len_list (w_arg rfl))))
  simp_all
 cases hwl with
 | cons w1 w2 =>
  cases w2
  cases w1 with
  | list ho hall=>exact⟨_,_,ns,rfl,rfl,ho,lZ ns _ hall,hlen⟩
theorem xh(l:OpenLaw)(args:List WData):l.row.toRowW.claim.post args (.bool true) args=true :=
 postW_of (r:=l.row.toRowW) (X:=(true==true))
  (show WShape.has [] (.bool true) .bool=true by first | rfl | decide | simp [WShape.has,WShape.arms,WShape.armsAll])
  (show(WTm.eq .res (.lit (.bool true))).value [] { args:=args,res:=some (.bool true),after:=args }=some (.bool (true==true)) from w_eq_bool (w_res rfl) w_lit) rfl
theorem tG{l:OpenLaw}{n:Nat}{q:Program}{loose:List Str}{XP:(Str->Option Value)->Heap->Prop}{YP:World->Heap->Prop}{d:DefRec}
  (hn:l.most=some n) (hdf:d.params.defaults=[])
  (call:∀(w:World) (s₀ s₁:Shared) (mg mb:Str->Option Value) (fa:Addr) (o:Obj) (pm cd doc:Value) (a:Addr) (vs:List Value) (ns:List Int),
   Ground q loose [] XP w s₀ mg mb s₁.heap->YP w s₁.heap ->
   s₁.heap.get? fa=some o->o.data=.func (docDef d.name d.params d.body d.scope pm cd doc)->s₁.heap.CodeRec cd d.name->mg d.name=some (.ref fa) ->
   s₁.heap.get? a=some { cls:=.type "list",data:=.seq vs.toArray }->IntsAre vs ns->ns.length<=n->s₁.gens=#[] ->
   codeAny (model l.prog w) callerA (.call (.ref fa) ⟨[.ref a],[]⟩) (λr s'=>r=.ok (.ret (.bool true))/\OldK s₁.heap s'.heap/\s'.os=s₁.os/\AllBare s'.gens) s₁) :
  WalkO q loose XP YP l.row.toRowW d [] (λf vs=>PySem.call f vs):=by
 intro w s₀ s₁ mg mb G Y fa o pm cd doc dV kV ho hd hcd hD hmg hg args vals as hpre hlay hrd hwl hlo
 obtain rfl:dV=.none:=Dflts.none hD hdf
 obtain rfl:kV=.none:=Dflts.noKw hD
 obtain⟨a,vs,ns,rfl,rfl,hobj,hints,hlen⟩:=w6 hn hpre hwl
 refine enter_call (codeAny_mono (call w s₀ s₁ mg mb fa o pm cd doc a vs ns G Y ho (fd_plain hd) hcd hmg hobj hints hlen hg) λr s' hq=>?_)
 obtain⟨rfl,h2,h3,h4⟩:=hq
 exact⟨.inl ⟨.bool true,.bool true,[],rfl,λ_=>rfl,.bool true,xh l _,λ_=>⟨List.Pairwise.nil,λ_ hm=>(nomatch hm)⟩⟩,h2,h3,h4⟩
section
variable{prog:Program}{w:World}{A:Around}{E:Value->Shared->Prop}{s:Shared}{K:Frag}
theorem pQ{x C:Addr}{ox:Obj}{es:List DictEntry}{n:Nat}{name:Str}{expr:Bool}{v:Value}{Q:Value->Shared->Prop}
  (X:K.In s.heap) (I:PySem.W.InstAt s.heap x ox C (some (dictOf es n))) (hg:plainGet K C name=true) (hh:hasDictIn K C=true) (ha:findIn K (.ref C) name=some none)
  (hl:getL name es=some (some v)) (hv:handedIn v=true) (h:Q v { s with toks:=s.toks+1 }):wpAny (model prog w) A (getAttr (.ref x) name expr) Q E s :=
 get_value X I (plainGet_of hg).1 (findObj_own hh ha rfl hl) hv h
noncomputable def qK(h:Heap):Heap:={ h with objs:=#[] }
theorem nj(h:Heap)(b:Addr):(qK h).get? b=none:=by
 rfl
noncomputable def qN(h:Heap)(L d:Addr):List (Addr×Obj):=(List.range h.objs.size).filterMap λa=>if a=L\/a=d then none else (h.get? a).map λo=>(a,o)
theorem jL{h:Heap}{L d a:Addr}{o:Obj}:(a,o)∈qN h L d↔a≠L/\a≠d/\h.get? a=some o:=by
 unfold qN
 rw[List.mem_filterMap]
 constructor
 ·rintro⟨b,_,e⟩
  split at e
  ·cases e
  ·rename_i hb
   obtain⟨o',ho,e'⟩:=Option.map_eq_some_iff.mp e
   simp_all
 ·rintro⟨n1,n2,ho⟩
  refine⟨a,List.mem_range.mpr (Heap.lt_size ho),?_⟩
  simp_all
theorem sF{h:Heap}{L d:Addr}{od:Obj}(hne:d≠L)(ho:h.get? d=some od):News (qK h) L h ([]++(d,od)::qN h L d):=by
 rintro⟨a,o⟩ hp
 rcases Δ.mp hp with e | hp
 ·cases e
  exact⟨ho,hne,nj _ _⟩
 ·obtain⟨n1,n2,e⟩:=jL.mp hp
  exact⟨e,n1,nj _ _⟩
theorem fr_all{h:Heap}{L:Addr}{m:Str->Option Value}(n:h.Ns L m):Fr (qK h) L h m :=
 ⟨n,λb o e=>(by cases e),W4 _⟩
theorem pk{x C dx L:Addr}{ox:Obj}{m:Str->Option Value}{es es':List DictEntry}{n n':Nat}{name:Str}{v:Value}{Q:Unit->Shared->Prop}
  (X:K.In s.heap) (I:PySem.W.InstAt s.heap x ox C (some (dictOf es n))) (hd:ox.dict=some dx) (hL:s.heap.Ns L m) (hne:dx≠L)
  (hs:findIn K (.ref C) "__setattr__" = some (some (.builtin "object.__setattr__"))) (hp:plainOver K C=true) (ht:takerIn K C name=some none) (hh:hasDictIn K C=true) (hl:(getL name es).isSome=true)
  (e:(putL name (Z3 w.params name) (.str name (s.toks+1)) v es,putN name es n)=(es',n')) (hz:es'.length<=1000)
  (h:∀h':Heap,h'.Ns L m->h'.get? dx=some (dictOf es' n')->(∀b o,b≠dx->b≠L->s.heap.get? b=some o->h'.get? b=some o)->Q () { s with heap:=h',toks:=s.toks+2 }) :
  wpAny (model prog w) A (setAttr (.ref x) name v) Q E s:=by
 obtain⟨e1,e2⟩:=Prod.mk.inj e
 have hdx:s.heap.get? dx=some (dictOf es n):=by
  have:=I.dict
  simp_all
 refine set_plain X I hs (osa_dict (s:={ s with toks:=s.toks+1 }) (h₀:=qK s.heap) (L:=L) (m:=m) (od:=dictOf es n) (od':=dictOf es' n') (es:=es') (n:=n') (pre:=[]) (post:=qN s.heap L dx)
  (fr_all hL) (sF hne hdx) X I hd hp ht hh hl (λ_ q=>nomatch q) (λ⟨_,_⟩ q=>(jL.mp q).2.1) (by rw[putName_dict,e1,e2]) rfl hz λh' F' N'=>?_)
 exact h h' F'.ns (N'.get (List.Mem.head _)) λb o n1 n2 ho=>N'.get (List.Mem.tail _ (jL.mpr ⟨n2,n1,ho⟩))
end
end Att
namespace L2
open PyProof.Rows
theorem o7:∀{vs:List Value} {ns:List Int},IntsAre vs ns->bx (ns.map V.int) vs
 | _,_,.nil=>.nil
 | _,_,.cons n t h=>.cons ⟨t,rfl⟩ (o7 h)
def Only(H:Hp):Prop:=∀b,H b=none\/∃o xs,H b=some (.frz o (.lst xs))
theorem zJ{P:Program}{w:World}{K:ε}{mg mb:Str->Option Value}{CX:CXT}{k:Nat}{fa a:Addr}{fd:FuncData}{x:Str}{sp:Sp}{s₁:Shared}{vs:List Value}{ns:List Int}
  (KX:K.In s₁.heap) (hns:s₁.heap.Ns mainGlobals mg) (hb:s₁.heap.Ns builtinsNs mb) (hbb:∀x:Str,x ≠ "__name__" -> mb x=bootBuiltins x) (hlim:s₁.heap.NoLimit) (hg:s₁.gens=#[])
  (ha:s₁.heap.get? a=some { cls:=.type "list",data:=.seq vs.toArray }) (hi:IntsAre vs ns) (hl:ns.length<=sizeLine) (hr:Room k callerA)
  (F:∀base:Heap,K.In base->base.Ns mainGlobals mg->FnOk P w K mg base CX k fa fd [x] sp) (hbind:∀(s:Shared) (u:Value),BindsTo s fd ⟨[u],[]⟩ [(x,u)])
  (hsp:∀H:Hp,Only H->SqL K H a (ns.map V.int)->sp [.ref a] H (λv _=>v=.bl true) λ_ _ _=>False)
  (hCX:∀H e s',CX [] H s₁ (λ_ _ _=>False) e s'->False) :
  codeAny (model P w) callerA (.call (.ref fa) ⟨[.ref a],[]⟩) (λr s'=>r=.ok (.ret (.bool true))/\OldK s₁.heap s'.heap/\s'.os=s₁.os/\AllBare s'.gens) s₁:=by
 have rv:=o7 hi
 have lenV:=hi.length
 have core:∀H:Hp,Only H->SqL K H a (ns.map V.int)->HOk P w H s₁.heap->(∀b,H b≠none->b=a)->(H a≠none->K.lookup a=none) ->
   codeAny (model P w) callerA (.call (.ref fa) ⟨[.ref a],[]⟩) (λr s'=>r=.ok (.ret (.bool true))/\OldK s₁.heap s'.heap/\s'.os=s₁.os/\AllBare s'.gens) s₁:=by
  intro H hO hS hok hA hK
  have base_of:∀{b:Addr} {o:Obj},s₁.heap.get? b=some o->H b=none->(qQ s₁.heap H).get? b=some o:=λe n=>z9 e n
  have noA:∀{b:Addr} {o:Obj} {es:Array DictEntry} {ep:Nat},s₁.heap.get? b=some o->o.data=.dict es ep->H b=none:=λ{b o es ep} e d=>by
   cases q:H b with
   | none=>rfl
   | some u =>
    have e':b=a:=hA b (by rw[q];simp)
    subst e'
    rw[ha] at e;cases e
    have d':Data.seq vs.toArray _=Data.dict es ep:=d
    cases d'
  have nsK:∀{b:Addr} {m:Str->Option Value},s₁.heap.Ns b m->(qQ s₁.heap H).Ns b m:=λ{b m} ⟨o,es,ep,e,d,r⟩=>⟨o,es,ep,base_of e (noA e d),d,r⟩
  have hKb:K.In (qQ s₁.heap H):=λb o e=>base_of (KX b o e) (by
   cases q:H b with
   | none=>rfl
   | some u =>
    have e':b=a:=hA b (by rw[q];simp)
    subst e'
    rw[hK (by rw[q];simp)] at e;cases e)
  have hM:Mod K mg (qQ s₁.heap H):=⟨hKb,nsK hns,⟨mb,nsK hb,hbb⟩,let ⟨mc,h1,h2⟩:=hlim;⟨mc,nsK h1,h2⟩⟩
  have e0:Env0 P w K mg (qQ s₁.heap H) callerA [] s₁ H:=⟨rfl,hM,λb o e=>BM e,Nat.le_of_eq (xH _ _),trivial,λb hb=>absurd (show b∈([]:List Addr) from hb) (by simp),hok,.of_eq hg⟩
  refine codeAny_mono ((F _ hKb (nsK hns)).run callerA [] s₁ H ⟨[.ref a],[]⟩ [.ref a] [.ref a] _ _ hr e0 (hbind s₁ (.ref a)) (.cons rfl .nil) (hsp H hO hS)) λr s' h=>?_
  cases r with
  | error e=>exact(hCX H e s' h).elim
  | ok fl =>
   cases fl with
   | next=>exact False.elim h
   | brk=>exact False.elim h
   | cont=>exact False.elim h
   | ret u =>
    obtain⟨v,H',os,bare,un,hok',r',q⟩:=h
    have q':v=.bl true:=q
    subst q'
    obtain rfl:u=Value.bool true:=r'
    refine⟨rfl,OldK.of_keep λb o e=>?_,os,bare⟩
    cases q:H b with
    | none=>exact un.keep b o e q (by intro z;exact absurd (show b∈([]:List Addr) from z) (by simp)) (by simp)
    | some u =>
     rcases hO b with z | ⟨ob,xs,z⟩
     ·rw[q] at z;cases z
     ·have z2:=un.frzs b ob _ z
      obtain⟨e1,_⟩:=hok b _ z
      obtain⟨e2,_⟩:=hok' b _ z2
      rw[e] at e1;cases e1
      exact e2
 cases hk:K.lookup a with
 | some o =>
  have e:=KX a o hk
  rw[ha] at e
  cases e
  refine core (λ_=>none) (λ_=>.inl rfl) (.inr ⟨_,vs.toArray,_,hk,rfl,rfl,rfl,by rw[List.size_toArray,lenV];exact hl,by simpa using rv⟩) (λb u z=>by have z':(none:Option HO)=some u:=z;cases z') (λb z=>absurd rfl z) λz=>absurd rfl z
 | none =>
  refine core (λb=>if b=a then some (.frz { cls:=.type "list",data:=.seq vs.toArray } (.lst (ns.map V.int))) else none) (λb=>?_) (.inl (.inr ⟨{ cls:=.type "list",data:=.seq vs.toArray },if_pos rfl⟩)) (λb u z=>?_) (λb z=>?_) λ_=>hk
  ·by_cases hb:b=a
   ·exact .inr ⟨_,_,if_pos hb⟩
   ·exact .inl (if_neg hb)
  ·by_cases hb:b=a
   ·have z':=(if_pos hb).symm.trans z
    cases z'
    subst hb
    exact⟨ha,by rw[ι];exact hl,vs,_,rv,ha⟩
   ·have z':=(if_neg hb).symm.trans z
    cases z'
  ·by_cases hb:b=a
   ·exact hb
   ·exact absurd (if_neg hb) z
end L2
namespace L2
open PyProof.Rows
abbrev KOf{K:ε}{h:Heap}(_:K.In h):ε:=K
theorem A1{l:PySem.W.OpenLaw}{n k:Nat}{q:Program}{loose:List Str}{XP:(Str->Option Value)->Heap->Prop}{YP:World->Heap->Prop}{d:DefRec}{K:Params->ε}{CX:World->CXT}{sp:World->Sp}{x:Str}
  (hn:l.most=some n) (hn2:n<=sizeLine) (hdf:d.params.defaults=[]) (hr:Room k callerA)
  (hY:∀(w:World) (h:Heap),YP w h->(K w.params).In h)
  (F:∀(w:World) (mg:Str->Option Value) (fa:Addr) (h:Heap),(K w.params).In h->h.Ns mainGlobals mg->mg d.name=some (.ref fa) ->
   ∃fd:FuncData,(∀(s:Shared) (u:Value),BindsTo s fd ⟨[u],[]⟩ [(x,u)]) /\
    ∀base:Heap,(K w.params).In base->base.Ns mainGlobals mg->FnOk l.prog w (K w.params) mg base (CX w) k fa fd [x] (sp w))
  (hsp:∀(w:World) (H:Hp) (a:Addr) (ns:List Int),ns.length<=n->Only H->SqL (K w.params) H a (ns.map V.int)->sp w [.ref a] H (λv _=>v=.bl true) λ_ _ _=>False)
  (hCX:∀(w:World) (H:Hp) (s:Shared) (e:Value) (s':Shared),CX w [] H s (λ_ _ _=>False) e s'->False) :
  PySem.W.WalkO q loose XP YP l.row.toRowW d [] (λf vs=>PySem.call f vs):=by
 refine Att.tG hn hdf λw s₀ s₁ mg mb fa o pm cd doc a vs ns G Y ho hd hcd hmg hobj hints hlen hg=>?_
 have KX:=hY w _ Y
 obtain⟨fd,hb,hF⟩:=F w mg fa _ KX G.T.g hmg
 exact zJ KX G.T.g G.T.b G.T.builtins G.T.nolimit hg hobj hints (Y9 hlen hn2) hr hF hb (λH hO hS=>hsp w H a ns hlen hO hS) λH e s'=>hCX w H s₁ e s'
end L2
namespace L2
open PyProof.Rows
noncomputable def aM(s:Stmt):Arguments:=match s with
 | .FunctionDef _ a _ _ _ _ _ _ _ _=>a
 | _=>{ posonlyargs:=[],args:=[],vararg:=none,kwonlyargs:=[],kw_defaults:=[],kwarg:=none,defaults:=[] }
noncomputable def aB(s:Stmt):List Stmt:=match s with
 | .FunctionDef _ _ b _ _ _ _ _ _ _=>b
 | _=>[]
noncomputable def af(s:Stmt):Scope:=match s with
 | .FunctionDef _ _ _ _ _ _ sc _ _ _=>sc
 | _=>{ kind:=.function,names:=[],isGenerator:=false,isCoroutine:=false }
abbrev CX0:CXT:=λ_ _ _ _ _ _=>False
abbrev E0:XK:=λ_ _ _=>False
theorem vN{X:Cx}:du CX0 X E0:=λ_ _ _ _ _ _ _ h=>h.elim
structure Fun(K:ε)(x qual:Str)(st:Stmt)(f:Addr)(fd:FuncData):Prop where
 ex:∃(oc:Value) (od:Option Addr) (kV doc pm:Value) (an:Option Addr) (cdv ct:Value) (osl:Array (Option Value)),
  fd=ψ x qual (aM st) (aB st) (af st) .none kV doc pm an cdv ct/\K.lookup f=some ⟨oc,od,.func fd,osl⟩/\ς K cdv qual=true
 kp:ξ K (.ref f)=true
section
variable{P:Program}{w:World}{K:ε}{mg:Str->Option Value}{base:Heap}
theorem Fun.ok{x qual:Str}{st:Stmt}{f:Addr}{fd:FuncData}{N ps:List Str}{k:Nat}{sp:Sp}(F:Fun K x qual st f fd)(S:FnScope N ps (af st))(len:∀vs H Q E,sp vs H Q E->vs.length=ps.length)
  (hbody:∀(cdv:Value) (A:Around) (outer:List Env) (s:Shared) (H:Hp) (vs:List V) (Q:VK) (E:XK),Room k (A.deeper (envOfC qual (af st) s.heap.objs.size f cdv))->sp vs H Q E ->
   ∃t,PSs (et CX0 P w K mg base N qual (af st) f cdv A outer s H E).nox (aB st) t/\t { nx:=λ_ H'=>Q .non H',rt:=Q } (start N vs) H):FnOk P w K mg base CX0 (k+1) f fd ps sp:=by
 obtain⟨oc,od,kV,doc,pm,an,cdv,ct,osl,rfl,lk,hcd⟩:=F.ex
 refine wc lk hcd S len λA outer s H vs Q E hr hsp=>?_
 obtain⟨t,h,q⟩:=hbody cdv A outer s H vs Q E hr hsp
 exact⟨t,h.nox,q⟩
theorem Fun.binds{x qual:Str}{st:Stmt}{f:Addr}{fd:FuncData}{ps:List Str}(F:Fun K x qual st f fd)
  (h:∀(kV doc pm:Value) (an:Option Addr) (cdv ct:Value) (us:List Value),us.length=ps.length->bindArgs (ψ x qual (aM st) (aB st) (af st) .none kV doc pm an cdv ct) ⟨us,[]⟩=pure (ps.zip us)):cY K fd ps []:=by
 obtain⟨oc,od,kV,doc,pm,an,cdv,ct,osl,rfl,lk,hcd⟩:=F.ex
 exact .all (h kV doc pm an cdv ct)
theorem bg{x qual:Str}{st:Stmt}{f:Addr}{oc:Value}{od an:Option Addr}{osl:Array (Option Value)}{kV doc pm cdv ct:Value}(l:K.lookup f=some ⟨oc,od,.func (ψ x qual (aM st) (aB st) (af st) .none kV doc pm an cdv ct),osl⟩)
  (c:ς K cdv qual=true) (k:ξ K (.ref f)=true):Fun K x qual st f (ψ x qual (aM st) (aB st) (af st) .none kV doc pm an cdv ct):=⟨⟨oc,od,kV,doc,pm,an,cdv,ct,osl,rfl,l,c⟩,k⟩
end
theorem nK{A:Around}{k:Nat}(hr:Room k A):A.units+1<cLine:=Nat.lt_of_le_of_lt (Nat.add_le_add_left (by decide:1<=64) _) hr.units
section
variable{X:Cx}
theorem pv(i:Nat){x:Str}{pos:Pos}(hN:X.N[i]?=some x:=by rfl)(hv:Vis X.env.scope x:=by first | exact Or.inl rfl | exact Or.inr (Or.inl rfl) | exact Or.inr (Or.inr rfl))(hd:(x==("__debug__" : Str))=false:=by decide)
  (hcd:(x==("__classdict__" : Str))=false:=by decide):PE X (.Name x pos) (jG i):=uk hN hv hd hcd
end
def aJ(H H':Hp):Prop:=∀b o,H b=some o->H' b=some o
theorem aJ.refl(H:Hp):aJ H H:=λ_ _ h=>h
theorem aJ.trans{H H1 H2:Hp}(a:aJ H H1)(b:aJ H1 H2):aJ H H2:=λc o h=>b c o (a c o h)
end L2
namespace DL
open PyProof.Rows L2
abbrev D:=PyData
abbrev St:=L2.St
structure XD where
 cls:Str
 flds:List (Str×D)
abbrev M(α:Type):=Option (Except XD α)
noncomputable def M.ret{α:Type}(a:α):M α:=some (.ok a)
noncomputable def M.thn{α β:Type}(r:M α)(f:α->M β):M β:=match r with
 | none=>none
 | some (.ok a)=>f a
 | some (.error x)=>some (.error x)
noncomputable def M.lift{α:Type}(r:Option α):M α:=match r with
 | none=>none
 | some a=>some (.ok a)
def ok{α:Type}(G:XD->Prop)(r:M α)(k:α->Prop):Prop:=match r with
 | none=>False
 | some (.ok a)=>k a
 | some (.error x)=>G x
def GS(G:XD->Hp->Prop)(Hr:Hp)(x:XD):Prop:=∀H',aJ Hr H'->G x H'
theorem aq{α:Type}{G:XD->Prop}{r:M α}{k k':α->Prop}(h:ok G r k)(f:∀a,k a->k' a):ok G r k':=by
 match r,h with
 | some (.ok a),h=>exact f a h
 | some (.error x),h=>exact h
theorem ay{α β:Type}{G:XD->Prop}{r:M α}{f:α->M β}{k:β->Prop}(h:ok G (r.thn f) k):ok G r (λa=>ok G (f a) k):=by
 match r,h with
 | some (.ok a),h=>exact h
 | some (.error x),h=>exact h
theorem ok_ret{α:Type}{G:XD->Prop}{a:α}{k:α->Prop}(h:ok G (M.ret a) k):k a:=h
theorem cN{α:Type}{G:XD->Prop}{r:Option α}{k:α->Prop}(h:ok G (M.lift r) k):∃a,r=some a/\k a:=by
 match r,h with
 | some a,h=>exact⟨a,rfl,h⟩
theorem aR{α β:Type}(a:α)(f:α->M β):(M.ret a).thn f=f a:=rfl
theorem jW{α β:Type}(a:α)(f:α->M β):M.thn (some (.ok a)) f=f a:=rfl
theorem pG{α:Type}(a:α):M.lift (some a)=M.ret a:=rfl
def KL(K:ε)(a:Addr)(xs:List V):Prop :=
 ∃(o:Obj) (its:Array Value) (n:Nat),K.lookup a=some o/\o.cls=.type "list" /\ o.dict=none/\o.data=.seq its n/\its.size<=sizeLine/\bx xs its.toList
noncomputable def zQ:Key->D
 | .inl i=>.int i
 | .inr x=>.str x
abbrev nI(nm:Str)(es:List (Str×D)):D:=.dict [(.none,.tuple (.str nm::es.map λe=>.tuple [.str e.1,e.2]))]
def Mu(H:Hp)(l:Addr):Prop:=(∃xs,H l=some (.lst xs))\/(∃kvs,H l=some (.dK kvs))\/∃C dx fs,H l=some (.ins C dx fs)
mutual
inductive Rep(K:ε)(O:List Addr)(H:Hp):V->D->Prop
 | non:Rep K O H .non .none
 | bl (b:Bool):Rep K O H (.bl b) (.bool b)
 | int (i:Int):Rep K O H (.int i) (.int i)
 | str (x:Str):Rep K O H (.str x) (.str x)
 | tup {a:Addr} {xs:List V} {ds:List D} (h:SqT K H a xs) (r:Reps K O H xs ds):Rep K O H (.ref a) (.tuple ds)
 | lst {a:Addr} {xs:List V} {ds:List D} (h:Rd H a (.lst xs)) (n:a∉O) (r:Reps K O H xs ds):Rep K O H (.ref a) (.list ds)
 | lstK {a:Addr} {xs:List V} {ds:List D} (h:KL K a xs) (r:Reps K O H xs ds):Rep K O H (.ref a) (.list ds)
 | dct {a:Addr} {kvs:List (Key×V)} {es:List (Key×D)} (h:Rd H a (.dK kvs)) (n:a∉O) (hk:kvs.map (·.1)=es.map (·.1)) (r:Reps K O H (kvs.map (·.2)) (es.map (·.2))):Rep K O H (.ref a) (.dict (es.map λe=>(zQ e.1,e.2)))
 | ins {a C dx:Addr} {nm:Str} {fs:List (Str×V)} {es:List (Str×D)} (hN:η K mainGlobals nm=some (some (.ref C))) (h:H a=some (.ins C dx fs)) (n:a∉O) (hk:fs.map (·.1)=es.map (·.1)) (r:Reps K O H (fs.map (·.2)) (es.map (·.2))):Rep K O H (.ref a) (nI nm es)
inductive Reps(K:ε)(O:List Addr)(H:Hp):List V->List D->Prop
 | nil:Reps K O H [] []
 | cons {v:V} {d:D} {vs:List V} {ds:List D} (r:Rep K O H v d) (rs:Reps K O H vs ds):Reps K O H (v::vs) (d::ds)
end
structure To(O O':List Addr)(H H':Hp):Prop where
 t:∀b xs,Rd H b (.tup xs)->Rd H' b (.tup xs)
 l:∀b xs,b∉O->Rd H b (.lst xs)->b∉O'/\Rd H' b (.lst xs)
 d:∀b xs,b∉O->Rd H b (.dK xs)->b∉O'/\Rd H' b (.dK xs)
 i:∀b C dx fs,b∉O->H b=some (.ins C dx fs)->b∉O'/\H' b=some (.ins C dx fs)
section
variable{K:ε}{O O':List Addr}{H H':Hp}
theorem To.sqT(k:To O O' H H'){a:Addr}{xs:List V}(h:SqT K H a xs):SqT K H' a xs:=by
 rcases h with h | h
 ·exact .inl (k.t a xs h)
 ·exact .inr h
mutual
theorem Rep.to(k:To O O' H H'):∀{v:V} {d:D},Rep K O H v d->Rep K O' H' v d
 | _,_,.non=>.non
 | _,_,.bl b=>.bl b
 | _,_,.int i=>.int i
 | _,_,.str x=>.str x
 | _,_,.tup h r=>.tup (k.sqT h) (Reps.to k r)
 | _,_,.lst h n r=>.lst (k.l _ _ n h).2 (k.l _ _ n h).1 (Reps.to k r)
 | _,_,.lstK h r=>.lstK h (Reps.to k r)
 | _,_,.dct h n hk r=>.dct (k.d _ _ n h).2 (k.d _ _ n h).1 hk (Reps.to k r)
 | _,_,.ins hN h n hk r=>.ins hN (k.i _ _ _ _ n h).2 (k.i _ _ _ _ n h).1 hk (Reps.to k r)
theorem Reps.to(k:To O O' H H'):∀{vs:List V} {ds:List D},Reps K O H vs ds->Reps K O' H' vs ds
 | _,_,.nil=>.nil
 | _,_,.cons r rs=>.cons (Rep.to k r) (Reps.to k rs)
end
theorem aJ.rd(s:aJ H H'){b:Addr}{o:HO}(h:Rd H b o):Rd H' b o:=by
 rcases h with h | ⟨u,h⟩
 ·exact .inl (s _ _ h)
 ·exact .inr ⟨u,s _ _ h⟩
theorem To.same(s:aJ H H'):To O O H H':=⟨λb xs h=>aJ.rd s h,λb xs n h=>⟨n,aJ.rd s h⟩,λb xs n h=>⟨n,aJ.rd s h⟩,λb C dx fs n h=>⟨n,s _ _ h⟩⟩
theorem To.less(s:∀b,b∈O'->b∈O):To O O' H H:=⟨λb xs h=>h,λb xs n h=>⟨λz=>n (s b z),h⟩,λb xs n h=>⟨λz=>n (s b z),h⟩,λb C dx fs n h=>⟨λz=>n (s b z),h⟩⟩
theorem Rep.same(s:aJ H H'){v:V}{d:D}(r:Rep K O H v d):Rep K O H' v d:=r.to (.same s)
theorem Reps.same(s:aJ H H'){v:List V}{d:List D}(r:Reps K O H v d):Reps K O H' v d:=r.to (.same s)
theorem Rd.ne_new{b l:Addr}{o:HO}(h:Rd H b o)(hl:H l=none):b≠l:=by
 rcases h with h | ⟨u,h⟩
 all_goals grind
theorem bn{l:Addr}{o:HO}(hl:H l=none):aJ H (upd H l o):=λb u e=>by
 rw[upd_ne (aU e hl)]
 exact e
theorem To.own{l:Addr}{o:HO}(hl:H l=none):To O (l::O) H (upd H l o) :=
 ⟨λb xs h=>aJ.rd (bn hl) h,λb xs n h=>⟨λz=>by
  rcases Δ.mp z with z | z
  ·exact Rd.ne_new h hl z
  simp_all,aJ.rd (bn hl) h⟩,λb xs n h=>⟨λz=>by
  rcases Δ.mp z with z | z
  ·exact Rd.ne_new h hl z
  simp_all,aJ.rd (bn hl) h⟩,λb C dx fs n h=>⟨λz=>by
  simp_all,bn hl _ _ h⟩⟩
theorem To.set{l:Addr}{xs ys:List V}(hl:H l=some (.lst xs))(ho:l∈O):To O O H (upd H l (.lst ys)):=by
 have keep:∀{b:Addr} {o:HO},b≠l->Rd H b o->Rd (upd H l (.lst ys)) b o:=λ{b o} hb h=>by
  rcases h with h | ⟨u,h⟩
  ·exact .inl (by rw[upd_ne hb];exact h)
  ·exact .inr ⟨u,by rw[upd_ne hb];exact h⟩
 refine⟨λb zs h=>keep ?_ h,λb zs n h=>⟨n,keep (λz=>n (z▸ho)) h⟩,λb zs n h=>⟨n,keep (λz=>n (z▸ho)) h⟩,λb C dx fs n h=>⟨n,by rw[upd_ne (show b≠l from λz=>n (z▸ho))];exact h⟩⟩
 rintro rfl
 rcases h with h | ⟨u,h⟩
 all_goals simp_all
theorem To.setD{l:Addr}{xs:List (Key×V)}{o:HO}(hl:H l=some (.dK xs))(ho:l∈O):To O O H (upd H l o):=by
 have keep:∀{b:Addr} {u:HO},b≠l->Rd H b u->Rd (upd H l o) b u:=λ{b u} hb h=>by
  rcases h with h | ⟨u,h⟩
  ·exact .inl (by rw[upd_ne hb];exact h)
  ·exact .inr ⟨u,by rw[upd_ne hb];exact h⟩
 refine⟨λb zs h=>keep ?_ h,λb zs n h=>⟨n,keep (λz=>n (z▸ho)) h⟩,λb zs n h=>⟨n,keep (λz=>n (z▸ho)) h⟩,λb C dx fs n h=>⟨n,by rw[upd_ne (show b≠l from λz=>n (z▸ho))];exact h⟩⟩
 rintro rfl
 rcases h with h | ⟨u,h⟩
 all_goals simp_all
theorem Rep.int_inv{v:V}{i:Int}(r:Rep K O H v (.int i)):v=.int i:=by cases r;rfl
theorem Rep.bool_inv{v:V}{i:Bool}(r:Rep K O H v (.bool i)):v=.bl i:=by cases r;rfl
theorem Rep.str_inv{v:V}{i:Str}(r:Rep K O H v (.str i)):v=.str i:=by cases r;rfl
theorem Rep.tup_inv{v:V}{ds:List D}(r:Rep K O H v (.tuple ds)):∃a xs,v=.ref a/\SqT K H a xs/\Reps K O H xs ds:=by
 cases r with
 | tup h r=>grind
theorem Rep.lst_inv{v:V}{ds:List D}(r:Rep K O H v (.list ds)):∃a xs,v=.ref a/\SqL K H a xs/\Reps K O H xs ds:=by
 cases r with
 | lst h n r=>exact⟨_,_,rfl,.inl h,r⟩
 | lstK h r=>exact⟨_,_,rfl,.inr h,r⟩
noncomputable def sE:D->Bool
 | .dict [(.none,_)]=>false
 | _=>true
theorem Reps.length:∀{vs:List V} {ds:List D},Reps K O H vs ds->vs.length=ds.length
 | _,_,.nil=>rfl
 | _,_,.cons _ rs=>congrArg (· + 1) (Reps.length rs)
theorem Reps.get:∀{vs:List V} {ds:List D} {i:Nat} {d:D},Reps K O H vs ds->ds[i]?=some d->∃v,vs[i]?=some v/\Rep K O H v d
 | _,_,_,_,.nil,e=>by simp at e
 | _,_,0,_,.cons r _,e=>by simp_all
 | _,_,i+1,d,.cons _ rs,e=>by
  obtain⟨u,h1,h2⟩:=Reps.get rs (by assumption)
  simp_all
theorem Reps.append:∀{xs ys:List V} {ds es:List D},Reps K O H xs ds->Reps K O H ys es->Reps K O H (xs++ys) (ds++es)
 | _,_,_,_,.nil,s=>s
 | _,_,_,_,.cons r t,s=>.cons r (Reps.append t s)
theorem Reps.take:∀{xs:List V} {ds:List D} (n:Nat),Reps K O H xs ds->Reps K O H (xs.take n) (ds.take n)
 | _,_,0,_=>.nil
 | _,_,_+1,.nil=>.nil
 | _,_,n+1,.cons r t=>.cons r (Reps.take n t)
theorem Reps.drop:∀{xs:List V} {ds:List D} (n:Nat),Reps K O H xs ds->Reps K O H (xs.drop n) (ds.drop n)
 | _,_,0,r=>r
 | _,_,_+1,.nil=>.nil
 | _,_,n+1,.cons _ t=>Reps.drop n t
theorem Reps.ints(ns:List Int):Reps K O H (ns.map V.int) (ns.map Θ):=by
 induction ns with
 | nil=>exact .nil
 | cons n ns ih=>exact .cons (.int n) ih
theorem Reps.atI{vs:List V}{ds:List D}{i:Int}{d:D}(r:Reps K O H vs ds)(h:L2.atI ds i=some d):∃v,L2.atI vs i=some v/\Rep K O H v d:=by
 unfold L2.atI at h ⊢
 rw[r.length]
 cases e:ixN ds.length i with
 | none=>simp_all
 | some j =>
  rw[e] at h
  exact r.get h
end
inductive Sl where
 | un
 | vl (d:D)
 | ow (ds:List D)
 | od (es:List (Key×D))
 | ex (a:Addr)
abbrev DS:=List Sl
def Cs(K:ε)(O:List Addr)(H:Hp)(o:Option (Option V)):Sl->Prop
 | .un=>True
 | .vl d=>∃v,o=some (some v)/\Rep K O H v d
 | .ow ds=>∃l xs,o=some (some (.ref l))/\l∈O/\H l=some (.lst xs)/\Reps K O H xs ds
 | .od es=>∃l kvs,o=some (some (.ref l))/\l∈O/\H l=some (.dK kvs)/\kvs.map (·.1)=es.map (·.1)/\Reps K O H (kvs.map (·.2)) (es.map (·.2))
 | .ex a=>o=some (some (.ref a))
def Sl.own:Sl->Prop
 | .ow _=>True
 | .od _=>True
 | _=>False
theorem Mu.same{H H':Hp}{l:Addr}(s:aJ H H')(h:Mu H l):Mu H' l:=by
 rcases h with ⟨xs,h⟩ | ⟨xs,h⟩ | ⟨C,dx,fs,h⟩
 ·exact .inl ⟨xs,s _ _ h⟩
 ·exact .inr (.inl ⟨xs,s _ _ h⟩)
 ·exact .inr (.inr ⟨C,dx,fs,s _ _ h⟩)
theorem Mu.upd_ne{H:Hp}{a l:Addr}{o:HO}(n:a≠l)(h:Mu H a):Mu (upd H l o) a:=by
 rcases h with ⟨xs,h⟩ | ⟨xs,h⟩ | ⟨C,dx,fs,h⟩
 ·exact .inl ⟨xs,by rw[L2.upd_ne n];exact h⟩
 ·exact .inr (.inl ⟨xs,by rw[L2.upd_ne n];exact h⟩)
 ·exact .inr (.inr ⟨C,dx,fs,by rw[L2.upd_ne n];exact h⟩)
theorem Mu.new{H:Hp}{a l:Addr}{o:HO}(hl:H l=none)(h:Mu H a):Mu (upd H l o) a:=h.same (bn hl)
theorem Mu.lst{H:Hp}{l:Addr}{xs:List V}(h:H l=some (.lst xs)):Mu H l:=.inl ⟨xs,h⟩
theorem Mu.some{H:Hp}{l:Addr}(h:Mu H l):∃o,H l=some o:=by
 rcases h with ⟨xs,h⟩ | ⟨xs,h⟩ | ⟨C,dx,fs,h⟩
 all_goals simp_all
structure Ev(K:ε)(Hr:Hp)(O:List Addr)(H:Hp)(σ:St)(δ:DS):Prop where
 root:aJ Hr H
 oo:∀l∈O,Mu H l
 len:σ.length=δ.length
 at_:∀(i:Nat) (s:Sl),δ[i]?=some s->Cs K O H σ[i]? s
 dis:∀(i j:Nat) (l:Addr) (ds es:List D),i≠j->δ[i]?=some (.ow ds)->δ[j]?=some (.ow es)->σ[i]?=some (some (.ref l))->σ[j]? ≠ some (some (.ref l))
section
variable{K:ε}{Hr:Hp}{O:List Addr}{H H':Hp}{σ:St}{δ:DS}
theorem Ev.same(s:aJ H H')(e:Ev K Hr O H σ δ):Ev K Hr O H' σ δ:=by
 refine⟨e.root.trans s,λl hl=>(e.oo l hl).same s,e.len,λi sl h=>?_,e.dis⟩
 have q:=e.at_ i sl h
 cases sl with
 | un=>trivial
 | ex a=>exact q
 | vl d =>
  obtain⟨v,h1,r⟩:=q
  exact⟨v,h1,r.same s⟩
 | ow ds =>
  obtain⟨l,xs,h1,h2,h3,r⟩:=q
  exact⟨l,xs,h1,h2,s _ _ h3,r.same s⟩
 | od es =>
  obtain⟨l,kvs,h1,h2,h3,hk,r⟩:=q
  exact⟨l,kvs,h1,h2,s _ _ h3,hk,r.same s⟩
theorem Ev.val{i:Nat}{d:D}(e:Ev K Hr O H σ δ)(h:δ[i]?=some (.vl d)):∃v,σ[i]?=some (some v)/\Rep K O H v d:=e.at_ i _ h
theorem bH{α:Type}{l:List α}{i j:Nat}{a:α}:(l.set i a)[j]?=if i=j then (if i<l.length then some a else none) else l[j]?:=by
 grind
theorem Ev.set{i:Nat}{v:V}{d:D}(e:Ev K Hr O H σ δ)(r:Rep K O H v d):Ev K Hr O H (σ.set i (some v)) (δ.set i (.vl d)):=by
 refine⟨e.root,e.oo,by rw[Y3,Y3];exact e.len,λj sl h=>?_,λj k l ds es hjk h1 h2 h3 h4=>?_⟩
 ·rw[bH] at h ⊢
  by_cases hij:i=j
  ·rw[if_pos hij] at h ⊢
   by_cases hl:i<δ.length
   ·rw[if_pos hl] at h
    rw[if_pos (by rw[e.len];exact hl)]
    cases h
    exact⟨v,rfl,r⟩
   simp_all
  ·rw[if_neg hij] at h ⊢
   exact e.at_ j sl h
 ·rw[bH] at h1 h2 h3 h4
  by_cases hij:i=j
  ·simp_all
  ·by_cases hik:i=k
   ·simp_all
   ·rw[if_neg hij] at h1 h3
    rw[if_neg hik] at h2 h4
    exact e.dis j k l ds es hjk h1 h2 h3 h4
end
end DL
namespace DL
open PyProof.Rows L2
def PD(X:Cx)(G:XD->Hp->Prop)(e:Expr)(f:DS->M D):Prop :=
 ∃t,PE X e t/\∀{Hr:Hp} (δ:DS) (O:List Addr) (σ:St) (H:Hp) (Q:VK),Ev X.K Hr O H σ δ->ok (GS G Hr) (f δ) (λd=>∀v H',aJ H H'->Rep X.K O H' v d->Q v H')->t σ H Q
def PDT(X:Cx)(G:XD->Hp->Prop)(e:Expr)(f:DS->M Bool):Prop :=
 ∃t,PT X e t/\∀{Hr:Hp} (δ:DS) (O:List Addr) (σ:St) (H:Hp) (Q:Bool->Hp->Prop),Ev X.K Hr O H σ δ->ok (GS G Hr) (f δ) (λb=>∀H',aJ H H'->Q b H')->t σ H Q
def PDW(X:Cx)(G:XD->Hp->Prop)(e:Expr)(f:DS->M Bool):Prop :=
 ∃t,PW X e t/\∀{Hr:Hp} (δ:DS) (O:List Addr) (σ:St) (H:Hp) (Q:Bool->Hp->Prop),Ev X.K Hr O H σ δ->ok (GS G Hr) (f δ) (λb=>∀H',aJ H H'->Q b H')->t σ H Q
def PDA(X:Cx)(G:XD->Hp->Prop)(es:List Expr)(f:DS->M (List D)):Prop :=
 (∀δ ds,f δ=some (.ok ds)->ds.length=es.length)/\∃t,PA X es t/\∀{Hr:Hp} (δ:DS) (O:List Addr) (σ:St) (H:Hp) (Q:List V->Hp->Prop),Ev X.K Hr O H σ δ->ok (GS G Hr) (f δ) (λds=>∀vs H',aJ H H'->Reps X.K O H' vs ds->Q vs H')->t σ H Q
section
variable{X:Cx}{G:XD->Hp->Prop}{a b c e:Expr}{es rest:List Expr}{f g h:DS->M D}{fb gb:DS->M Bool}{fa:DS->M (List D)}{pos:Pos}
noncomputable def aj(i:Nat):DS->M D:=λδ=>match δ[i]? with
 | some (.vl d)=>M.ret d
 | _=>none
theorem ac{i:Nat}(h:PE X e (jG i)):PD X G e (aj i):=by
 refine⟨_,h,λδ O σ H Q E k=>?_⟩
 unfold aj at k
 split at k
 ·rename_i d hd
  obtain⟨v,e1,r⟩:=E.val hd
  exact⟨v,e1,k v H (aJ.refl H) r⟩
 ·exact k.elim
noncomputable def dC(d:D):DS->M D:=λ_=>M.ret d
theorem ah{i j pos}:PD X G (.Constant (.int i) j pos) (dC (.int i)):=⟨_,yU,λ_ _ _ H Q _ k=>k _ H (aJ.refl H) (.int i)⟩
theorem jE{i j pos}:PD X G (.Constant (.bool i) j pos) (dC (.bool i)):=⟨_,pe_bl,λ_ _ _ H Q _ k=>k _ H (aJ.refl H) (.bl i)⟩
theorem qG{j pos}:PD X G (.Constant .none j pos) (dC .none):=⟨_,pe_non,λ_ _ _ H Q _ k=>k _ H (aJ.refl H) .non⟩
theorem aw{x j pos}:PD X G (.Constant (.str x) j pos) (dC (.str x)):=⟨_,m5,λ_ _ _ H Q _ k=>k _ H (aJ.refl H) (.str x)⟩
def DOp(X:Cx)(sem:Value->Value->Sem Value)(h:D->D->Option D):Prop :=
 ∃r:R2,OpR X sem r/\∀(O:List Addr) (H:Hp) (x y d:D) (v u:V) (Q:VK),(∀l∈O,Mu H l)->Rep X.K O H v x->Rep X.K O H u y->h x y=some d->(∀v' H',aJ H H'->Rep X.K O H' v' d->Q v' H')->r v u H Q
noncomputable def d2(h:D->D->Option D)(f g:DS->M D):DS->M D:=λδ=>(f δ).thn λx=>(g δ).thn λy=>M.lift (h x y)
theorem qD{r:R2}{h:D->D->Option D}{ta tb:TE}
  (ho:∀(O:List Addr) (H:Hp) (x y d:D) (v u:V) (Q:VK),(∀l∈O,Mu H l)->Rep X.K O H v x->Rep X.K O H u y->h x y=some d->(∀v' H',aJ H H'->Rep X.K O H' v' d->Q v' H')->r v u H Q)
  (ha:∀{Hr:Hp} (δ:DS) (O:List Addr) (σ:St) (H:Hp) (Q:VK),Ev X.K Hr O H σ δ->ok (GS G Hr) (f δ) (λd=>∀v H',aJ H H'->Rep X.K O H' v d->Q v H')->ta σ H Q)
  (hb:∀{Hr:Hp} (δ:DS) (O:List Addr) (σ:St) (H:Hp) (Q:VK),Ev X.K Hr O H σ δ->ok (GS G Hr) (g δ) (λd=>∀v H',aJ H H'->Rep X.K O H' v d->Q v H')->tb σ H Q)
  {Hr:Hp} (δ:DS) (O:List Addr) (σ:St) (H:Hp) (Q:VK) (E:Ev X.K Hr O H σ δ) (k:ok (GS G Hr) (d2 h f g δ) (λd=>∀v H',aJ H H'->Rep X.K O H' v d->Q v H')):tOp r ta tb σ H Q:=by
 refine ha δ O σ H _ E (aq (ay k) λx kx v H1 s1 rx=>?_)
 refine hb δ O σ H1 _ (E.same s1) (aq (ay kx) λy ky u H2 s2 ry=>?_)
 obtain⟨d,hd,kd⟩:=cN ky
 exact ho O H2 x y d v u Q (E.same (s1.trans s2)).oo (rx.same s2) ry hd λv' H3 s3 r3=>kd v' H3 ((s1.trans s2).trans s3) r3
theorem aH{op:Operator}{h:D->D->Option D}(ho:DOp X (binaryOp op) h)(ha:PD X G a f)(hb:PD X G b g):PD X G (.BinOp a op b pos) (d2 h f g):=by
 obtain⟨r,hr,ho⟩:=ho
 obtain⟨ta,pa,ha⟩:=ha
 obtain⟨tb,pb,hb⟩:=hb
 exact⟨_,pe_op hr pa pb,qD ho ha hb⟩
theorem eL{op:CmpOp}{h:D->D->Option D}(ho:DOp X (compareOp op) h)(ha:PD X G a f)(hb:PD X G b g)(hm:behindInMarks op b=false):PD X G (.Compare a [op] [b] pos) (d2 h f g):=by
 obtain⟨r,hr,ho⟩:=ho
 obtain⟨ta,pa,ha⟩:=ha
 obtain⟨tb,pb,hb⟩:=hb
 exact⟨_,vJ hr pa pb hm,qD ho ha hb⟩
noncomputable def dB(f:DS->M D):DS->M Bool:=λδ=>(f δ).thn λd=>match d with
 | .bool b=>M.ret b
 | _=>none
theorem pA{Hr:Hp}{δ:DS}{k:Bool->Prop}(q:ok (GS G Hr) (dB f δ) k):ok (GS G Hr) (f δ) (λd=>∃b,d=.bool b/\k b):=by
 refine aq (ay q) λd z=>?_
 cases d with
 | bool b=>exact⟨b,rfl,z⟩
 | _=>exact z.elim
theorem bt{op:CmpOp}{h:D->D->Option D}(ho:DOp X (compareOp op) h)(ha:PD X G a f)(hb:PD X G b g)(hm:behindInMarks op b=false):PDT X G (.Compare a [op] [b] pos) (dB (d2 h f g)):=by
 obtain⟨r,hr,ho⟩:=ho
 obtain⟨ta,pa,ha⟩:=ha
 obtain⟨tb,pb,hb⟩:=hb
 refine⟨_,mi hr pa pb hm,λδ O σ H Q E k=>?_⟩
 refine qD ho ha hb δ O σ H _ E (aq (pA k) λd z v H' s r=>?_)
 obtain⟨b,rfl,z⟩:=z
 exact⟨b,r.bool_inv,z H' s⟩
theorem cL(he:PD X G e f)(h1:∀whole,isTrue e X.env whole=(do let v <- whole;standAt e.pos;holding [v] (truthy v)):=by intro _;rfl):PDT X G e (dB f):=by
 obtain⟨t,p,he⟩:=he
 refine⟨_,yH p h1,λδ O σ H Q E k=>?_⟩
 refine he δ O σ H _ E (aq (pA k) λd z v H' s r=>?_)
 obtain⟨b,rfl,z⟩:=z
 exact⟨b,r.bool_inv,z H' s⟩
noncomputable def oj(fb gb:DS->M Bool):DS->M Bool:=λδ=>(fb δ).thn λc=>if c=true then gb δ else M.ret false
noncomputable def dOr(fb gb:DS->M Bool):DS->M Bool:=λδ=>(fb δ).thn λc=>if c=true then M.ret true else gb δ
noncomputable def ja(fb:DS->M Bool):DS->M Bool:=λδ=>(fb δ).thn λc=>M.ret (!c)
theorem sq(ha:PDT X G a fb):PDW X G (.BoolOp .And [a] pos) fb:=by
 obtain⟨t,p,ha⟩:=ha
 exact⟨_,vG p,ha⟩
theorem mm(ha:PDT X G a fb):PDW X G (.BoolOp .Or [a] pos) fb:=by
 obtain⟨t,p,ha⟩:=ha
 exact⟨_,pw_or1 p,ha⟩
theorem qC(ha:PDT X G a fb)(hb:PDW X G (.BoolOp .And (b::rest) pos) gb):PDW X G (.BoolOp .And (a::b::rest) pos) (oj fb gb):=by
 obtain⟨t,p,ha⟩:=ha
 obtain⟨u,q,hb⟩:=hb
 refine⟨_,yG p q,λδ O σ H Q E k=>?_⟩
 refine ha δ O σ H _ E (aq (ay k) λc z H1 s1=>?_)
 cases c with
 | true =>
  exact hb δ O σ H1 Q (E.same s1) (aq z λb y H2 s2=>y H2 (s1.trans s2))
 | false =>
  exact z H1 s1
theorem qB(ha:PDT X G a fb)(hb:PDW X G (.BoolOp .Or (b::rest) pos) gb):PDW X G (.BoolOp .Or (a::b::rest) pos) (dOr fb gb):=by
 obtain⟨t,p,ha⟩:=ha
 obtain⟨u,q,hb⟩:=hb
 refine⟨_,pw_or p q,λδ O σ H Q E k=>?_⟩
 refine ha δ O σ H _ E (aq (ay k) λc z H1 s1=>?_)
 cases c with
 | true =>
  exact z H1 s1
 | false =>
  exact hb δ O σ H1 Q (E.same s1) (aq z λb y H2 s2=>y H2 (s1.trans s2))
theorem PDW.t(h:PDW X G e fb):PDT X G e fb:=by
 obtain⟨t,p,h⟩:=h
 exact⟨_,p.pt,h⟩
theorem dz(ha:PDT X G a fb):PDT X G (.UnaryOp .Not a pos) (ja fb):=by
 obtain⟨t,p,ha⟩:=ha
 refine⟨_,yJ p,λδ O σ H Q E k=>?_⟩
 exact ha δ O σ H _ E (aq (ay k) λc z H1 s1=>z H1 s1)
noncomputable def dG(f g:DS->M D):DS->M D:=λδ=>(dB f δ).thn λc=>if c=true then g δ else M.ret (.bool false)
noncomputable def dOrV(f g:DS->M D):DS->M D:=λδ=>(dB f δ).thn λc=>if c=true then M.ret (.bool true) else g δ
noncomputable def sZ(f:DS->M D):DS->M D:=λδ=>(dB f δ).thn λc=>M.ret (.bool (!c))
theorem eK{op}(ha:PD X G a f):PD X G (.BoolOp op [a] pos) f:=by
 assumption
theorem dU(ha:PD X G a f)(hb:PD X G (.BoolOp .And (b::rest) pos) g):PD X G (.BoolOp .And (a::b::rest) pos) (dG f g):=by
 obtain⟨t,p,ha⟩:=ha
 obtain⟨u,q,hb⟩:=hb
 refine⟨_,pe_and p q,λδ O σ H Q E k=>?_⟩
 refine ha δ O σ H _ E (aq (pA (ay k)) λd z v H1 s1 r=>?_)
 obtain⟨c,rfl,z⟩:=z
 refine⟨c,r.bool_inv,?_⟩
 cases c with
 | true =>
  exact hb δ O σ H1 Q (E.same s1) (aq z λb y v H2 s2=>y v H2 (s1.trans s2))
 | false =>
  exact z _ H1 s1 (.bl false)
theorem pd_or(ha:PD X G a f)(hb:PD X G (.BoolOp .Or (b::rest) pos) g):PD X G (.BoolOp .Or (a::b::rest) pos) (dOrV f g):=by
 obtain⟨t,p,ha⟩:=ha
 obtain⟨u,q,hb⟩:=hb
 refine⟨_,pe_or p q,λδ O σ H Q E k=>?_⟩
 refine ha δ O σ H _ E (aq (pA (ay k)) λd z v H1 s1 r=>?_)
 obtain⟨c,rfl,z⟩:=z
 refine⟨c,r.bool_inv,?_⟩
 cases c with
 | true =>
  exact z _ H1 s1 (.bl true)
 | false =>
  exact hb δ O σ H1 Q (E.same s1) (aq z λb y v H2 s2=>y v H2 (s1.trans s2))
theorem zg(ha:PD X G a f):PD X G (.UnaryOp .Not a pos) (sZ f):=by
 obtain⟨t,p,ha⟩:=ha
 refine⟨_,pe_not p,λδ O σ H Q E k=>?_⟩
 refine ha δ O σ H _ E (aq (pA (ay k)) λd z v H1 s1 r=>?_)
 obtain⟨c,rfl,z⟩:=z
 exact⟨c,r.bool_inv,z _ H1 s1 (.bl _)⟩
noncomputable def dIf(c:DS->M Bool)(f g:DS->M D):DS->M D:=λδ=>(c δ).thn λb=>if b=true then f δ else g δ
theorem pd_if(hc:PDT X G c fb)(ha:PD X G a f)(hb:PD X G b g):PD X G (.IfExp c a b pos) (dIf fb f g):=by
 obtain⟨t,p,hc⟩:=hc
 obtain⟨ta,pa,ha⟩:=ha
 obtain⟨tb,pb,hb⟩:=hb
 refine⟨_,yV p pa pb,λδ O σ H Q E k=>?_⟩
 refine hc δ O σ H _ E (aq (ay k) λd z H1 s1=>?_)
 cases d with
 | true =>
  exact ha δ O σ H1 Q (E.same s1) (aq z λb y v H2 s2=>y v H2 (s1.trans s2))
 | false =>
  exact hb δ O σ H1 Q (E.same s1) (aq z λb y v H2 s2=>y v H2 (s1.trans s2))
noncomputable def az:DS->M (List D):=λ_=>M.ret []
noncomputable def ai(f:DS->M D)(g:DS->M (List D)):DS->M (List D):=λδ=>(f δ).thn λx=>(g δ).thn λxs=>M.ret (x::xs)
theorem ag:PDA X G [] az:=⟨λδ ds h=>by cases h;rfl,_,iQ,λ_ _ _ H Q _ k=>k [] H (aJ.refl H) .nil⟩
theorem aa(ha:PD X G e f)(hr:PDA X G es fa)(hs:starEach (e::es) X.env=(false,eval e X.env)::starEach es X.env:=by rfl):PDA X G (e::es) (ai f fa):=by
 obtain⟨t,p,ha⟩:=ha
 obtain⟨hl,u,q,hr⟩:=hr
 refine⟨λδ ds h=>?_,_,dO p q hs,λδ O σ H Q E k=>?_⟩
 ·unfold ai at h
  cases e1:f δ with
  | none=>rw[e1] at h;cases h
  | some r =>
   rw[e1] at h
   cases r with
   | error x=>cases h
   | ok x =>
    cases e2:fa δ with
    | none=>rw[jW,e2] at h;cases h
    | some r2 =>
     rw[jW,e2] at h
     cases r2 with
     | error x=>cases h
     | ok xs =>
      cases h
      grind
 ·refine ha δ O σ H _ E (aq (ay k) λd z v H1 s1 r=>?_)
  refine hr δ O σ H1 _ (E.same s1) (aq (ay z) λds y vs H2 s2 rs=>?_)
  exact y (v::vs) H2 (s1.trans s2) (.cons (r.same s2) rs)
noncomputable def aN(n:Nat):Bool:=decide (n<=16000000)
theorem bj{n:Nat}(h:aN n=true):n<=sizeLine:=by
 have:=of_decide_eq_true h
 rw[sizeLine_eq]
 omega
noncomputable def oi(fa:DS->M (List D)):DS->M D:=λδ=>(fa δ).thn λds=>if aN ds.length then M.ret (.tuple ds) else none
noncomputable def lE(fa:DS->M (List D)):DS->M D:=λδ=>(fa δ).thn λds=>if aN ds.length then M.ret (.list ds) else none
theorem fH{K:ε}{O:List Addr}{H:Hp}{p:Addr}{vs:List V}{ds:List D}(hp:H p=none)(r:Reps K O H vs ds):Rep K O (upd H p (.tup vs)) (.ref p) (.tuple ds) :=
 .tup (SqT.of aA) (r.same (bn hp))
theorem qE{x1}(h:PDA X G es fa):PD X G (.Tuple es x1 pos) (oi fa):=by
 obtain⟨_,t,p,h⟩:=h
 refine⟨_,pe_tup p,λδ O σ H Q E k=>?_⟩
 refine h δ O σ H _ E (aq (ay k) λds z vs H1 s1 rs=>?_)
 by_cases hz:aN ds.length=true
 ·rw[if_pos hz] at z
  exact⟨by rw[rs.length];exact bj hz,λp hp=>z _ _ (s1.trans (bn hp)) (fH hp rs)⟩
 ·rw[if_neg hz] at z
  exact z.elim
end
end DL
namespace DL
open PyProof.Rows L2
section
variable{X:Cx}{G:XD->Hp->Prop}{a b c e:Expr}{es rest:List Expr}{f g h:DS->M D}{fb gb:DS->M Bool}{fa:DS->M (List D)}{pos:Pos}
noncomputable def ii(h:Int->Int->Option D):D->D->Option D
 | .int i,.int j=>h i j
 | _,_=>none
theorem v5{h:Int->Int->Option D}{x y d:D}(e:ii h x y=some d):∃i j,x=.int i/\y=.int j/\h i j=some d:=by
 unfold ii at e
 grind
theorem uW{sem:Value->Value->Sem Value}{g:Int->Int->V}{gd:Int->Int->D}(h:OpR X sem (rI0 g))(hg:∀O H i j,Rep X.K O H (g i j) (gd i j)):DOp X sem (ii λi j=>some (gd i j)):=by
 refine⟨_,h,λO H x y d v u Q oo rx ry e k=>?_⟩
 obtain⟨i,j,rfl,rfl,e⟩:=v5 e
 cases e
 exact⟨i,j,rx.int_inv,ry.int_inv,k _ H (aJ.refl H) (hg O H i j)⟩
theorem rc{sem:Value->Value->Sem Value}{C:Int->Int->Prop}{B:Int->Int->Bool}{g:Int->Int->V}{gd:Int->Int->D}(h:OpR X sem (rI C g))(hC:∀i j,B i j=true->C i j)(hg:∀O H i j,Rep X.K O H (g i j) (gd i j)) :
  DOp X sem (ii λi j=>if B i j=true then some (gd i j) else none):=by
 refine⟨_,h,λO H x y d v u Q oo rx ry e k=>?_⟩
 obtain⟨i,j,rfl,rfl,e1⟩:=v5 e
 by_cases hb:B i j=true
 ·rw[if_pos hb] at e1
  cases e1
  exact⟨i,j,rx.int_inv,ry.int_inv,hC i j hb,k _ H (aJ.refl H) (hg O H i j)⟩
 simp_all
noncomputable def AS(i j:Int):Bool:=decide ((-18446744073709551616<i/\i<18446744073709551616)\/(-18446744073709551616<j/\j<18446744073709551616))
abbrev oV:D->D->Option D:=ii λi j=>if AS i j=true then some (.int (i*j)) else none
noncomputable def bDiv(j:Int):Bool:=decide (0<j/\j<1267650600228229401496703205376)
abbrev iT:D->D->Option D:=ii λi j=>if bDiv j=true then some (.int (i / j)) else none
abbrev di:D->D->Option D:=ii λi j=>if decide (0<j)=true then some (.int (i % j)) else none
noncomputable def bPow(i j:Int):Bool:=decide (0<=j/\j<=1000000/\i.natAbs<18446744073709551616)
abbrev zu:D->D->Option D:=ii λi j=>if bPow i j=true then some (.int (i ^ j.toNat)) else none
theorem im:DOp X (binaryOp .Mult) oV:=rc op_mul (λi j h=>by
 have h:=of_decide_eq_true h
 assumption) λ_ _ _ _=>.int _
theorem sG{j:Int}(h:0<j/\j<1267650600228229401496703205376):j.natAbs.log2<9000:=by
 have h2:j.natAbs<2 ^ 100:=by
  omega
 exact Nat.lt_trans ((Nat.log2_lt (by omega)).mpr h2) (by decide)
theorem zl:OpR X (binaryOp .FloorDiv) (rI (λ_ j=>0<j/\j<1267650600228229401496703205376) λi j=>.int (i / j)):=opI λi j _ _ _ _ _ hc q=>by
 rw[<-Int.fdiv_eq_ediv_of_nonneg _ (Int.le_of_lt hc.1)] at q
 exact floordiv_int (by omega) q (.inl (PyProof.noPylong_of_log2 (sG hc)))
theorem en:DOp X (binaryOp .FloorDiv) iT:=rc zl (λi j h=>of_decide_eq_true h) λ_ _ _ _=>.int _
theorem bw:DOp X (binaryOp .Mod) di:=rc op_mod (λi j h=>of_decide_eq_true h) λ_ _ _ _=>.int _
theorem wx:DOp X (binaryOp .Pow) zu:=rc op_pow (λi j h=>by
 have h:=of_decide_eq_true h
 assumption) λ_ _ _ _=>.int _
abbrev oLt:D->D->Option D:=ii λi j=>some (.bool (decide (i<j)))
abbrev oGt:D->D->Option D:=ii λi j=>some (.bool (decide (j<i)))
abbrev oGe:D->D->Option D:=ii λi j=>some (.bool (decide (j<=i)))
theorem n5:DOp X (compareOp .Lt) oLt:=uW op_lt λ_ _ _ _=>.bl _
theorem dop_gt:DOp X (compareOp .Gt) oGt:=uW op_gt λ_ _ _ _=>.bl _
theorem dop_ge:DOp X (compareOp .GtE) oGe:=uW op_ge λ_ _ _ _=>.bl _
theorem nin{O:List Addr}{H:Hp}(oo:∀l∈O,Mu H l){p:Addr}(hp:H p=none):p∉O:=λz=>by
 obtain⟨o,ho⟩:=(oo p z).some
 simp_all
theorem iL{K:ε}{O:List Addr}{H:Hp}{p:Addr}{vs:List V}{ds:List D}(oo:∀l∈O,Mu H l)(hp:H p=none)(r:Reps K O H vs ds):Rep K O (upd H p (.lst vs)) (.ref p) (.list ds) :=
 .lst (.inl aA) (nin oo hp) (r.same (bn hp))
theorem BH:OpR X (binaryOp .Add) (λx y H Q=>∃a b ys,x=.ref a/\y=.ref b/\SqT X.K H a []/\SqT X.K H b ys/\Q (.ref b) H):=by
 intro pins s σ H x y v u Q I rx ry h
 obtain⟨a,b,ys,rfl,rfl,ha,hb,q⟩:=h
 cases rx
 cases ry
 obtain⟨its,r1,p1,_⟩:=I.tuple ha
 obtain⟨its2,r2,p2,_⟩:=I.tuple hb
 cases r1
 obtain⟨⟨cls,dd,data,sl⟩,ho,hc,n,hd⟩:=id p1
 obtain⟨⟨cls2,dd2,data2,sl2⟩,ho2,hc2,n2,hd2⟩:=id p2
 subst hc hd hc2 hd2
 exact concat_meets ⟨_,ho,rfl⟩ ⟨_,ho2,rfl⟩ noFill_tuple_add seq_tuple_add PySem.F.slot_tuple_add PySem.F.entry_tuple_add (PySem.F.args_tuple_add_2 _ _)
  (tuple_addW0 a b _ its2.toArray n n2 dd dd2 sl sl2 rfl) ⟨ho,ho2,⟨.ref b,H,I,rfl,q⟩⟩
theorem BG:OpR X (binaryOp .Add) (λx y H Q=>∃l b xs zs,x=.ref l/\y=.ref b/\SqL X.K H l xs/\SqL X.K H b zs/\xs.length+zs.length<=sizeLine/\∀p,H p=none->Q (.ref p) (upd H p (.lst (xs++zs)))):=by
 intro pins s σ H x y v u Q I rx ry h
 obtain⟨l,b,xs,zs,rfl,rfl,hH,hB,hz,q⟩:=h
 cases rx
 cases ry
 obtain⟨its,r,⟨⟨cls,dd,data,sl⟩,n,e,hc,hdd,hd⟩,z⟩:=I.list hH
 obtain⟨its2,r2,⟨⟨cls2,dd2,data2,sl2⟩,n2,e2,hc2,hdd2,hd2⟩,z2⟩:=I.list hB
 have hl:=r.length
 have hl2:=r2.length
 subst hc hd hc2 hd2 hdd hdd2
 have ea:its.toArray++its2.toArray=(its++its2).toArray:=by simp
 refine concat_meets ⟨_,e,rfl⟩ ⟨_,e2,rfl⟩ noFill_list_add seq_list_add PySem.F.slot_list_add PySem.F.entry_list_add (PySem.F.args_list_add_2 _ _) (list_addW l b its.toArray its2.toArray n n2 none none sl sl2 (by simp_all)) ⟨e,e2,?_⟩
 rw[ea]
 exact⟨.ref _,_,I.lnew (r.append r2) (by simp_all),rfl,q _ I.fresh⟩
noncomputable def b5:D->D->Option D
 | .int i,.int j=>some (.int (i+j))
 | .str i,.str j=>if aN (i.length+j.length) then some (.str (i++j)) else none
 | .tuple xs,.tuple ys=>if aN (xs.length+ys.length) then some (.tuple (xs++ys)) else none
 | .list xs,.list ys=>if aN (xs.length+ys.length) then some (.list (xs++ys)) else none
 | _,_=>none
theorem ba:DOp X (binaryOp .Add) b5:=by
 refine⟨_,op_add.or (ur.or (BF.or (BH.or BG))),λO H x y d v u Q oo rx ry e k=>?_⟩
 unfold b5 at e
 split at e
 ·rename_i i j
  cases e
  exact .inl ⟨i,j,rx.int_inv,ry.int_inv,k _ H (aJ.refl H) (.int _)⟩
 ·rename_i i j
  by_cases hz:aN (i.length+j.length)=true
  ·rw[if_pos hz] at e
   cases e
   exact .inr (.inl ⟨i,j,rx.str_inv,ry.str_inv,bj hz,k _ H (aJ.refl H) (.str _)⟩)
  simp_all
 ·rename_i xs ys
  by_cases hz:aN (xs.length+ys.length)=true
  ·rw[if_pos hz] at e
   cases e
   obtain⟨p,vs,rfl,h1,r1⟩:=rx.tup_inv
   obtain⟨q,ws,rfl,h2,r2⟩:=ry.tup_inv
   by_cases hx:xs=[]
   ·subst hx
    cases r1
    exact .inr (.inr (.inr (.inl ⟨p,q,ws,rfl,rfl,h1,h2,k _ H (aJ.refl H) (.tup h2 r2)⟩)))
   ·refine .inr (.inr (.inl ⟨p,q,vs,ws,rfl,rfl,h1,h2,λz=>?_,by rw[r1.length,r2.length];exact bj hz,λz=>?_,λz l hl=>?_⟩))
    ·subst z
     cases r1
     simp_all
    ·subst z
     have z2:=r2
     cases z2
     refine k _ H (aJ.refl H) ?_
     simp_all
    ·exact k _ _ (bn hl) (fH hl (r1.append r2))
  simp_all
 ·rename_i xs ys
  by_cases hz:aN (xs.length+ys.length)=true
  ·rw[if_pos hz] at e
   cases e
   obtain⟨p,vs,rfl,h1,r1⟩:=rx.lst_inv
   obtain⟨q,ws,rfl,h2,r2⟩:=ry.lst_inv
   exact .inr (.inr (.inr (.inr ⟨p,q,vs,ws,rfl,rfl,h1,h2,by rw[r1.length,r2.length];exact bj hz,λl hl=>k _ _ (bn hl) (iL oo hl (r1.append r2))⟩)))
  simp_all
 simp_all
mutual
theorem Rep.reads{pins:List (Addr×Obj)}{σ:St}{H:Hp}{s:Shared}{O:List Addr}(I:Inv X pins σ H s):∀{v:V} {d:D} {u:Value},d.canLay0=true->Rep X.K O H v d->bC v u->∃as,Reads s.heap u d as
 | _,_,u,_,.non,q=>by cases (show u=Value.none from q);exact⟨_,.none⟩
 | _,_,u,_,.bl b,q=>by cases (show u=Value.bool b from q);exact⟨_,.bool b⟩
 | _,_,u,_,.int i,q=>by obtain⟨t,rfl⟩:=(show ∃t,u=Value.int i t from q);exact⟨_,.int i t⟩
 | _,_,u,_,.str x,q=>by obtain⟨t,rfl⟩:=(show ∃t,u=Value.str x t from q);exact⟨_,.str x t⟩
 | .ref a,_,u,hc,.tup h r,q=>by
  cases (show u=Value.ref a from q)
  obtain⟨its,rv,⟨o,h1,h2,n,h3⟩,_⟩:=I.tuple h
  obtain⟨as,ra⟩:=Reps.reads I (by simpa [V8] using hc) r rv
  exact⟨_,.tuple h1 h2 h3 ra⟩
 | .ref a,_,u,hc,.lst h n r,q=>by
  cases (show u=Value.ref a from q)
  obtain⟨its,rv,⟨o,n,h1,h2,_,h3⟩,_⟩:=I.list (.inl h)
  obtain⟨as,ra⟩:=Reps.reads I (by simpa [V8] using hc) r rv
  exact⟨_,.list h1 h2 h3 ra⟩
 | .ref a,_,u,hc,.lstK h r,q=>by
  cases (show u=Value.ref a from q)
  obtain⟨its,rv,⟨o,n,h1,h2,_,h3⟩,_⟩:=I.list (.inr h)
  obtain⟨as,ra⟩:=Reps.reads I (by simpa [V8] using hc) r rv
  exact⟨_,.list h1 h2 h3 ra⟩
 | .ref a,_,u,hc,.dct _ _ _ _,q=>by simp [V8] at hc
 | .ref a,_,u,hc,.ins _ _ _ _ _,q=>by simp [V8,nI] at hc
theorem Reps.reads{pins:List (Addr×Obj)}{σ:St}{H:Hp}{s:Shared}{O:List Addr}(I:Inv X pins σ H s):∀{vs:List V} {ds:List D} {us:List Value},PyData.canLayAll0 ds=true->Reps X.K O H vs ds->bx vs us->∃as,ReadsAll s.heap us ds as
 | _,_,_,_,.nil,q=>by cases q;exact⟨_,.nil⟩
 | _,_,_,hc,.cons r rs,q=>by
  rw[PyData.canLayAll0,Ξ] at hc
  cases q with
  | cons p ps =>
   obtain⟨as,h1⟩:=Rep.reads I hc.1 r p
   obtain⟨bs,h2⟩:=Reps.reads I hc.2 rs ps
   exact⟨_,.cons h1 h2⟩
end
noncomputable def flat(x y:D):Bool:=x.canLay0&&y.canLay0&&decide (min x.depth y.depth<=60)
noncomputable def oEq(x y:D):Option D:=if flat x y=true then some (.bool (PyData.eqv x y)) else none
noncomputable def oNe(x y:D):Option D:=if flat x y=true then some (.bool (!PyData.eqv x y)) else none
noncomputable def rDat(X:Cx)(p:D->D->Bool):R2:=λv u H Q=>∃O x y,Rep X.K O H v x/\Rep X.K O H u y/\flat x y=true/\Q (.bl (p x y)) H
theorem wf{x y:D}(h:flat x y=true):x.canLay0=true/\y.canLay0=true/\min x.depth y.depth<=60:=by
 unfold flat at h
 simp_all
theorem op_eqD(hu:X.A.units+64<cLine):OpR X (compareOp .Eq) (rDat X PyData.eqv):=by
 intro pins s σ H v u v' u' Q I rv ru h
 obtain⟨O,x,y,rx,ry,hf,q⟩:=h
 obtain⟨h1,h2,h3⟩:=wf hf
 obtain⟨as,r1⟩:=rx.reads I h1 rv
 obtain⟨bs,r2⟩:=ry.reads I h2 ru
 exact SeqAt.compareEq_reads r1 r2 h1 h2 (by omega) ⟨.bl _,H,I,rfl,q⟩
theorem op_neD(hu:X.A.units+64<cLine):OpR X (compareOp .NotEq) (rDat X λx y=>!PyData.eqv x y):=by
 intro pins s σ H v u v' u' Q I rv ru h
 obtain⟨O,x,y,rx,ry,hf,q⟩:=h
 obtain⟨h1,h2,h3⟩:=wf hf
 obtain⟨as,r1⟩:=rx.reads I h1 rv
 obtain⟨bs,r2⟩:=ry.reads I h2 ru
 exact SeqAt.compareNe_reads r1 r2 h1 h2 (by omega) ⟨.bl _,H,I,rfl,q⟩
theorem bI(hu:X.A.units+64<cLine):DOp X (compareOp .Eq) oEq:=by
 refine⟨_,op_eqD hu,λO H x y d v u Q oo rx ry e k=>?_⟩
 unfold oEq at e
 by_cases hf:flat x y=true
 ·rw[if_pos hf] at e
  cases e
  exact⟨O,x,y,rx,ry,hf,k _ H (aJ.refl H) (.bl _)⟩
 simp_all
theorem jP(hu:X.A.units+64<cLine):DOp X (compareOp .NotEq) oNe:=by
 refine⟨_,op_neD hu,λO H x y d v u Q oo rx ry e k=>?_⟩
 unfold oNe at e
 by_cases hf:flat x y=true
 ·rw[if_pos hf] at e
  cases e
  exact⟨O,x,y,rx,ry,hf,k _ H (aJ.refl H) (.bl _)⟩
 simp_all
noncomputable def oIx:D->D->Option D
 | .tuple ds,.int i=>L2.atI ds i
 | .list ds,.int i=>L2.atI ds i
 | .str z,.int i=>if aN z.length then (L2.atI z.cps.toList i).map (λc=>.str ⟨#[c]⟩) else none
 | _,_=>none
theorem aP(ha:PD X G a f)(hb:PD X G b g)(hs:rq b):PD X G (.Subscript a b pos) (d2 oIx f g):=by
 obtain⟨ta,pa,ha⟩:=ha
 obtain⟨tb,pb,hb⟩:=hb
 refine⟨_,pe_ix zV pa pb hs,qD (λO H x y d v u Q oo rx ry e k=>?_) ha hb⟩
 unfold oIx at e
 split at e
 ·rename_i ds i
  obtain⟨p,vs,rfl,h1,r1⟩:=rx.tup_inv
  obtain⟨w,hw,rw'⟩:=r1.atI e
  exact .inr (.inl ⟨p,vs,i,w,rfl,ry.int_inv,h1,hw,k w H (aJ.refl H) rw'⟩)
 ·rename_i ds i
  obtain⟨p,vs,rfl,h1,r1⟩:=rx.lst_inv
  obtain⟨w,hw,rw'⟩:=r1.atI e
  exact .inl ⟨p,vs,i,w,rfl,ry.int_inv,h1,hw,k w H (aJ.refl H) rw'⟩
 ·rename_i z i
  by_cases hz:aN z.length=true
  ·rw[if_pos hz] at e
   cases e2:L2.atI z.cps.toList i with
   | none=>simp_all
   | some c =>
    rw[e2] at e
    cases e
    exact .inr (.inr ⟨z,i,c,rx.str_inv,ry.int_inv,bj hz,e2,k _ H (aJ.refl H) (.str _)⟩)
  simp_all
 simp_all
end
end DL
namespace DL
open PyProof.Rows L2
section
variable{X:Cx}{G:XD->Hp->Prop}{a b c e:Expr}{es rest:List Expr}{f g h:DS->M D}{fb gb:DS->M Bool}{fa:DS->M (List D)}{pos:Pos}
def PDO(X:Cx)(G:XD->Hp->Prop)(e:Option Expr)(f:DS->M (Option Int)):Prop :=
 ∃t,PO X e t/\∀{Hr:Hp} (δ:DS) (O:List Addr) (σ:St) (H:Hp) (Q:Option Int->Hp->Prop),Ev X.K Hr O H σ δ->ok (GS G Hr) (f δ) (λd=>∀H',aJ H H'->Q d H')->t σ H Q
noncomputable def wz:DS->M (Option Int):=λ_=>M.ret none
noncomputable def p5(f:DS->M D):DS->M (Option Int):=λδ=>(f δ).thn λd=>match d with
 | .int i=>M.ret (some i)
 | _=>none
theorem zd:PDO X G none wz:=⟨_,Bq,λ_ _ _ H Q _ k=>k H (aJ.refl H)⟩
theorem m7(he:PD X G e f):PDO X G (some e) (p5 f):=by
 obtain⟨t,p,he⟩:=he
 refine⟨_,Bp p,λδ O σ H Q E k=>?_⟩
 refine he δ O σ H _ E (aq (ay k) λd z v H1 s1 r=>?_)
 cases d with
 | int i=>exact⟨i,r.int_inv,z H1 s1⟩
 | _=>exact z.elim
noncomputable def jT{α:Type}(xs:List α)(lo hi:Option Int):List α:=(xs.drop (HT.sIx xs.length 0 lo)).take (HT.sIx xs.length xs.length hi-HT.sIx xs.length 0 lo)
theorem Reps.cut{K:ε}{O:List Addr}{H:Hp}{xs:List V}{ds:List D}(r:Reps K O H xs ds)(lo hi:Option Int):Reps K O H (xQ xs lo hi) (jT ds lo hi):=by
 unfold xQ jT
 rw[r.length]
 exact(r.drop _).take _
noncomputable def oCut(lo hi:Option Int):D->Option D
 | .list ds=>some (.list (jT ds lo hi))
 | .tuple ds=>if HT.sIx ds.length 0 lo=0/\HT.sIx ds.length ds.length hi=ds.length then none else some (.tuple (jT ds lo hi))
 | _=>none
variable{lo hi:Option Expr}{fl fh:DS->M (Option Int)}{p2:Pos}
theorem gm(h:PDA X G es fa):PD X G (.List es pos) (lE fa):=by
 obtain⟨_,t,p,h⟩:=h
 refine⟨_,ul p,λδ O σ H Q E k=>?_⟩
 refine h δ O σ H _ E (aq (ay k) λds z vs H1 s1 rs=>?_)
 by_cases hz:aN ds.length=true
 ·rw[if_pos hz] at z
  exact⟨by rw[rs.length];exact bj hz,λp hp=>z _ _ (s1.trans (bn hp)) (iL (E.same s1).oo hp rs)⟩
 ·rw[if_neg hz] at z
  exact z.elim
def lT(X:Cx)(fn:Value)(h:List D->Option D):Prop :=
 ∃r,eF X fn r/\∀(O:List Addr) (H:Hp) (ds:List D) (d:D) (vs:List V) (Q:VK),(∀l∈O,Mu H l)->Reps X.K O H vs ds->h ds=some d->(∀v' H',aJ H H'->Rep X.K O H' v' d->Q v' H')->r vs H Q
noncomputable def dCB(h:List D->Option D)(fa:DS->M (List D)):DS->M D:=λδ=>(fa δ).thn λds=>M.lift (h ds)
theorem bF{x:Str}{p:Pos}{id:String}{h:List D->Option D}(hc:lT X (.builtin id) h)(hg:Gl X x)(hm:X.mg x=none)(hv:bootBuiltins x=some (.builtin id))(ha:PDA X G (e::es) fa)(hn:x ≠ "__name__" := by decide)(hdb:(x==("__debug__" : Str))=false:=by decide)
  (he:starEach (e::es) X.env=(false,eval e X.env)::starEach es X.env:=by rfl) (hpl:(backTo pos (starEach es X.env)).any (·.1)=false:=by rfl):PD X G (.Call (.Name x p) (e::es) [] pos) (dCB h fa):=by
 obtain⟨r,hr,hc⟩:=hc
 obtain⟨_,t,pa,ha⟩:=ha
 refine⟨_,m6 hr hg hm hv pa hn hdb he hpl,λδ O σ H Q E k=>?_⟩
 refine ha δ O σ H _ E (aq (ay k) λds z vs H1 s1 rs=>?_)
 obtain⟨d,hd,z⟩:=cN z
 exact hc O H1 ds d vs Q (E.same s1).oo rs hd λv' H2 s2 r2=>z v' H2 (s1.trans s2) r2
theorem bY{x:Str}{p:Pos}{id:String}{h:List D->Option D}(hc:lT X (.type id) h)(hg:Gl X x)(hm:X.mg x=none)(hv:bootBuiltins x=some (.type id))(ha:PDA X G (e::es) fa)(hn:x ≠ "__name__" := by decide)(hdb:(x==("__debug__" : Str))=false:=by decide)
  (he:starEach (e::es) X.env=(false,eval e X.env)::starEach es X.env:=by rfl) (hpl:(backTo pos (starEach es X.env)).any (·.1)=false:=by rfl):PD X G (.Call (.Name x p) (e::es) [] pos) (dCB h fa):=by
 obtain⟨r,hr,hc⟩:=hc
 obtain⟨_,t,pa,ha⟩:=ha
 refine⟨_,py hr hg hm hv pa hn hdb he hpl,λδ O σ H Q E k=>?_⟩
 refine ha δ O σ H _ E (aq (ay k) λds z vs H1 s1 rs=>?_)
 obtain⟨d,hd,z⟩:=cN z
 exact hc O H1 ds d vs Q (E.same s1).oo rs hd λv' H2 s2 r2=>z v' H2 (s1.trans s2) r2
theorem d8{K:ε}{O:List Addr}{H:Hp}{vs:List V}{d:D}(r:Reps K O H vs [d]):∃v,vs=[v]/\Rep K O H v d:=by
 cases r with
 | cons r rs=>cases rs;simp_all
theorem reps2{K:ε}{O:List Addr}{H:Hp}{vs:List V}{d d':D}(r:Reps K O H vs [d,d']):∃v v',vs=[v,v']/\Rep K O H v d/\Rep K O H v' d':=by
 cases r with
 | cons r rs =>
  obtain⟨v',rfl,r'⟩:=d8 rs
  grind
noncomputable def gE:List D->Option D
 | [.list ds]=>some (.int ds.length)
 | [.tuple ds]=>some (.int ds.length)
 | [.str z]=>if aN z.length then some (.int z.length) else none
 | _=>none
theorem cA:lT X (.builtin "len") gE:=by
 refine⟨_,rl.or rk,λO H ds d vs Q oo rs e k=>?_⟩
 unfold gE at e
 split at e
 ·cases e
  obtain⟨v,rfl,r⟩:=d8 rs
  obtain⟨p,xs,rfl,h1,rx⟩:=r.lst_inv
  refine .inl ⟨p,xs,rfl,.inl h1,k _ H (aJ.refl H) ?_⟩
  rw[rx.length]
  exact .int _
 ·cases e
  obtain⟨v,rfl,r⟩:=d8 rs
  obtain⟨p,xs,rfl,h1,rx⟩:=r.tup_inv
  refine .inl ⟨p,xs,rfl,.inr h1,k _ H (aJ.refl H) ?_⟩
  rw[rx.length]
  exact .int _
 ·rename_i z
  by_cases hz:aN z.length=true
  ·rw[if_pos hz] at e
   cases e
   obtain⟨v,rfl,r⟩:=d8 rs
   refine .inr ⟨z,by rw[r.str_inv],bj hz,k _ H (aJ.refl H) (.int _)⟩
  simp_all
 simp_all
noncomputable def tyD:D->String
 | .none => "NoneType"
 | .bool _ => "bool"
 | .int _ => "int"
 | .str _ => "str"
 | .list _ => "list"
 | .tuple _ => "tuple"
 | .dict _ => "dict"
noncomputable def isD(T:String)(d:D):Bool:=tyD d==T||(T == "int" && tyD d == "bool")
def lF(K:ε)(T:String):Prop:=∀d:D,W7 K (.type (tyD d)) (.type T)=some (isD T d)
theorem BU(K:ε):lF K "int" := λd=>by cases d<;>kernel_rfl
theorem zO(K:ε):lF K "bool" := λd=>by cases d<;>kernel_rfl
theorem kC(K:ε):lF K "str" := λd=>by cases d<;>kernel_rfl
theorem xA(K:ε):lF K "tuple" := λd=>by cases d<;>kernel_rfl
theorem tE{T:String}(hk:lF X.K T):eF X (.builtin "isinstance") (λxs H Q=>∃v O d,xs=[v,.ty T]/\Rep X.K O H v d/\sE d=true/\Q (.bl (isD T d)) H):=by
 intro pins s σ H xs us Q I r h
 obtain⟨v,O,d,rfl,rd,hi,q⟩:=h
 obtain⟨u,w',rfl,r1,r2⟩:=vp r
 cases (show w'=Value.type T from r2)
 have fin:∀tk,EP X pins σ Q (.bool (isD T d)) { s with toks:=tk }:=λtk=>⟨.bl _,H,I.tok _,rfl,q⟩
 have e:=hk d
 cases rd with
 | non=>cases (show u=Value.none from r1);exact W5 PySem.W.kitx_none I.kIn True.intro e (λz=>nomatch z) fin
 | bl y=>cases (show u=Value.bool y from r1);exact W5 PySem.W.kitx_bool I.kIn True.intro e (λz=>nomatch z) fin
 | int i=>obtain⟨t,q⟩:=(show ∃t,u=Value.int i t from r1);cases q;exact W5 PySem.W.kitx_int I.kIn True.intro e (λz=>nomatch z) fin
 | str y=>obtain⟨t,q⟩:=(show ∃t,u=Value.str y t from r1);cases q;exact W5 PySem.W.kitx_str I.kIn True.intro e (λz=>nomatch z) fin
 | @tup a ys ds h rr =>
  cases (show u=Value.ref a from r1)
  obtain⟨its,rv,⟨o,h1,h2,_⟩,_⟩:=I.tuple h
  exact W5 PySem.W.kitx_tuple I.kIn ⟨o,h1,h2⟩ e (λz=>nomatch z) fin
 | @lst a ys ds h n rr =>
  cases (show u=Value.ref a from r1)
  obtain⟨its,rv,⟨o,n,h1,h2,_⟩,_⟩:=I.list (.inl h)
  exact W5 PySem.W.kitx_list I.kIn ⟨o,h1,h2⟩ e (λz=>nomatch z) fin
 | @lstK a ys ds h rr =>
  cases (show u=Value.ref a from r1)
  obtain⟨its,rv,⟨o,n,h1,h2,_⟩,_⟩:=I.list (.inr h)
  exact W5 PySem.W.kitx_list I.kIn ⟨o,h1,h2⟩ e (λz=>nomatch z) fin
 | @dct a kvs es h n hk rr =>
  cases (show u=Value.ref a from r1)
  obtain⟨_,_,_,_,o,_,_,h1,h2,_⟩:=h.ok I.hok
  exact W5 PySem.W.kitx_dict I.kIn ⟨o,h1,h2.1⟩ e (λz=>nomatch z) fin
 | ins hN h n hk rr=>cases hi
noncomputable def dIs(T:String)(f:DS->M D):DS->M D:=λδ=>(f δ).thn λd=>if sE d=true then M.ret (.bool (isD T d)) else none
theorem d0{T:String}{x y:Str}{p p2:Pos}(hx:x = "isinstance")(hk:lF X.K T)(hg:Gl X x)(hm:X.mg x=none)(hg2:Gl X y)(hm2:X.mg y=none)(hb2:bootBuiltins y=some (.type T))(he:PD X G e f)
  (hn2:y ≠ "__name__" := by decide) (hd2:(y==("__debug__" : Str))=false:=by decide)
  (hs1:starEach [e,.Name y p2] X.env=(false,eval e X.env)::starEach [.Name y p2] X.env:=by rfl) (hs2:starEach [.Name y p2] X.env=(false,eval (.Name y p2) X.env)::starEach [] X.env:=by rfl)
  (hpl:(backTo pos (starEach [.Name y p2] X.env)).any (·.1)=false:=by rfl):PD X G (.Call (.Name x p) [e,.Name y p2] [] pos) (dIs T f):=by
 subst hx
 obtain⟨t,pe,he⟩:=he
 refine⟨_,m6 (tE hk) hg hm boot_isinstance (dO pe (dO (vK (v:=.ty T) hg2 hm2 hb2 rfl hn2 hd2) iQ hs2) hs1) (by decide) (by decide) hs1 hpl,λδ O σ H Q E k=>?_⟩
 refine he δ O σ H _ E (aq (ay k) λd z v H1 s1 r=>?_)
 by_cases hi:sE d=true
 ·rw[if_pos hi] at z
  exact⟨v,O,d,rfl,r,hi,z _ H1 s1 (.bl _)⟩
 ·rw[if_neg hi] at z
  exact z.elim
end
end DL
namespace DL
open PyProof.Rows L2
noncomputable def d1(h:D->Option D)(f:DS->M D):DS->M D:=λδ=>(f δ).thn λx=>M.lift (h x)
noncomputable def BP:D->Option D
 | .int i=>some (.int (-i))
 | _=>none
theorem pd_neg{X:Cx}{G:XD->Hp->Prop}{a:Expr}{f:DS->M D}{pos:Pos}(ha:PD X G a f):PD X G (.UnaryOp .USub a pos) (d1 BP f):=by
 obtain⟨t,p,ha⟩:=ha
 refine⟨_,pe_un un_neg p,λδ O σ H Q E k=>?_⟩
 refine ha δ O σ H _ E (aq (ay k) λd z v H1 s1 r=>?_)
 obtain⟨y,hy,z⟩:=cN z
 cases d with
 | int i=>exact⟨i,r.int_inv,z _ H1 s1 (.int _)⟩
 | _=>cases hy
inductive Out where
 | nx (δ:DS)
 | rt (d:D)
 | bk (δ:DS)
 | ct (δ:DS)
structure EI(K:ε)(Hr:Hp)(R0:List Addr)(P0:Addr->Prop)(H0:Hp)(O:List Addr)(H:Hp)(σ:St)(δ:DS):Prop where
 ev:Ev K Hr O H σ δ
 omr:∀l∈O,l∈R0\/Hr l=none
 keep:∀b o,¬P0 b->H0 b=some o->H b=some o
 om:∀l∈O,l∈R0\/P0 l\/H0 l=none
 nr1:∀(i:Nat) (s:Sl) (l:Addr),δ[i]?=some s->s.own->σ[i]?=some (some (.ref l))->l∉R0
 sub:∀l∈R0,l∈O
theorem EI.nr{K:ε}{Hr:Hp}{R0:List Addr}{P0:Addr->Prop}{H0:Hp}{O:List Addr}{H:Hp}{σ:St}{δ:DS}(E:EI K Hr R0 P0 H0 O H σ δ):∀(i:Nat) (ds:List D) (l:Addr),δ[i]?=some (.ow ds)->σ[i]?=some (some (.ref l))->l∉R0:=λi ds l h1 h2=>E.nr1 i _ l h1 trivial h2
def Fin(K:ε)(Hr:Hp)(R0:List Addr)(P0:Addr->Prop)(H0:Hp)(Dn:Ends):Out->Prop
 | .nx δ=>∀O σ H,EI K Hr R0 P0 H0 O H σ δ->Dn.nx σ H
 | .rt d=>∀v H,(∀b o,¬P0 b->H0 b=some o->H b=some o)->Rep K R0 H v d->Dn.rt v H
 | .bk δ=>∀O σ H,EI K Hr R0 P0 H0 O H σ δ->Dn.bk σ H
 | .ct δ=>∀O σ H,EI K Hr R0 P0 H0 O H σ δ->Dn.ct σ H
def PDS(X:Cx)(G:XD->Hp->Prop)(st:Stmt)(g:DS->M Out):Prop :=
 ∃t,PS X st t/\∀{Hr:Hp} (R0:List Addr) (P0:Addr->Prop) (H0:Hp) (δ:DS) (O:List Addr) (σ:St) (H:Hp) (Dn:Ends),EI X.K Hr R0 P0 H0 O H σ δ->ok (GS G Hr) (g δ) (Fin X.K Hr R0 P0 H0 Dn)->t Dn σ H
def jA(X:Cx)(G:XD->Hp->Prop)(st:List Stmt)(g:DS->M Out):Prop :=
 ∃t,PSs X st t/\∀{Hr:Hp} (R0:List Addr) (P0:Addr->Prop) (H0:Hp) (δ:DS) (O:List Addr) (σ:St) (H:Hp) (Dn:Ends),EI X.K Hr R0 P0 H0 O H σ δ->ok (GS G Hr) (g δ) (Fin X.K Hr R0 P0 H0 Dn)->t Dn σ H
section
variable{X:Cx}{G:XD->Hp->Prop}{a b c e:Expr}{es rest:List Expr}{f g h:DS->M D}{fb gb:DS->M Bool}{fa:DS->M (List D)}{pos:Pos}{st:Stmt}{sts st1 st2:List Stmt}{gs gt gu:DS->M Out}
variable{K:ε}{Hr:Hp}{R0:List Addr}{P0:Addr->Prop}{H0 H H':Hp}{O:List Addr}{σ:St}{δ:DS}
theorem EI.same(E:EI K Hr R0 P0 H0 O H σ δ)(s:aJ H H'):EI K Hr R0 P0 H0 O H' σ δ:=⟨E.ev.same s,E.omr,λb o n h=>s _ _ (E.keep b o n h),E.om,E.nr1,E.sub⟩
theorem EI.set{i:Nat}{v:V}{d:D}(E:EI K Hr R0 P0 H0 O H σ δ)(r:Rep K O H v d):EI K Hr R0 P0 H0 O H (σ.set i (some v)) (δ.set i (.vl d)):=by
 refine⟨E.ev.set r,E.omr,E.keep,E.om,λj ds l h1 ho h2=>?_,E.sub⟩
 rw[bH] at h1 h2
 by_cases hij:i=j
 ·rw[if_pos hij] at h1
  split at h1
  ·cases h1;exact ho.elim
  simp_all
 ·rw[if_neg hij] at h1 h2
  exact E.nr1 j ds l h1 ho h2
theorem EI.less(E:EI K Hr R0 P0 H0 O H σ δ){v:V}{d:D}(r:Rep K O H v d):Rep K R0 H v d:=r.to (.less E.sub)
noncomputable def dF:DS->M Out:=λδ=>M.ret (.nx δ)
noncomputable def bo(g h:DS->M Out):DS->M Out:=λδ=>(g δ).thn λo=>match o with
 | .nx δ'=>h δ'
 | o=>M.ret o
theorem ce:jA X G [] dF:=⟨_,vH,λR0 P0 H0 δ O σ H Dn E k=>k O σ H E⟩
theorem aC(h1:PDS X G st gs):jA X G [st] gs:=by
 obtain⟨t,p,h1⟩:=h1
 exact⟨_,mj p,h1⟩
theorem au(h1:PDS X G st gs)(h2:jA X G sts gt):jA X G (st::sts) (bo gs gt):=by
 obtain⟨t,p,h1⟩:=h1
 obtain⟨u,q,h2⟩:=h2
 refine⟨_,j9 p q,λR0 P0 H0 δ O σ H Dn E k=>?_⟩
 refine h1 R0 P0 H0 δ O σ H _ E (aq (ay k) λo z=>?_)
 cases o with
 | nx δ'=>exact λO' σ' H' E'=>h2 R0 P0 H0 δ' O' σ' H' Dn E' z
 | rt d=>exact z
 | bk δ'=>exact z
 | ct δ'=>exact z
noncomputable def cF(f:DS->M D):DS->M Out:=λδ=>(f δ).thn λd=>M.ret (.rt d)
theorem bu(he:PD X G e f):PDS X G (.Return (some e) pos) (cF f):=by
 obtain⟨t,p,he⟩:=he
 refine⟨_,ui p,λR0 P0 H0 δ O σ H Dn E k=>?_⟩
 exact he δ O σ H _ E.ev (aq (ay k) λd z v H1 s1 r=>z v H1 (λb o n q=>s1 _ _ (E.keep b o n q)) ((E.same s1).less r))
noncomputable def gDrop(f:DS->M D):DS->M Out:=λδ=>(f δ).thn λ_=>M.ret (.nx δ)
noncomputable def gIf(c:DS->M Bool)(g h:DS->M Out):DS->M Out:=λδ=>(c δ).thn λb=>if b=true then g δ else h δ
theorem dl(hc:PDT X G c fb)(h1:jA X G st1 gs)(h2:jA X G st2 gt):PDS X G (.If c st1 st2 pos) (gIf fb gs gt):=by
 obtain⟨t,p,hc⟩:=hc
 obtain⟨u,q,h1⟩:=h1
 obtain⟨w,r,h2⟩:=h2
 refine⟨_,ps_if p q r,λR0 P0 H0 δ O σ H Dn E k=>?_⟩
 refine hc δ O σ H _ E.ev (aq (ay k) λd z H1 s1=>?_)
 cases d with
 | true =>
  exact h1 R0 P0 H0 δ O σ H1 Dn (E.same s1) z
 | false =>
  exact h2 R0 P0 H0 δ O σ H1 Dn (E.same s1) z
noncomputable def uN:DS->M Out:=λ_=>none
theorem ss:PDS X G st uN:=⟨_,yL,λR0 P0 H0 δ O σ H Dn E k=>k.elim⟩
def PDG(X:Cx)(target:Expr)(g:D->DS->Option DS):Prop :=
 ∃t,PG X target t/\∀{Hr:Hp} (R0:List Addr) (P0:Addr->Prop) (H0:Hp) (δ δ':DS) (d:D) (v:V) (O:List Addr) (σ:St) (H:Hp) (Q:St->Hp->Prop),EI X.K Hr R0 P0 H0 O H σ δ->Rep X.K O H v d->g d δ=some δ' ->
  (∀σ' H',EI X.K Hr R0 P0 H0 O H' σ' δ'->aJ H H'->Q σ' H')->t v σ H Q
def Cv(X:Cx)(ts:List Expr)(g:List D->DS->Option DS):Prop :=
 ∃t,PGs X ts t/\∀{Hr:Hp} (R0:List Addr) (P0:Addr->Prop) (H0:Hp) (δ δ':DS) (ds:List D) (vs:List V) (O:List Addr) (σ:St) (H:Hp) (Q:St->Hp->Prop),EI X.K Hr R0 P0 H0 O H σ δ->Reps X.K O H vs ds->g ds δ=some δ' ->
  (∀σ' H',EI X.K Hr R0 P0 H0 O H' σ' δ'->aJ H H'->Q σ' H')->t vs σ H Q
noncomputable def tgN(i:Nat):D->DS->Option DS:=λd δ=>some (δ.set i (.vl d))
theorem bS{i:Nat}(h:PG X e (wb i)):PDG X e (tgN i):=by
 refine⟨_,h,λR0 P0 H0 δ δ' d v O σ H Q E r e k=>?_⟩
 cases e
 exact k _ H (E.set r) (aJ.refl H)
noncomputable def o9:List D->DS->Option DS:=λds δ=>match ds with
 | []=>some δ
 | _=>none
noncomputable def fF(t:D->DS->Option DS)(u:List D->DS->Option DS):List D->DS->Option DS:=λds δ=>match ds with
 | d::r=>(t d δ).bind (u r)
 | []=>none
theorem kh:Cv X [] o9:=by
 refine⟨_,vI,λR0 P0 H0 δ δ' ds vs O σ H Q E r e k=>?_⟩
 cases ds with
 | nil=>cases r;cases e;exact⟨rfl,k σ H E (aJ.refl H)⟩
 | cons d ds=>cases e
theorem dZ{t:D->DS->Option DS}{u:List D->DS->Option DS}(h1:PDG X e t)(h2:Cv X es u)
  (hs:(assignEach (e::es) X.env).map (·.2)=assign e X.env::(assignEach es X.env).map (·.2):=by rfl):Cv X (e::es) (fF t u):=by
 obtain⟨t1,p1,h1⟩:=h1
 obtain⟨t2,p2,h2⟩:=h2
 refine⟨_,si p1 p2 hs,λR0 P0 H0 δ δ' ds vs O σ H Q E r e k=>?_⟩
 cases ds with
 | nil=>cases e
 | cons d ds =>
  cases r with
  | @cons v _ vs _ r rs =>
   have e:(t d δ).bind (u ds)=some δ':=e
   cases e1:t d δ with
   | none=>simp_all
   | some δ1 =>
    rw[e1] at e
    refine⟨v,vs,rfl,h1 R0 P0 H0 δ δ1 d v O σ H _ E r e1 λσ1 H1 E1 s1=>?_⟩
    exact h2 R0 P0 H0 δ1 δ' ds vs O σ1 H1 Q E1 (rs.same s1) e λσ2 H2 E2 s2=>k σ2 H2 E2 (s1.trans s2)
noncomputable def mF(n:Nat)(u:List D->DS->Option DS):D->DS->Option DS:=λd δ=>match d with
 | .tuple ds=>if ds.length=n then u ds δ else none
 | _=>none
theorem mn{k:Nat}{u:List D->DS->Option DS}{n:Nat}(hc:X.calm=true)(h:Cv X es u)
  (hn:(assignEach es X.env).length=n:=by rfl) (hst:(assignEach es X.env).findIdx? (·.1)=none:=by rfl):PDG X (.Tuple es k pos) (mF n u):=by
 obtain⟨t,p,h⟩:=h
 refine⟨_,yP hc p hn hst,λR0 P0 H0 δ δ' d v O σ H Q E r e k=>?_⟩
 cases d with
 | tuple ds =>
  have e:(if ds.length=n then u ds δ else none)=some δ':=e
  by_cases hl:ds.length=n
  ·rw[if_pos hl] at e
   obtain⟨a,xs,rfl,h1,rs⟩:=r.tup_inv
   exact⟨a,xs,rfl,h1,by rw[rs.length];exact hl,h R0 P0 H0 δ δ' ds xs O σ H Q E rs e k⟩
  simp_all
 | _=>cases e
noncomputable def ci(f:DS->M D)(g:D->DS->Option DS):DS->M Out:=λδ=>(f δ).thn λd=>(M.lift (g d δ)).thn λδ'=>M.ret (.nx δ')
theorem uq{tg:Expr}{g:D->DS->Option DS}(he:PD X G e f)(hg:PDG X tg g)(hs:swapsWithSole [tg] e pos.line X.env=pure false:=by rfl)(hw:swappedStores [tg] e X.env=pure none:=by rfl)
  (h1:(assignEach [tg] X.env).map (·.2)=[assign tg X.env]:=by rfl):PDS X G (.Assign [tg] e pos) (ci f g):=by
 obtain⟨t,p,he⟩:=he
 obtain⟨u,q,hg⟩:=hg
 refine⟨_,ps_asg p q hs hw h1,λR0 P0 H0 δ O σ H Dn E k=>?_⟩
 refine he δ O σ H _ E.ev (aq (ay k) λd z v H1 s1 r=>?_)
 obtain⟨δ',hd,z⟩:=cN (ay z)
 exact hg R0 P0 H0 δ δ' d v O σ H1 _ (E.same s1) r hd λσ' H' E' _=>z O σ' H' E'
theorem bz{i:Nat}{x:Str}{pos':Pos}(hN:X.N.Nodup)(hi:X.N[i]?=some x)(hx:Loc X.env.scope x)(he:PD X G e f)(hs:swapsWith e (some (.Name x pos')) pos.line X.env=pure false:=by rfl)(hf:X.fn x=true\/X.env.scope.names.lookup x=some .local:=by first | exact .inl rfl | exact .inr rfl | assumption) :
  PDS X G (.Assign [.Name x pos'] e pos) (ci f (tgN i)):=by
 obtain⟨t,p,he⟩:=he
 refine⟨_,uh hN hi hx p hs hf,λR0 P0 H0 δ O σ H Dn E k=>?_⟩
 refine he δ O σ H _ E.ev (aq (ay k) λd z v H1 s1 r=>?_)
 obtain⟨δ',hd,z⟩:=cN (ay z)
 cases hd
 exact z O _ H1 ((E.same s1).set r)
noncomputable def ib(body:D->DS->M Out):List D->DS->M Out
 | [],δ=>M.ret (.nx δ)
 | x::xs,δ=>(body x δ).thn λo=>match o with
  | .nx δ'=>ib body xs δ'
  | .ct δ'=>ib body xs δ'
  | .bk δ'=>M.ret (.nx δ')
  | .rt d=>M.ret (.rt d)
noncomputable def gS(t:D->DS->Option DS)(g:DS->M Out):D->DS->M Out:=λd δ=>(M.lift (t d δ)).thn g
noncomputable def seqD:D->Option (List D)
 | .list ds=>some ds
 | .tuple ds=>some ds
 | _=>none
noncomputable def iSeq(K:ε)(tl:TE):TI:=λσ H R=>tl σ H λx H1=>∃a,x=.ref a/\(((∃xs,SqL K H1 a xs)/\R (Itl K a) H1)\/((∃xs,SqT K H1 a xs)/\R (Itt K a) H1))
theorem pi_seq{tg l:Expr}{tl:TE}(hl:PE X l tl):PI X tg l (iSeq X.K tl):=by
 intro pins s σ H R I h
 refine thn (hl pins s σ H _ I h) λv s1 ⟨x,H1,I1,r1,q1⟩=>?_
 obtain⟨a,e,q⟩:=q1
 subst e
 cases r1
 rcases q with ⟨⟨xs,hq⟩,q⟩ | ⟨⟨xs,hq⟩,q⟩
 ·obtain⟨its,rv,p,hz⟩:=I1.list hq
  refine wpAny_pyIter_list p.isList ?_
  refine⟨s1.heap.objs.size,[s1.heap.objs.size],_,_,H1,rfl,I1.kept λb o e=>Heap.get?_push_of_some _ e,wN a _,⟨_,Heap.get?_push_size _ rfl,rfl,rfl⟩,λb hb=>?_,q⟩
  have e:b=s1.heap.objs.size:=by simp_all
  subst e
  exact I1.fpOk (ο _) (I1.hok.fresh (ο _))
 ·obtain⟨its,rv,p,hz⟩:=I1.tuple hq
  refine wpAny_pyIter_tuple (show s1.heap.IsTuple a its.toArray from p) ?_
  refine⟨s1.heap.objs.size,[s1.heap.objs.size],_,_,H1,rfl,I1.kept λb o e=>Heap.get?_push_of_some _ e,tL a _,⟨_,Heap.get?_push_size _ rfl,rfl,rfl⟩,λb hb=>?_,q⟩
  have e:b=s1.heap.objs.size:=by simp_all
  subst e
  exact I1.fpOk (ο _) (I1.hok.fresh (ο _))
def Ch(O R0:List Addr)(l:Addr):Prop:=l∈O/\l∉R0
theorem EI.noCh(E:EI K Hr R0 P0 H0 O H σ δ){b:Addr}{o:HO}(n:¬P0 b)(h:H0 b=some o):¬Ch O R0 b:=λ⟨z1,z2⟩=>by
 rcases E.om b z1 with q | q | q
 all_goals simp_all
theorem EI.inner(E:EI K Hr R0 P0 H0 O H σ δ):EI K Hr R0 (Ch O R0) H O H σ δ :=
 ⟨E.ev,E.omr,λb o _ h=>h,λl hl=>(Classical.em (l∈R0)).elim .inl λn=>.inr (.inl ⟨hl,n⟩),E.nr1,E.sub⟩
theorem EI.outer{O1:List Addr}{H1:Hp}{σ1:St}{δ1:DS}(E:EI K Hr R0 P0 H0 O H σ δ)(E1:EI K Hr R0 (Ch O R0) H O1 H1 σ1 δ1):EI K Hr R0 P0 H0 O1 H1 σ1 δ1:=by
 refine⟨E1.ev,E1.omr,λb o n h=>E1.keep b o (E.noCh n h) (E.keep b o n h),λl hl=>?_,E1.nr1,E1.sub⟩
 rcases E1.om l hl with q | q | q
 ·simp_all
 ·exact E.om l q.1
 ·refine .inr ?_
  by_cases hp:P0 l
  ·simp_all
  ·cases e:H0 l with
   | none=>simp
   | some o =>
    rw[E.keep l o hp e] at q
    cases q
theorem Fin.outer{Dn:Ends}(E:EI K Hr R0 P0 H0 O H σ δ){o:Out}(h:Fin K Hr R0 P0 H0 Dn o):Fin K Hr R0 (Ch O R0) H Dn o:=by
 cases o with
 | nx δ1=>exact λO1 σ1 H1 E1=>h O1 σ1 H1 (E.outer E1)
 | bk δ1=>exact λO1 σ1 H1 E1=>h O1 σ1 H1 (E.outer E1)
 | ct δ1=>exact λO1 σ1 H1 E1=>h O1 σ1 H1 (E.outer E1)
 | rt d=>exact λv H1 kp r=>h v H1 (λb o n q=>kp b o (E.noCh n q) (E.keep b o n q)) r
theorem EI.to{O1:List Addr}{H1:Hp}{σ1:St}{δ1:DS}(E:EI K Hr R0 P0 H0 O H σ δ)(E1:EI K Hr R0 (Ch O R0) H O1 H1 σ1 δ1):To O O1 H H1:=by
 have nt:∀{b:Addr} {o:HO},(∀xs,o≠.lst xs)->(∀xs,o≠.dK xs)->(∀C dx fs,o≠.ins C dx fs)->H b=some o->¬Ch O R0 b:=λ{b o} ho ho2 ho3 h z=>by
  rcases E.ev.oo b z.1 with ⟨ys,hl⟩ | ⟨ys,hl⟩ | ⟨C,dx,fs,hl⟩
  all_goals grind
 have kp:∀{b:Addr} {o:HO},b∉O->Rd H b o->b∉O1/\Rd H1 b o:=λ{b o} n h=>by
  refine⟨λz=>?_,?_⟩
  ·rcases E1.om b z with q | q | q
   ·exact n (E.sub b q)
   ·exact n q.1
   ·rcases h with h | ⟨u,h⟩
    all_goals simp_all
  ·rcases h with h | ⟨u,h⟩
   ·exact .inl (E1.keep _ _ (λz=>n z.1) h)
   ·exact .inr ⟨u,E1.keep _ _ (λz=>n z.1) h⟩
 refine⟨λb xs h=>?_,λb xs n h=>kp n h,λb xs n h=>kp n h,λb C dx fs n h=>⟨(kp n (.inl h)).1,E1.keep _ _ (λz=>n z.1) h⟩⟩
 ·rcases h with h | ⟨u,h⟩
  ·exact .inl (E1.keep _ _ (nt (λ_ z=>by cases z) (λ_ z=>by cases z) (λ_ _ _ z=>by cases z) h) h)
  ·exact .inr ⟨u,E1.keep _ _ (nt (λ_ z=>by cases z) (λ_ z=>by cases z) (λ_ _ _ z=>by cases z) h) h⟩
theorem nY{ds:List D}{i:Nat}{d:D}(h:ds[i]?=some d):ds.drop i=d::ds.drop (i+1):=by
 obtain⟨hl,e⟩:=Z4.mp h
 rw[List.drop_eq_getElem_cons hl,e]
noncomputable def fX(lo:Int)(n:Nat):List D:=(List.range n).map λ(i:Nat)=>Θ (lo+(i:Int))
noncomputable def b62(j:Int):Bool:=decide (-4611686018427387904<=j/\j<4611686018427387904)
noncomputable def qy:List D->Option (List D)
 | [.int j]=>if b62 j=true then some (fX 0 j.toNat) else none
 | _=>none
theorem b62_of{j:Int}(h:b62 j=true) : -(2 ^ 62)<=j/\j<2 ^ 62:=by
 have e62:(2:Int) ^ 62=4611686018427387904:=by decide
 exact of_decide_eq_true h
end
noncomputable def spD(K:ε)(n:Nat)(F:List D->M D):Sp:=λvs H Q _=>∃O ds,vs.length=n/\(∀l∈O,Mu H l)/\Reps K O H vs ds/\ok (λ_=>False) (F ds) (λd=>∀v H',aJ H H'->Rep K O H' v d->Q v H')
structure Def(P:Program)(w:World)(K:ε)(mg:Str->Option Value)(base:Heap)(k:Nat)(x:Str)(n:Nat)(F:List D->M D):Prop where
 ex:∃(f:Addr) (fd:FuncData) (ps:List Str),FnOk P w K mg base CX0 k f fd ps (spD K n F)/\mg x=some (.ref f)/\ξ K (.ref f)=true/\cY K fd ps []
noncomputable def br(F:List D->M D)(fa:DS->M (List D)):DS->M D:=λδ=>(fa δ).thn F
section
variable{X:Cx}{G:XD->Hp->Prop}{a b c e:Expr}{es rest:List Expr}{f g h:DS->M D}{fb gb:DS->M Bool}{fa:DS->M (List D)}{pos:Pos}
theorem ng{α:Type}{G:XD->Prop}{r:M α}{k:α->Prop}(h:ok (λ_=>False) r k):ok G r k:=by
 match r,h with
 | some (.ok a),h=>exact h
noncomputable def noX{α:Type}(r:M α):M α:=match r with
 | some (.error _)=>none
 | r=>r
theorem jI{α:Type}{G:XD->Prop}{r:M α}{k:α->Prop}(h:ok G (noX r) k):ok (λ_=>False) r k:=by
 match r,h with
 | some (.ok a),h=>exact h
theorem bd{k n:Nat}{x:Str}{p:Pos}{F:List D->M D}(h:Def X.prog X.w X.K X.mg X.base k x n F)(hr:Room k X.A)(hg:Gl X x)(hn:(e::es).length=n)(ha:PDA X G (e::es) fa)
  (hdb:(x==("__debug__" : Str))=false:=by decide) (he:starEach (e::es) X.env=(false,eval e X.env)::starEach es X.env:=by rfl) (hpl:(backTo pos (starEach es X.env)).any (·.1)=false:=by rfl) :
  PD X G (.Call (.Name x p) (e::es) [] pos) (br (λds=>noX (F ds)) fa):=by
 obtain⟨f,fd,ps,F1,hm,hk,hb⟩:=h.ex
 obtain⟨hl,t,pa,ha⟩:=ha
 refine⟨_,ke F1 hr hg hm hk hb .nil vN pa hdb he hpl,λδ O σ H Q E k=>?_⟩
 have k1:=ay k
 refine ha δ O σ H _ E ?_
 cases e1:fa δ with
 | none=>rw[e1] at k1;assumption
 | some r =>
  rw[e1] at k1
  cases r with
  | error x=>exact k1
  | ok ds =>
   refine λvs H1 s1 rs=>?_
   refine⟨O,ds,?_,(E.same s1).oo,?_,aq (jI k1) λd z v H2 s2 r=>z v H2 (s1.trans s2) r⟩
   ·rw[Λ,rs.length,hl δ ds e1]
    exact hn
   simp_all
end
noncomputable def dg(n:Nat)(ds:List D):DS:=ds.map Sl.vl++Z5 (n-ds.length) Sl.un
noncomputable def endD(o:Out):M D:=match o with
 | .rt d=>M.ret d
 | .nx _=>M.ret .none
 | _=>none
noncomputable def run(n:Nat)(g:DS->M Out)(ds:List D):M D:=(g (dg n ds)).thn endD
section
variable{P:Program}{w:World}{K:ε}{mg:Str->Option Value}{base:Heap}
theorem mH{n i:Nat}{ds:List D}{s:Sl}(h1:(dg n ds)[i]?=some s)(ho:s.own):False:=by
 unfold dg at h1
 by_cases hi:i<ds.length
 ·rw[X9 (by simp_all),Φ] at h1
  cases e:ds[i]? with
  | none=>simp_all
  | some d=>rw[e] at h1;cases h1;exact ho
 ·rw[Z8 (by simp_all),V3] at h1
  split at h1
  ·cases h1;exact ho
  simp_all
theorem nR{O:List Addr}{H:Hp}{vs:List V}{ds:List D}(N:List Str)(oo:∀l∈O,Mu H l)(r:Reps K O H vs ds):Ev K H O H (L2.start N vs) (dg N.length ds):=by
 have get:∀(i:Nat) (s:Sl),(dg N.length ds)[i]?=some s->(∃d,ds[i]?=some d/\s=.vl d)\/s=.un:=λi s h=>by
  unfold dg at h
  grind
 refine⟨aJ.refl H,oo,?_,λi s h=>?_,λi j l es fs hij h1 h2 h3=>?_⟩
 ·unfold L2.start dg
  simp [r.length]
 ·rcases get i s h with ⟨d,hd,rfl⟩ | rfl
  ·obtain⟨v,hv,rd⟩:=r.get hd
   refine⟨v,?_,rd⟩
   unfold L2.start
   grind
  ·trivial
 grind
theorem Ae{x qual:Str}{st:Stmt}{f:Addr}{fd:FuncData}{N ps:List Str}{k:Nat}{g:DS->M Out}(F0:Fun K x qual st f fd)(S:FnScope N ps (af st))
  (hbody:∀(cdv:Value) (A:Around) (outer:List Env) (s:Shared) (H:Hp) (E:XK),Room k (A.deeper (envOfC qual (af st) s.heap.objs.size f cdv)) ->
   jA (et CX0 P w K mg base N qual (af st) f cdv A outer s H E).nox (λ_ _=>False) (aB st) g):FnOk P w K mg base CX0 (k+1) f fd ps (spD K ps.length (run N.length g)):=by
 refine F0.ok S (λvs H Q E h=>?_) (λcdv A outer s H vs Q E hr h=>?_)
 ·obtain⟨O,ds,hl,_⟩:=h
  exact hl
 ·obtain⟨O,ds,hl,oo,r,q⟩:=h
  obtain⟨t,p,hB⟩:=hbody cdv A outer s H E hr
  refine⟨t,p,hB O (λ_=>False) H (dg N.length ds) O (L2.start N vs) H _ ⟨nR N oo r,λl hl=>.inl hl,λb o _ h=>h,λl hl=>.inl hl,λi es l h1 ho h2=>?_,λl hl=>hl⟩ (aq (ng (ay q)) λo z=>?_)⟩
  ·exact(mH h1 ho).elim
  ·cases o with
   | rt d=>exact λv H' kp r=>z v H' (λb o h=>kp b o (λw=>w) h) r
   | nx δ=>exact λO' σ' H' E'=>z .non H' (λb o h=>E'.keep b o (λw=>w) h) .non
   | bk δ=>exact z.elim
   | ct δ=>exact z.elim
theorem b8{x qual:Str}{st:Stmt}{f:Addr}{fd:FuncData}{N ps:List Str}{k:Nat}{g:DS->M Out}(F0:Fun K x qual st f fd)(S:FnScope N ps (af st))(hm:mg x=some (.ref f))(hb:cY K fd ps [])
  (hbody:∀(cdv:Value) (A:Around) (outer:List Env) (s:Shared) (H:Hp) (E:XK),Room k (A.deeper (envOfC qual (af st) s.heap.objs.size f cdv)) ->
   jA (et CX0 P w K mg base N qual (af st) f cdv A outer s H E).nox (λ_ _=>False) (aB st) g):Def P w K mg base (k+1) x ps.length (run N.length g) :=
 ⟨f,fd,ps,Ae F0 S hbody,hm,F0.kp,hb⟩
noncomputable def spLaw(K:ε):Sp:=λvs H Q _=>∃(a:Addr) (ns:List Int),vs=[.ref a]/\SqL K H a (ns.map V.int)/\ns.length<=63/\∀H',Q (.bl true) H'
theorem law_sp{F:List D->M D}(hF:∀ns:List Int,ns.length<=63->F [.list (ns.map Θ)]=M.ret (.bool true))(vs:List V)(H:Hp)(Q:VK)(E:XK)(h:spLaw K vs H Q E):spD K 1 F vs H Q E:=by
 obtain⟨a,ns,rfl,hS,hl,k⟩:=h
 refine⟨[],[.list (ns.map Θ)],rfl,(λl z=>nomatch z),.cons ?_ .nil,?_⟩
 ·rcases hS with hS | hS
  ·exact .lst hS (λz=>nomatch z) (Reps.ints ns)
  ·exact .lstK hS (Reps.ints ns)
 ·rw[hF ns hl]
  intro v H' s r
  rw[r.bool_inv]
  simp_all
theorem walk{l:PySem.W.OpenLaw}{q:Program}{loose:List Str}{XP:(Str->Option Value)->Heap->Prop}{YP:World->Heap->Prop}{d:DefRec}{K:Params->ε}{k:Nat}{F:List D->M D}{x:Str}(hn:l.most=some 63)(hdf:d.params.defaults=[])
  (hF:∀ns:List Int,ns.length<=63->F [.list (ns.map Θ)]=M.ret (.bool true)) (hr:Room k callerA)
  (hY:∀(w:World) (h:Heap),YP w h->(K w.params).In h)
  (T:∀(w:World) (mg:Str->Option Value) (fa:Addr) (h:Heap),(K w.params).In h->h.Ns mainGlobals mg->mg d.name=some (.ref fa) ->
   ∃fd:FuncData,(∀(s:Shared) (u:Value),BindsTo s fd ⟨[u],[]⟩ [(x,u)])/\∀base:Heap,(K w.params).In base->base.Ns mainGlobals mg->FnOk l.prog w (K w.params) mg base CX0 k fa fd [x] (spD (K w.params) 1 F)) :
  PySem.W.WalkO q loose XP YP l.row.toRowW d [] (λf vs=>PySem.call f vs) :=
 L2.A1 (n:=63) (k:=k) (x:=x) (CX:=λ_=>CX0) (sp:=λw=>spD (K w.params) 1 F) hn (by decide) hdf hr hY T (λw H a ns hl _ hS=>law_sp hF _ _ _ _ ⟨a,ns,rfl,hS,hl,λ_=>rfl⟩) λ_ _ _ _ _ z=>z
end
end DL
namespace DL
open L2
section
variable{δ δ':DS}{f g:DS->M D}{fb gb:DS->M Bool}{fa:DS->M (List D)}{gs gt g1 g2:DS->M Out}{d x y:D}{b b1 b2:Bool}{ds xs:List D}{i j:Int}{r:M Out}{o:Out}
theorem ad{n:Nat}(h:δ[n]?=some (.vl d)):aj n δ=M.ret d:=by unfold aj;rw[h]
theorem ao:dC d δ=M.ret d:=rfl
theorem av{h:D->D->Option D}(h1:f δ=M.ret x)(h2:g δ=M.ret y)(h3:h x y=some d):d2 h f g δ=M.ret d:=by
 unfold d2;rw[h1,aR,h2,aR,h3];rfl
theorem ev_1{h:D->Option D}(h1:f δ=M.ret x)(h3:h x=some d):d1 h f δ=M.ret d:=by
 unfold d1;rw[h1,aR,h3];rfl
theorem kr:b5 (.int i) (.int j)=some (.int (i+j)):=rfl
theorem vR(h:AS i j=true):oV (.int i) (.int j)=some (.int (i*j)):=if_pos h
theorem iR(h:bDiv j=true):iT (.int i) (.int j)=some (.int (i / j)):=if_pos h
theorem cG(h:0<j):di (.int i) (.int j)=some (.int (i % j)):=if_pos (decide_eq_true h)
theorem sB:oLt (.int i) (.int j)=some (.bool (decide (i<j))):=rfl
theorem o_gt:oGt (.int i) (.int j)=some (.bool (decide (j<i))):=rfl
theorem zp:zu (.int 10) (.int 6)=some (.int 1000000):=rfl
theorem zt:gE [.list ds]=some (.int ds.length):=rfl
theorem zr:gE [.tuple ds]=some (.int ds.length):=rfl
theorem sC:oEq (.int i) (.int j)=some (.bool (decide (i=j))):=by
 rfl
theorem o_ne:oNe (.int i) (.int j)=some (.bool (!decide (i=j))):=by
 rfl
theorem AR(h1 : -18446744073709551616<i)(h2:i<18446744073709551616):AS i j=true:=decide_eq_true (.inl ⟨h1,h2⟩)
theorem wG(h1:0<j)(h2:j<1267650600228229401496703205376):bDiv j=true:=decide_eq_true ⟨h1,h2⟩
theorem bQ(h:f δ=M.ret (.bool b)):dB f δ=M.ret b:=by unfold dB;rw[h];rfl
theorem b7(h:fb δ=M.ret b):ja fb δ=M.ret (!b):=by unfold ja;rw[h];rfl
theorem uU(h1:fb δ=M.ret b1)(h2:gb δ=M.ret b2):oj fb gb δ=M.ret (b1&&b2):=by
 unfold oj;rw[h1,aR,h2];grind
theorem pU(h1:fb δ=M.ret b1)(h2:gb δ=M.ret b2):dOr fb gb δ=M.ret (b1||b2):=by
 unfold dOr;rw[h1,aR,h2];grind
theorem B9(h1:fb δ=M.ret true):dOr fb gb δ=M.ret true:=by unfold dOr;rw[h1];rfl
theorem wk(h1:fb δ=M.ret false)(h2:gb δ=M.ret b):dOr fb gb δ=M.ret b:=by unfold dOr;rw[h1,aR,if_neg Z0];exact h2
theorem Ao(h1:fb δ=M.ret false):oj fb gb δ=M.ret false:=by unfold oj;rw[h1];rfl
theorem Am(h1:fb δ=M.ret true)(h2:gb δ=M.ret b):oj fb gb δ=M.ret b:=by unfold oj;rw[h1,aR,if_pos rfl];exact h2
theorem wl(h:f δ=M.ret (.bool b)):sZ f δ=M.ret (.bool (!b)):=by unfold sZ;rw[bQ h];rfl
theorem eX(h1:f δ=M.ret (.bool b1))(h2:g δ=M.ret (.bool b2)):dG f g δ=M.ret (.bool (b1&&b2)):=by
 unfold dG;rw[bQ h1,aR,h2];grind
theorem pV(h1:f δ=M.ret (.bool false)):dG f g δ=M.ret (.bool false):=by unfold dG;rw[bQ h1];rfl
theorem jq(h1:f δ=M.ret (.bool true))(h2:g δ=M.ret d):dG f g δ=M.ret d:=by unfold dG;rw[bQ h1,aR,if_pos rfl];exact h2
theorem gM{T:String}(h:f δ=M.ret d)(hi:sE d=true:=by rfl):dIs T f δ=M.ret (.bool (isD T d)):=by unfold dIs;rw[h,aR,if_pos hi]
theorem ak:az δ=M.ret []:=rfl
theorem ae(h1:f δ=M.ret x)(h2:fa δ=M.ret xs):ai f fa δ=M.ret (x::xs):=by unfold ai;rw[h1,aR,h2];rfl
theorem jN(h:fa δ=M.ret ds)(hz:aN ds.length=true):oi fa δ=M.ret (.tuple ds):=by unfold oi;rw[h,aR,if_pos hz]
theorem gr(h:fa δ=M.ret ds)(hz:aN ds.length=true):lE fa δ=M.ret (.list ds):=by unfold lE;rw[h,aR,if_pos hz]
theorem cj{h:List D->Option D}(h1:fa δ=M.ret ds)(h2:h ds=some d):dCB h fa δ=M.ret d:=by unfold dCB;rw[h1,aR,h2];rfl
theorem aQ{F:List D->M D}(h1:fa δ=M.ret ds)(h2:F ds=M.ret d):br (λds=>noX (F ds)) fa δ=M.ret d:=by
 unfold br;rw[h1,aR,h2];rfl
theorem qW(h:f δ=M.ret (.int i)):p5 f δ=M.ret (some i):=by unfold p5;rw[h];rfl
theorem Ak(h1:fb δ=M.ret b){r:M D}(h2:(if b=true then f δ else g δ)=r):dIf fb f g δ=r:=by unfold dIf;rw[h1];exact h2
theorem aK(h1:gs δ=M.ret (.nx δ'))(h2:gt δ'=r):bo gs gt δ=r:=by unfold bo;rw[h1];exact h2
theorem jm(h1:gs δ=M.ret (.rt d)):bo gs gt δ=M.ret (.rt d):=by unfold bo;rw[h1];rfl
theorem gL(h1:fb δ=M.ret b)(h2:(if b=true then bo g1 gt δ else bo g2 gt δ)=r):bo (gIf fb g1 g2) gt δ=r:=by
 unfold bo gIf;rw[h1,aR];unfold bo at h2;grind
theorem uT(h1:fb δ=M.ret b)(h2:(if b=true then g1 δ else g2 δ)=r):gIf fb g1 g2 δ=r:=by unfold gIf;rw[h1];exact h2
theorem qV(h:gt δ=r):bo dF gt δ=r:=h
theorem bh{n:Nat}(h:f δ=M.ret d):ci f (tgN n) δ=M.ret (.nx (δ.set n (.vl d))):=by unfold ci;rw[h];rfl
theorem mw{t:D->DS->Option DS}(h:f δ=M.ret d)(h2:t d δ=some δ'):ci f t δ=M.ret (.nx δ'):=by unfold ci;rw[h,aR,h2];rfl
theorem bA(h:f δ=M.ret d):cF f δ=M.ret (.rt d):=by unfold cF;rw[h];rfl
theorem bv{n:Nat}(h:gs (dg n ds)=M.ret (.rt d)):run n gs ds=M.ret d:=by unfold run;rw[h];rfl
theorem sO{α:Type}{A B r:α}{b:Bool}(h:b=true)(k:A=r):(if b=true then A else B)=r:=by simp_all
theorem vX{α:Type}{A B r:α}{b:Bool}(h:b=false)(k:B=r):(if b=true then A else B)=r:=by simp_all
theorem ig{t:D->DS->Option DS}(h1:t d δ=some δ')(h2:gs δ'=r):gS t gs d δ=r:=by unfold gS;rw[h1];exact h2
theorem ix_in{ds:List D}{i:Int}(h0:0<=i)(h1:i<ds.length):∃d,d∈ds/\oIx (.list ds) (.int i)=some d:=by
 have hl:i.toNat<ds.length:=by omega
 refine⟨ds[i.toNat],List.getElem_mem hl,?_⟩
 show L2.atI ds i=_
 unfold L2.atI L2.ixN
 simp_all
end
end DL
namespace L2
open PyProof.Rows
section
variable{X:Cx}
end
end L2
namespace DL
open PyProof.Rows L2
def tD(K:ε)(G:XD->Hp->Prop)(f:DS->M D):TE:=λσ H Q=>∃Hr δ O,Ev K Hr O H σ δ/\ok (GS G Hr) (f δ) (λd=>∀v H',aJ H H'->Rep K O H' v d->Q v H')
theorem PD.can{X:Cx}{G:XD->Hp->Prop}{e:Expr}{f:DS->M D}(h:PD X G e f):PE X e (tD X.K G f):=by
 obtain⟨t,p,h⟩:=h
 intro pins s σ H Q I hw
 obtain⟨Hr,δ,O,E,k⟩:=hw
 exact p pins s σ H Q I (h δ O σ H Q E k)
section
variable{K:ε}{G:XD->Prop}{f:DS->M D}
def Kp(l:Addr)(H H':Hp):Prop:=∀b o,b≠l->H b=some o->H' b=some o
theorem Kp.to{O:List Addr}{H H':Hp}{l:Addr}(k:Kp l H H')(hl:H l=none):To O (l::O) H H':=by
 have rd:∀{b:Addr} {o:HO},Rd H b o->Rd H' b o:=λ{b o} h=>by
  have hb:=Rd.ne_new h hl
  rcases h with h | ⟨u,h⟩
  ·exact .inl (k _ _ hb h)
  ·exact .inr ⟨u,k _ _ hb h⟩
 have no:∀{b:Addr} {o:HO},b∉O->Rd H b o->b∉l::O:=λ{b o} n h z=>by
  rcases Δ.mp z with z | z
  ·exact Rd.ne_new h hl z
  simp_all
 exact⟨λb xs h=>rd h,λb xs n h=>⟨no n h,rd h⟩,λb xs n h=>⟨no n h,rd h⟩,λb C dx fs n h=>⟨no n (.inl h),k _ _ (aU h hl) h⟩⟩
theorem Kp.same{H H':Hp}{l:Addr}(k:Kp l H H')(hl:H l=none):aJ H H':=λb o e=>k b o (aU e hl) e
end
section
variable{X:Cx}{G:XD->Hp->Prop}{fi f:DS->M D}
noncomputable def gR:List D->Option (List Bool)
 | []=>some []
 | .bool b::r=>(gR r).map (b :: ·)
 | _=>none
theorem p9:∀{ds:List D} {bs:List Bool},gR ds=some bs->ds=bs.map Y2
 | [],bs,h=>by cases h;rfl
 | .bool b::r,bs,h=>by
  have h:(gR r).map (b :: ·)=some bs:=h
  cases e:gR r with
  | none=>simp_all
  | some cs=>rw[e] at h;cases h;rw[p9 e];rfl
theorem mX{K:ε}{O:List Addr}{H:Hp}:∀{bs:List Bool} {vs:List V},Reps K O H vs (bs.map Y2)->vs=bs.map V.bl
 | [],_,.nil=>rfl
 | b::bs,_,.cons r rs=>by rw[r.bool_inv,mX rs];rfl
theorem xU(hc:X.calm=true):eF X (.builtin "all") (λxs H Q=>∃(p:Addr) (bs:List Bool),xs=[.ref p]/\SqL X.K H p (bs.map V.bl)/\Q (.bl (bs.all id)) H):=by
 intro pins s σ H xs us Q I r h
 obtain⟨l,bs,rfl,hq,q⟩:=h
 obtain⟨u,rfl,rx⟩:=fu r
 cases rx
 obtain⟨its,rv,pl,hz⟩:=I.list hq
 have hl:=pl.isList
 have hlt:l<s.heap.objs.size:=by obtain⟨_,e,_⟩:=hl;exact Heap.lt_size e
 have hlen:its.length=bs.length:=by rw[<-rv.length,ι]
 refine call_all_walk (wpAny_pyIter_list hl ?_)
 refine⟨s.heap.objs.size,[s.heap.objs.size,l],[s.heap.objs.size],its.toArray.size,_,_,λi=>(bs[i]?).getD true,rfl,Walks.list (A:=X.A.in1) (I.ok.hd hc) _ l (Z9 hlt) its.toArray,
  ⟨⟨_,Heap.get?_push_size _ rfl,rfl,rfl⟩,hl.push _⟩,λi v s' Q' E' hP hQ=>?_,λh' tk hk=>?_⟩
 ·have hv:its[i]?=some v:=by simp_all
  have hi:i<bs.length:=by grind
  obtain⟨w',e1,e2⟩:=rv.get (i:=i) (x:=V.bl bs[i]) (by simp)
  rw[hv] at e1
  cases e1
  cases (show v=Value.bool bs[i] from e2)
  dsimp only at hQ
  rw[Z7 hi] at hQ
  exact wpAny_truthy_bool hQ
 ·have e:((List.range its.toArray.size).all λi=>(bs[i]?).getD true)=bs.all id:=by
   rw[List.size_toArray,hlen];exact LSm.range_all bs
  rw[e]
  exact⟨.bl _,H,I.kept λb o e=>LSm.kept_iter hk b o e,rfl,q⟩
noncomputable def sD:List D->Option D
 | [.list ds]=>(gR ds).map λbs=>.bool (bs.all id)
 | _=>none
theorem jt(hc:X.calm=true):lT X (.builtin "all") sD:=by
 refine⟨_,xU hc,λO H ds d vs Q oo rs e k=>?_⟩
 unfold sD at e
 split at e
 ·rename_i es
  cases e1:gR es with
  | none=>simp_all
  | some bs =>
   rw[e1] at e
   cases e
   obtain⟨v,rfl,r⟩:=d8 rs
   obtain⟨p,xs,rfl,h1,rx⟩:=r.lst_inv
   rw[p9 e1] at rx
   rw[mX rx] at h1
   exact⟨p,bs,rfl,h1,k _ H (aJ.refl H) (.bl _)⟩
 simp_all
end
section
variable{δ:DS}{fi f:DS->M D}{x y:D}{ds ys:List D}
end
end DL
namespace L2
open PyProof.Rows
section
variable{X:Cx}
end
end L2
namespace DL
open PyProof.Rows L2
noncomputable def mJ(δ:DS)(j:Nat):Sl:=match δ[j]? with
 | some (.vl d)=>.vl d
 | _=>.un
section
variable{K:ε}{G:XD->Prop}{f:DS->M D}
end
section
variable{X:Cx}{G:XD->Hp->Prop}{fi f:DS->M D}
end
section
variable{δ:DS}{fi f:DS->M D}{x:D}{ds ys:List D}{js:List Nat}
end
end DL
namespace DL
open PyProof.Rows L2
section
variable{X:Cx}{G:XD->Hp->Prop}{a b c e:Expr}{f:DS->M D}{pos pos':Pos}{sts:List Stmt}{gs:DS->M Out}
variable{K:ε}{Hr:Hp}{R0:List Addr}{P0:Addr->Prop}{H0 H H':Hp}{O:List Addr}{σ:St}{δ:DS}
theorem Cs.to{O':List Addr}{o:Option (Option V)}{s:Sl}(t:To O O' H H')(hd:∀l kvs,l∈O->H l=some (.dK kvs)->l∈O'/\H' l=some (.dK kvs))(hs:∀l xs,l∈O->H l=some (.lst xs)->o=some (some (.ref l))->(∃ds,s=.ow ds)->l∈O'/\H' l=some (.lst xs))(h:Cs K O H o s):Cs K O' H' o s:=by
 cases s with
 | un=>trivial
 | ex a=>exact h
 | vl d =>
  obtain⟨v,h1,r⟩:=h
  exact⟨v,h1,r.to t⟩
 | ow ds =>
  obtain⟨l,xs,h1,h2,h3,r⟩:=h
  obtain⟨q1,q2⟩:=hs l xs h2 h3 h1 ⟨ds,rfl⟩
  exact⟨l,xs,h1,q1,q2,r.to t⟩
 | od es =>
  obtain⟨l,kvs,h1,h2,h3,hk,r⟩:=h
  obtain⟨q1,q2⟩:=hd l kvs h2 h3
  exact⟨l,kvs,h1,q1,q2,hk,r.to t⟩
theorem hd_new{l:Addr}{o:HO}(hl:H l=none):∀a kvs,a∈O->H a=some (.dK kvs)->a∈l::O/\upd H l o a=some (.dK kvs):=λa kvs h1 h2=>⟨ρ _ h1,by rw[upd_ne (aU h2 hl)];exact h2⟩
theorem hd_set{l:Addr}{xs:List V}{o:HO}(hl:H l=some (.lst xs)):∀a kvs,a∈O->H a=some (.dK kvs)->a∈O/\upd H l o a=some (.dK kvs):=λa kvs h1 h2=>⟨h1,by rw[upd_ne (zA h2 hl (by simp))];exact h2⟩
theorem EI.app{i:Nat}{l:Addr}{xs:List V}{ds:List D}{v:V}{d:D}(E:EI K Hr R0 P0 H0 O H σ δ)(hd:δ[i]?=some (.ow ds))(hσ:σ[i]?=some (some (.ref l)))(hl:H l=some (.lst xs))(rx:Reps K O H xs ds)(r:Rep K O H v d) :
  EI K Hr R0 P0 H0 O (upd H l (.lst (xs++[v]))) σ (δ.set i (.ow (ds++[d]))):=by
 obtain⟨l',xs',q1,lO,q3,_⟩:=E.ev.at_ i _ hd
 rw[hσ] at q1
 cases q1
 have tO:To O O H (upd H l (.lst (xs++[v]))):=To.set hl lO
 refine⟨⟨λb o h=>?_,λa ha=>?_,by rw[Y3];exact E.ev.len,λj s h=>?_,λj k a es es' hjk h1 h2 h3=>?_⟩,E.omr,λb o n h=>?_,E.om,λj es a h1 ho h2=>?_,E.sub⟩
 ·have q:=E.ev.root b o h
  have hne:b≠l:=λz=>by
   subst z
   rcases E.omr b lO with w | w
   ·exact E.nr i ds b hd hσ w
   simp_all
  rw[upd_ne hne]
  exact q
 ·by_cases hb:a=l
  ·rw[hb];exact .lst aA
  ·exact(E.ev.oo a ha).upd_ne hb
 ·rw[bH] at h
  by_cases hij:i=j
  ·rw[if_pos hij] at h
   split at h
   ·cases h
    rw[<-hij,hσ]
    exact⟨l,_,rfl,lO,aA,(rx.to tO).append (.cons (r.to tO) .nil)⟩
   simp_all
  ·rw[if_neg hij] at h
   refine(E.ev.at_ j s h).to tO (hd_set hl) λa ys h1 h2 h3 h4=>⟨h1,?_⟩
   obtain⟨es,rfl⟩:=h4
   have hne:a≠l:=λz=>by
    subst z
    exact E.ev.dis i j a ds es hij hd h hσ h3
   rw[upd_ne hne]
   exact h2
 ·have old:∀(j:Nat) (es:List D),(δ.set i (.ow (ds++[d])))[j]?=some (.ow es)->∃es',δ[j]?=some (.ow es'):=λj es h=>by
   grind
  obtain⟨e1,h1⟩:=old j es h1
  obtain⟨e2,h2⟩:=old k es' h2
  exact E.ev.dis j k a e1 e2 hjk h1 h2 h3
 ·have q:=E.keep b o n h
  have hne:b≠l:=λz=>by
   subst z
   rcases E.om b lO with w | w | w
   ·exact E.nr i ds b hd hσ w
   all_goals simp_all
  rw[upd_ne hne]
  exact q
 ·rw[bH] at h1
  by_cases hij:i=j
  ·exact E.nr i ds a hd (by simp_all)
  ·rw[if_neg hij] at h1
   exact E.nr1 j es a h1 ho h2
noncomputable def qS(i:Nat)(f:DS->M D):DS->M Out:=λδ=>match δ[i]? with
 | some (.ow ds)=>(f δ).thn λd=>if aN (ds.length+1) then M.ret (.nx (δ.set i (.ow (ds++[d])))) else none
 | _=>none
theorem yr{n:Nat}(h:aN (n+1)=true):n<sizeLine:=by
 have:=bj h
 omega
theorem qH{i:Nat}{x:Str}{xp apos cpos:Pos}(hv:PE X (.Name x xp) (jG i))(he:PD X G e f)
  (hst:starEach [e] X.env=(false,eval e X.env)::starEach [] X.env:=by rfl)
  (hbase:attributeBase (.Name x xp) "append" X.env (eval (.Name x xp) X.env)=eval (.Name x xp) X.env:=by rfl)
  (hfew:((backTo cpos (starEach [e] X.env)).all (λx=>!x.1)&&(backToKw cpos (keywordEach [] X.env)).all (λx=>x.1.isSome)
   && decide ([e].length+([]:List Keyword).length+(if ([]:List Keyword).isEmpty then 0 else 1)<30))=true:=by rfl)
  (hline:(apos.endLine==cpos.line)=true:=by rfl) (hplain:(backTo cpos (starEach [] X.env)).any (·.1)=false:=by rfl)
  (hs:swapsWith (.Call (.Attribute (.Name x xp) "append" apos) [e] [] cpos) none pos.line X.env=pure false:=by rfl) :
  PDS X G (.Expr (.Call (.Attribute (.Name x xp) "append" apos) [e] [] cpos) pos) (qS i f):=by
 obtain⟨t,p,he⟩:=he
 refine⟨_,ml (pe_bm PySem.F.plainAttrs_list PySem.F.slot_list_append PySem.F.type_list_append pE hv (dO p iQ hst) hbase hfew hline hst hplain) hs,λR0 P0 H0 δ O σ H Dn E k=>?_⟩
 unfold qS at k
 split at k
 ·rename_i ds hd
  obtain⟨l,xs,q1,q2,q3,q4⟩:=E.ev.at_ i _ hd
  refine⟨.ref l,q1,.inl ⟨rfl,xs,.inl (.inl q3)⟩,?_⟩
  refine he δ O σ H _ E.ev (aq (ay k) λd z v H1 s1 r=>?_)
  by_cases hz:aN (ds.length+1)=true
  ·rw[if_pos hz] at z
   refine⟨l,xs,v,rfl,rfl,s1 _ _ q3,by rw[q4.length];exact yr hz,?_⟩
   exact z O σ _ ((E.same s1).app hd q1 (s1 _ _ q3) (q4.same s1) r)
  ·rw[if_neg hz] at z
   exact z.elim
 ·exact k.elim
noncomputable def sR(i:Nat):DS->M Out:=λδ=>match δ[i]? with
 | some (.ow ds)=>M.ret (.rt (.list ds))
 | _=>none
theorem qF{i:Nat}(he:PE X e (jG i)):PDS X G (.Return (some e) pos) (sR i):=by
 refine⟨_,ui he,λR0 P0 H0 δ O σ H Dn E k=>?_⟩
 unfold sR at k
 split at k
 ·rename_i ds hd
  obtain⟨l,xs,q1,q2,q3,q4⟩:=E.ev.at_ i _ hd
  exact⟨.ref l,q1,k _ H E.keep (.lst (.inl q3) (E.nr i ds l hd q1) (q4.to (.less E.sub)))⟩
 ·exact k.elim
noncomputable def frz(i:Nat)(δ:DS):DS:=match δ[i]? with
 | some (.ow ds)=>δ.set i (.vl (.list ds))
 | _=>δ
theorem EI.frz{i:Nat}(E:EI K Hr R0 P0 H0 O H σ δ):∃O',EI K Hr R0 P0 H0 O' H σ (DL.frz i δ):=by
 unfold DL.frz
 split
 ·rename_i ds hd
  obtain⟨l,xs,q1,q2,q3,q4⟩:=E.ev.at_ i _ hd
  have nr:=E.nr i ds l hd q1
  refine⟨O.filter (λa=>decide (a≠l)),⟨E.ev.root,λa ha=>E.ev.oo a (Y5.mp ha).1,by rw[Y3];exact E.ev.len,λj s h=>?_,λj k a es es' hjk h1 h2 h3=>?_⟩,λa ha=>E.omr a (Y5.mp ha).1,E.keep,λa ha=>E.om a (Y5.mp ha).1,λj es a h1 ho h2=>?_,λa ha=>?_⟩
  ·have tl:To O (O.filter (λa=>decide (a≠l))) H H:=To.less λb hb=>(Y5.mp hb).1
   rw[bH] at h
   by_cases hij:i=j
   ·rw[if_pos hij] at h
    split at h
    ·cases h
     rw[<-hij,q1]
     exact⟨.ref l,rfl,.lst (.inl q3) (λz=>absurd rfl (of_decide_eq_true (Y5.mp z).2)) (q4.to tl)⟩
    simp_all
   ·rw[if_neg hij] at h
    refine(E.ev.at_ j s h).to tl (λa kvs h1 h2=>⟨Y5.mpr ⟨h1,decide_eq_true (zA h2 q3 (by simp))⟩,h2⟩) λa ys h1 h2 h3 h4=>⟨Y5.mpr ⟨h1,decide_eq_true λz=>?_⟩,h2⟩
    obtain⟨es,rfl⟩:=h4
    subst z
    exact E.ev.dis i j a ds es hij hd h q1 h3
  ·have old:∀(j:Nat) (es:List D),(δ.set i (.vl (.list ds)))[j]?=some (.ow es)->δ[j]?=some (.ow es):=λj es h=>by
    grind
   exact E.ev.dis j k a es es' hjk (old j es h1) (old k es' h2) h3
  ·rw[bH] at h1
   by_cases hij:i=j
   ·simp_all
   ·rw[if_neg hij] at h1
    exact E.nr1 j es a h1 ho h2
  ·exact Y5.mpr ⟨E.sub a ha,decide_eq_true λz=>nr (z▸ha)⟩
 grind
noncomputable def gFrz(i:Nat)(g:DS->M Out):DS->M Out:=λδ=>g (frz i δ)
theorem Bw(i:Nat)(h:jA X G sts gs):jA X G sts (gFrz i gs):=by
 obtain⟨t,p,h⟩:=h
 refine⟨t,p,λR0 P0 H0 δ O σ H Dn E k=>?_⟩
 obtain⟨O',E'⟩:=E.frz
 exact h R0 P0 H0 (frz i δ) O' σ H Dn E' k
end
noncomputable def uK:List D->Option (List Int)
 | []=>some []
 | .int i::r=>(uK r).map (i :: ·)
 | _=>none
noncomputable def oLtD:D->D->Option D
 | .int i,.int j=>some (.bool (decide (i<j)))
 | .tuple xs,.tuple ys=>(uK xs).bind λns=>(uK ys).map λms=>.bool (HT.lexLt ns ms)
 | _,_=>none
theorem pC{i j:Int}:oLtD (.int i) (.int j)=some (.bool (decide (i<j))):=rfl
theorem kE{names:List (Str×NameKind)}{cl:List (Str×Addr)}(h:names.all (λy=>!(y.2==.cell||y.2==.free)||(cl.lookup y.1).isSome)=true):∀y∈names,(y.2=.cell\/y.2=.free)->∃c,cl.lookup y.1=some c:=λy hy hk=>by
 have q:=W8.mp h y hy
 have k:(y.2==NameKind.cell||y.2==NameKind.free)=true:=by
  simp_all
 rw[k] at q
 exact V1.mp (by assumption)
section
variable{X:Cx}{scope:Scope}{cl:List (Str×Addr)}
theorem nP:∀p∈([]:List (Nat×Str)),X.N[p.1]?=some p.2/\X.env.kindOf p.2=some .cell/\(compEnvC scope cl 0 X.env).kindOf p.2=some .cell/\∃c,cl.lookup p.2=some c:=λp hp=>nomatch hp
theorem B7{j:Nat}{y:Str}{fr:List (Nat×Str)}(h1:X.N[j]?=some y)(h2:X.env.kindOf y=some .cell)(h3:(compEnvC scope cl 0 X.env).kindOf y=some .cell)(h4:∃c,cl.lookup y=some c)
  (hr:∀p∈fr,X.N[p.1]?=some p.2/\X.env.kindOf p.2=some .cell/\(compEnvC scope cl 0 X.env).kindOf p.2=some .cell/\∃c,cl.lookup p.2=some c) :
  ∀p∈(j,y)::fr,X.N[p.1]?=some p.2/\X.env.kindOf p.2=some .cell/\(compEnvC scope cl 0 X.env).kindOf p.2=some .cell/\∃c,cl.lookup p.2=some c:=λp hp=>by
 grind
end
section
variable{δ δ':DS}{f:DS->M D}{d:D}{ds:List D}{r:M Out}{g:DS->M Out}
theorem nT{i:Nat}(h:δ[i]?=some (.ow ds))(h1:f δ=M.ret d)(hz:aN (ds.length+1)=true):qS i f δ=M.ret (.nx (δ.set i (.ow (ds++[d])))):=by
 unfold qS;rw[h,h1];show(if aN (ds.length+1)=true then _ else _)=_;simp_all
theorem ev_frz{i:Nat}(h:g (frz i δ)=r):gFrz i g δ=r:=h
theorem sS{body:D->DS->M Out}(S:List D->DS->Prop):∀(ds pre:List D) (δ:DS),S pre δ->(∀p d q δ,pre++ds=p++d::q->S p δ->∃δ',body d δ=M.ret (.nx δ')/\S (p++[d]) δ')->∃δ',ib body ds δ=M.ret (.nx δ')/\S (pre++ds) δ'
 | [],pre,δ,h,_=>⟨δ,rfl,by simp_all⟩
 | d::ds,pre,δ,h,hs=>by
  obtain⟨δ1,h1,p1⟩:=hs pre d ds δ rfl h
  obtain⟨δ2,h2,p2⟩:=sS S ds (pre++[d]) δ1 p1 λp e q δ he=>hs p e q δ (by simp_all)
  refine⟨δ2,?_,by simp_all⟩
  show(body d δ).thn _=_
  rw[h1]
  exact h2
theorem kA{lo:Int}{n:Nat}{d:D}(h:d∈fX lo n):∃k:Int,d=.int k/\lo<=k/\k<lo+n:=by
 obtain⟨i,hi,e⟩:=V0.mp h
 grind
theorem zW{ds:List D}{i:Int}{d:D}(h0:0<=i)(h:ds[i.toNat]?=some d):oIx (.list ds) (.int i)=some d:=by
 have e:=L2.wI h
 rw[U3 h0] at e
 exact e
theorem bi{n:Nat}(h:n<=16000000):aN n=true:=decide_eq_true h
end
end DL
namespace XF
open PyProof.Rows
def dI(h:Heap)(e:Addr)(d:Option Addr):Prop:=∃o vs,h.get? e=some o/\o.dict=d/\o.data=.fields vs/\(d=none->vs[2]?=some .none)
theorem BS(o:Obj)(f:Array Value->Array Value):(Obj.mapFields f o).dict=o.dict:=by
 unfold Obj.mapFields
 grind
section
variable{M:Model}{A:Around}{E:Value->Shared->Prop}{s:Shared}
theorem entry{base:Heap}{env:Env}{outer:List Env}{L e:Addr}{oe:Obj}{vs:Array Value}{head a0:Value}{hadNext:Bool}{Q:Unit->Shared->Prop}
  (hfr:A.frames=some (env::outer)) (hl:s.heap.FunFrames base (env::outer)) (hf:env.frame=some L)
  (he:s.heap.get? e=some oe) (hkb:base.StaysIn s.heap) (hen:base.get? e=none) (hd:oe.data=.fields vs) (hsz:1<vs.size) (h0:vs[0]?=some a0) (h2:oe.dict=none->vs[2]?=some .none)
  (h:∀h',Heap.NotedW base (env::outer) e oe.cls a0 (rawInt L) s.heap h'->dI h' e oe.dict->Q () { s with heap:=h' }) :
  wpAny M A (do let a <- frameOf env;let pl <- entryPlaceOf L hadNext;let b <- EntryCells.newEntry head a .none (rawInt L) .none pl;setField (.ref e) 1 b) Q E s:=by
 have off:e∉(env::outer).filterMap (·.frame):=λz=>by
  obtain⟨_,o,q,n⟩:=hl.mem z
  simp_all
 refine wpAny_bind (wpAny_frameOf_fun hfr hl hf λg sl=>wpAny_bind (wpAny_entryPlaceOf λpl hpl=>?_))
 refine wpAny_bind (wpAny_newObj_type ?_ (hpl.sizeOk5 _ _ _ _ _))
 generalize hT:({ cls:=.type "traceback",dict:=none,data:=.fields ([head,.ref L,.none,rawInt L,.none]++(if pl.isEmpty then Z5 6 Value.none else pl)).toArray }:Obj)=oT
 have eg:= (sl.2.1 e off).trans he
 have ep:=Heap.get?_push_of_some oT eg
 have kb:base.StaysIn g:=λb o q=>(sl.2.1 b λz=>by rw[(hl.mem z).1] at q;cases q).trans (hkb b o q)
 refine wpAny_setField ep hd hsz (h _ ?_ ?_)
 ·have ne:= Nat.ne_of_gt (Heap.lt_size eg)
  have fd:=Obj.data_mapFields hd (·.setIfInBounds 1 (Value.ref g.objs.size))
  have e3:=Heap.get?_update_self (Obj.mapFields (·.setIfInBounds 1 (Value.ref g.objs.size))) ep (Obj.isFreed_of_fields fd)
  have keep:∀{b:Addr} {o:Obj},b≠e->g.get? b=some o->((g.push oT).update e (Obj.mapFields (·.setIfInBounds 1 (Value.ref g.objs.size)))).get? b=some o:=λ{b o} n q=>by
   rw[Heap.get?_update_other _ _ (Ne.symm n)]
   exact Heap.get?_push_of_some _ q
  have nr:∀{b:Addr} {o:Obj},s.heap.get? b=some o->(∀vs,o.data≠.fields vs)->b≠e:=λ{b o} q n z=>by
   simp_all
  have eT:((g.push oT).update e (Obj.mapFields (·.setIfInBounds 1 (Value.ref g.objs.size)))).get? g.objs.size=some oT :=
   (Heap.get?_update_other _ _ (Ne.symm ne)).trans (Heap.get?_push_size g (by rw[<-hT];rfl))
  refine⟨λb o q=>keep (λz=>by simp_all) (kb b o q),hl.of_keeps λb o q n=>?_,?_,λb o q n=>?_⟩
  ·obtain⟨sl',z⟩:=sl.2.2 b o q
   simp_all
  ·refine⟨_,_,g.objs.size,oT,([head,.ref L,.none,rawInt L,.none]++(if pl.isEmpty then Z5 6 Value.none else pl)).toArray,e3,⟨Obj.cls_mapFields _ _,by simp_all⟩,fd,by simp_all,kb.fresh,ne,eT,by grind,?_⟩
   rfl
  ·obtain⟨sl',z⟩:=sl.2.2 b o q
   simp_all
 ·exact⟨_,_,Heap.get?_update_self _ ep (Obj.isFreed_of_fields (Obj.data_mapFields hd _)),BS _ _,Obj.data_mapFields hd _,λz=>by simp_all⟩
theorem note0{base:Heap}{env:Env}{outer:List Env}{L e:Addr}{oe:Obj}{vs:Array Value}{a0:Value}{Q:Unit->Shared->Prop}
  (hfr:A.frames=some (env::outer)) (hl:s.heap.FunFrames base (env::outer)) (hf:env.frame=some L)
  (he:s.heap.get? e=some oe) (hkb:base.StaysIn s.heap) (hen:base.get? e=none) (hd:oe.data=.fields vs) (h1:vs[1]?=some .none) (h0:vs[0]?=some a0) (h2:oe.dict=none->vs[2]?=some .none)
  (h:∀h',Heap.NotedW base (env::outer) e oe.cls a0 (rawInt L) s.heap h'->dI h' e oe.dict->Q () { s with heap:=h' }):wpAny M A (noteFrame (.ref e) env) Q E s:=by
 unfold noteFrame
 simp only[hf]
 refine wpAny_bind (wpAny_field he hd h1 ?_)
 exact entry hfr hl hf he hkb hen hd (V9.mp h1).1 h0 h2 h
def jB(base:Heap)(l:List Env)(e:Addr)(cls a0 fl:Value)(h:Heap):Prop:=base.StaysIn h/\base.get? e=none/\h.FunFrames base l/\h.TracedAtW base e cls a0 fl
theorem jB.first{base h:Heap}{l:List Env}{e:Addr}{cls a0 fl:Value}(x:jB base l e cls a0 fl h):∃oe vs,h.get? e=some oe/\oe.cls=cls/\oe.data=.fields vs/\vs[0]?=some a0 :=
 let ⟨_,_,_,oe,vs,_,_,_,he,hc,hd,_⟩:=x;⟨oe,vs,he,hc.1,hd,hc.2⟩
theorem note1{base:Heap}{env:Env}{outer:List Env}{L e:Addr}{cls a0 fl:Value}{d:Option Addr}{Q:Unit->Shared->Prop}
  (hfr:A.frames=some (env::outer)) (hl:s.heap.FunFrames base (env::outer)) (hf:env.frame=some L) (ht:s.heap.TracedAtW base e cls a0 fl) (dd:dI s.heap e d) (hkb:base.StaysIn s.heap) (hen:base.get? e=none)
  (h:∀h',Heap.NotedW base (env::outer) e cls a0 (rawInt L) s.heap h'->dI h' e d->Q () { s with heap:=h' }):wpAny M A (noteFrame (.ref e) env) Q E s:=by
 obtain⟨oe,vs,T,oT,ts,he,⟨rfl,h0⟩,hd,h1,hnT,hTe,hT,hdT,h3⟩:=id ht
 obtain⟨o2,vs2,he2,rfl,hd2,hc2⟩:=id dd
 rw[he] at he2;cases he2
 rw[hd] at hd2;cases hd2
 unfold noteFrame
 simp only[hf]
 refine wpAny_bind (wpAny_field he hd h1 ?_)
 refine wpAny_bind (wpAny_field hT hdT h3 ?_)
 by_cases hfl:(fl==rawInt L)=true
 ·rw[if_pos hfl]
  obtain rfl:fl=rawInt L:=beq_iff_eq.mp hfl
  exact wpAny_pure (h s.heap ⟨hkb,hl,ht,λb o q _=>⟨o.slots,q⟩⟩ dd)
 rw[if_neg hfl]
 refine wpAny_bind (wpAny_setField hT hdT (V9.mp h3).1 ?_)
 have ot:∀{b:Addr},b≠T->(s.heap.update T (Obj.mapFields (·.setIfInBounds 3 Value.none))).get? b=s.heap.get? b:=λ{b} n=>Heap.get?_update_other _ _ (Ne.symm n)
 have nr:∀{b:Addr} {o:Obj},s.heap.get? b=some o->(∀vs,o.data≠.fields vs)->b≠T:=λ{b o} q n z=>by
  simp_all
 exact entry hfr (hl.of_keeps λb o q n=>⟨o,(ot (nr q n)).trans q,rfl⟩) hf ((ot (Ne.symm hTe)).trans he)
  (λb o q=>(ot λz=>by simp_all).trans (hkb b o q)) hen hd (V9.mp h1).1 h0 hc2
  λh' ⟨x1,x2,x3,x4⟩ y=>h h' ⟨x1,x2,x3,λb o q n=>x4 b o ((ot (nr q n)).trans q) n⟩ y
theorem uQ{base:Heap}{l:List Env}{e:Addr}{cls a0 fl:Value}{d fr:Option Addr}{Q:Unit->Shared->Prop}(F:jB base l e cls a0 fl s.heap)(dd:dI s.heap e d)
  (h:∀h',jB base l e cls a0 (fr.elim Value.none λf=>rawInt f) h'->dI h' e d->s.heap.UpToSlots h'->Q () { s with heap:=h' }):wpAny M A (setFlight (.ref e) fr) Q E s:=by
 obtain⟨hkb,hen,hl,oe,vs,T,oT,ts,he,hc,hd,h1,hnT,hTe,hT,hdT,h3⟩:=F
 obtain⟨o2,vs2,he2,rfl,hd2,hc2⟩:=dd
 rw[he] at he2;cases he2
 rw[hd] at hd2;cases hd2
 have z3:= (V9.mp h3).1
 have ot:∀{b:Addr},b≠T->(s.heap.update T (Obj.mapFields (·.setIfInBounds 3 (fr.elim Value.none λf=>rawInt f)))).get? b=s.heap.get? b:=λ{b} n=>Heap.get?_update_other _ _ (Ne.symm n)
 have nr:∀{b:Addr} {o:Obj},s.heap.get? b=some o->(∀vs,o.data≠.fields vs)->b≠T:=λ{b o} q n z=>by
  simp_all
 refine wpAny_bind (wpAny_field he hd h1 ?_)
 refine wpAny_setField hT hdT z3 (h _ ⟨λb o q=>(ot λz=>by simp_all).trans (hkb b o q),hen,hl.of_keeps λb o q n=>⟨o,(ot (nr q n)).trans q,rfl⟩,?_⟩ ⟨oe,vs,(ot (Ne.symm hTe)).trans he,rfl,hd,hc2⟩ λb o q n=>⟨o.slots,(ot (nr q n)).trans q⟩)
 exact⟨oe,vs,T,_,_,(ot (Ne.symm hTe)).trans he,hc,hd,h1,hnT,hTe,Heap.get?_update_self _ hT (Obj.isFreed_of_fields (Obj.data_mapFields hdT _)),Obj.data_mapFields hdT _,by simp [z3]⟩
theorem sL{base:Heap}{env:Env}{outer:List Env}{L e:Addr}{oe:Obj}{vs:Array Value}{a0:Value}{Q:Unit->Shared->Prop}
  (hfr:A.frames=some (env::outer)) (hf:env.frame=some L) (hkb:base.StaysIn s.heap) (hl:s.heap.FunFrames base (env::outer))
  (he:s.heap.get? e=some oe) (hen:base.get? e=none) (hd:oe.data=.fields vs) (h1:vs[1]?=some .none) (h0:vs[0]?=some a0) (h2:oe.dict=none->vs[2]?=some .none)
  (hQ:∀h',jB base outer e oe.cls a0 .none h'->dI h' e oe.dict->s.heap.UpToSlots h'->Q () { s with heap:=h' }):wpAny M A (leaving env (.ref e)) Q E s:=by
 refine wpAny_bind (note0 hfr hl hf he hkb hen hd h1 h0 h2 λh1 N dd=>?_)
 obtain⟨n1,n2,n3,n4⟩:=N
 exact uQ ⟨n1,hen,n2,n3⟩ dd λh2 F d2 up=>hQ h2 ⟨F.1,F.2.1,F.2.2.1.2.2,F.2.2.2⟩ d2 (Heap.UpToSlots.trans n4 up)
theorem xz{base:Heap}{env:Env}{outer:List Env}{L e:Addr}{cls a0 fl:Value}{d:Option Addr}{Q:Unit->Shared->Prop}
  (hfr:A.frames=some (env::outer)) (hf:env.frame=some L) (hfl:jB base (env::outer) e cls a0 fl s.heap) (dd:dI s.heap e d)
  (hQ:∀h',jB base outer e cls a0 .none h'->dI h' e d->s.heap.UpToSlots h'->Q () { s with heap:=h' }):wpAny M A (leaving env (.ref e)) Q E s:=by
 obtain⟨f1,f2,f3,f4⟩:=hfl
 refine wpAny_bind (note1 hfr f3 hf f4 dd f1 f2 λh1 N dd=>?_)
 obtain⟨n1,n2,n3,n4⟩:=N
 exact uQ ⟨n1,f2,n2,n3⟩ dd λh2 F d2 up=>hQ h2 ⟨F.1,F.2.1,F.2.2.1.2.2,F.2.2.2⟩ d2 (Heap.UpToSlots.trans n4 up)
theorem nw{base:Heap}{env:Env}{outer:List Env}{L e:Addr}{cls a0 fl:Value}{d:Option Addr}{Q:Unit->Shared->Prop}
  (hfr:A.frames=some (env::outer)) (hf:env.frame=some L) (hfl:jB base (env::outer) e cls a0 fl s.heap) (dd:dI s.heap e d)
  (hQ:∀h',jB base (env::outer) e cls a0 (rawInt L) h'->dI h' e d->s.heap.UpToSlots h'->Q () { s with heap:=h' }):wpAny M A (noteFrame (.ref e) env) Q E s:=by
 obtain⟨f1,f2,f3,f4⟩:=hfl
 refine note1 hfr f3 hf f4 dd f1 f2 λh1 N dd=>?_
 obtain⟨n1,n2,n3,n4⟩:=N
 exact hQ h1 ⟨n1,f2,n2,n3⟩ dd n4
theorem pI{base:Heap}{l:List Env}{e:Addr}{cls a0 fl:Value}{d:Option Addr}{Q:Unit->Shared->Prop}(hh:jB base l e cls a0 fl s.heap)(dd:dI s.heap e d)
  (hQ:∀h',jB base l e cls a0 .none h'->dI h' e d->s.heap.UpToSlots h'->Q () { s with heap:=h' }):wpAny M A (setFlight (.ref e) none) Q E s:=uQ (fr:=none) hh dd hQ
end
end XF
namespace L2
open PyProof.Rows
theorem wj{K:ε}{h:Heap}{C:Addr}{bmB:List Value}{newId:String}(X:K.In h)(q:X5 K C bmB newId=true) :
  ∃bm N nm qn bs hdct sn sub ab col dd k0 k1 k2 k3 k5 mN,h.get? C=some (excClassObj nm qn C N bs bm hdct sn sub ab col dd k0 k1 k2 k3 k5 newId)/\h.Ns N mN/\mN ("__init__" : Str)=none/\OwnTail h bmB bm:=by
 unfold X5 at q
 split at q
 ·rename_i dd cd sl ho
  split at q
  ·rename_i C' bm k0 k1 k2 k3 n k5 hm hs
   simp only[Ξ,beq_iff_eq,Bool.not_eq_true'] at q
   obtain⟨⟨⟨⟨⟨rfl,rfl⟩,hdel⟩,ht⟩,hn⟩,hi⟩:=q
   obtain⟨nm,bs,mro,ns,qn,hd,sn,sub,ab,col,del⟩:=cd
   subst hm hdel
   have hsl:sl=#[k0,k1,k2,k3,some (.builtin n),k5]:=by
    grind
   subst hsl
   exact⟨bm,ns,nm,qn,bs,hd,sn,sub,ab,col,dd,k0,k1,k2,k3,k5,_,X _ _ ho,.of_isNs (PySem.W.isNs_of_in X hn),PySem.W.nsMap_none_of_in X hn hi,PySem.W.tail_of_in X ht⟩
  simp_all
 simp_all
theorem vP{P:Program}{w:World}{H:Hp}{h:Heap}{a:Addr}{o:HO}(x:cy P w H h a o):∃ob,h.get? a=some ob:=by
 cases o with
 | lst xs=>obtain⟨_,_,_,_,e⟩:=x;simp_all
 | tup xs=>obtain⟨_,_,_,ob,e,_⟩:=x;simp_all
 | dK kvs=>obtain⟨_,_,_,_,o,_,_,e,_⟩:=x;simp_all
 | dT kvs=>obtain⟨_,_,_,_,o,_,_,e,_⟩:=x;simp_all
 | set S n=>obtain⟨o,_,_,_,e,_⟩:=x;simp_all
 | ins C dx fs=>obtain⟨_,_,_,e,_⟩:=x;simp_all
 | own y=>assumption
 | xd fs=>obtain⟨_,⟨_,_,_,e,_⟩,_⟩:=x;simp_all
 | rng lo hi=>obtain⟨_,_,_,e⟩:=x;simp_all
 | frz ob u=>obtain⟨e,_⟩:=x;simp_all
 | tbl ps=>exact⟨_,(show h.get? a=some _ from x)⟩
 | met f y=>exact⟨_,(show h.get? a=some _ from x)⟩
 | ext φ=>obtain⟨_,⟨_,e⟩,_⟩:=x;simp_all
structure Fly(P:Program)(w:World)(outer:List Env)(H:Hp)(s:Shared)(E:XK)(ea C t:Addr)(d:Option Addr)(H':Hp)(B:Heap)(s':Shared):Prop where
 fl:∃fl,XF.jB B outer ea (.ref C) (.ref t) fl s'.heap
 dict:XF.dI s'.heap ea d
 os:s'.os=s.os
 bare:AllBare s'.gens
 un:Un (frs outer) [] H H' s.heap s'.heap
 hok:HOk P w H' s'.heap
 old:∀b o,s.heap.get? b=some o->b∉frs outer->∃ob,B.get? b=some ob
 trk:∀b o,H' b=some o->∃ob,B.get? b=some ob
 wish:E (.ref C) d H'
noncomputable def CXE(P:Program)(w:World):CXT:=λouter H s E e s'=>∃(ea C t:Addr) (d:Option Addr) (H':Hp) (B:Heap),e=.ref ea/\Fly P w outer H s E ea C t d H' B s'
section
variable{P:Program}{w:World}{K:ε}{mg:Str->Option Value}{base:Heap}{N:List Str}{qual:Str}{scope:Scope}{f:Addr}{cdv:Value}{A:Around}{outer:List Env}{s0:Shared}{H0:Hp}{E:XK}
theorem wd{pins:List (Addr×Obj)}{σ:St}{H:Hp}{s:Shared}{B h':Heap}{xe:Value->Shared->Prop}(I:Inv ((et (CXE P w) P w K mg base N qual scope f cdv A outer s0 H0 E).wish xe) pins σ H s)
  (hB0:∀b o,s0.heap.get? b=some o->b∉frs (envOfC qual scope s0.heap.objs.size f cdv::outer)->∃ob,B.get? b=some ob) (hBH:∀b o,H b=some o->∃ob,B.get? b=some ob)
  (k1:B.StaysIn s.heap) (k2:B.StaysIn h') (up:s.heap.UpToSlots h'):Un (frs outer) [] H0 H s0.heap h'/\HOk P w H h':=by
 have ub:Un (frs outer) [] H0 H s0.heap s.heap:=I.base
 have nl:∀{b:Addr} {o:Obj},s0.heap.get? b=some o->b∉frs outer->b∉frs (envOfC qual scope s0.heap.objs.size f cdv::outer):=λ{b o} e n z=>by
  have z:b∈s0.heap.objs.size::frs outer:=z
  rcases Δ.mp z with z | z
  ·exact V2 _ (z▸Heap.lt_size e)
  simp_all
 have mv:∀{b:Addr} {u:Obj},(∃ob,B.get? b=some ob)->s.heap.get? b=some u->h'.get? b=some u:=λ{b u} hb e=>by
  obtain⟨ob,q⟩:=hb
  have:=k1 b ob q
  rw[e] at this
  cases this
  exact k2 b _ q
 have fr:∀{b:Addr},b∈frs outer->∀{o:Obj},s.heap.get? b=some o->∃sl,h'.get? b=some { o with slots:=sl }:=λ{b} hb {o} e=>by
  obtain⟨_,o',ho',hd⟩:=I.funs.mem hb
  rw[e] at ho'
  cases ho'
  exact up b _ e hd
 refine⟨⟨λb o e n h1 h2=>mv (hB0 b o e (nl e h1)) (ub.keep b o e n h1 h2),λb o e n h1 h2=>?_,ub.free,λb o e h2=>?_,ub.tups,ub.frzs,ub.tbls⟩,λa o e=>(I.hok a o e).stay (λb u hb q=>mv ?_ q) (λ_ q=>q) λ_ _ q=>q⟩
 ·obtain⟨sl,e1⟩:=ub.slot b o e n h1 h2
  grind
 ·obtain⟨o',e1⟩:=ub.there b o e h2
  grind
 grind
def rp(X:Cx)(C:Addr)(Eh:Hp->Prop):Prop:=∀(pins:List (Addr×Obj)) (σ:St) (H:Hp) (s:Shared) (h':Heap) (e:Addr) (vs:List Value),Inv X pins σ H s->Heap.MadeExcOf s.heap h' e (.ref C) vs->Eh H->X.xe (.ref e) { s with heap:=h' }
theorem lK{C:Addr}{pins:List (Addr×Obj)}{σ:St}{H H1:Hp}{s s1:Shared}{e t:Addr}{oe:Obj}{vs:Array Value}(I:Inv (et (CXE P w) P w K mg base N qual scope f cdv A outer s0 H0 E) pins σ H s)(new:s.heap.get? e=none)
  (I1:Inv (et (CXE P w) P w K mg base N qual scope f cdv A outer s0 H0 E) pins σ H1 s1) (he:s1.heap.get? e=some oe) (hcl:oe.cls=.ref C) (hd:oe.data=.fields vs) (h0:vs[0]?=some (.ref t)) (h1:vs[1]?=some .none) (hc2:oe.dict=none->vs[2]?=some .none) (hn:H1 e=none) (hE:E (.ref C) oe.dict H1) :
  (et (CXE P w) P w K mg base N qual scope f cdv A outer s0 H0 E).xe (.ref e) s1:=by
 have hst:(et (CXE P w) P w K mg base N qual scope f cdv A outer s0 H0 E).A.frames=some (envOfC qual scope s0.heap.objs.size f cdv::outer):=I.ok.frames
 have hin:∀env∈(envOfC qual scope s0.heap.objs.size f cdv::outer),∀a,env.frame=some a->a∈e::frs (envOfC qual scope s0.heap.objs.size f cdv::outer):=λenv hq a ha=>ρ _ (List.mem_filterMap.mpr ⟨env,hq,ha⟩)
 have hB:(V5 s1.heap (e::frs (envOfC qual scope s0.heap.objs.size f cdv::outer))).StaysIn s1.heap:=λb o q=>PySem.W.of_hideAll _ q
 have inB:∀b o,s1.heap.get? b=some o->b≠e->b∉frs (envOfC qual scope s0.heap.objs.size f cdv::outer)->∃ob,(V5 s1.heap (e::frs (envOfC qual scope s0.heap.objs.size f cdv::outer))).get? b=some ob:=λb o q n1 n2=>⟨o,PySem.W.hideAll_get _ q λz=>(Δ.mp z).elim n1 n2⟩
 have hen:(V5 s1.heap (e::frs (envOfC qual scope s0.heap.objs.size f cdv::outer))).get? e=none:=PySem.W.hideAll_none _ υ
 refine XF.sL (base:=V5 s1.heap (e::frs (envOfC qual scope s0.heap.objs.size f cdv::outer))) hst rfl hB (PySem.W.funFrames_hide I1.stack hin) he hen hd h1 h0 hc2 λh2 fl dd up=>?_
 have old:∀b o,s0.heap.get? b=some o->b∉frs (envOfC qual scope s0.heap.objs.size f cdv::outer)->∃ob,(V5 s1.heap (e::frs (envOfC qual scope s0.heap.objs.size f cdv::outer))).get? b=some ob:=λb o q n=>by
  obtain⟨o1,q1⟩:=I.base.there b o q (λz=>nomatch z)
  obtain⟨o',q'⟩:=I1.base.there b o q (λz=>nomatch z)
  grind
 have trk:∀b o,H1 b=some o->∃ob,(V5 s1.heap (e::frs (envOfC qual scope s0.heap.objs.size f cdv::outer))).get? b=some ob:=λb o q=>by
  have n2:b∉frs (envOfC qual scope s0.heap.objs.size f cdv::outer):=λz=>by
   have:=I1.stkFree b z
   simp_all
  obtain⟨ob,hob⟩:=vP (I1.hok b o q)
  grind
 obtain⟨un,hok⟩:=wd (E:=E) (xe:=(et (CXE P w) P w K mg base N qual scope f cdv A outer s0 H0 E).xe) (h':=h2) I1 old trk hB fl.1 up
 refine⟨e,C,t,oe.dict,H1,_,rfl,⟨.none,hcl▸fl⟩,dd,I1.os,I1.bare,un,hok,λb o q n=>old b o q λz=>?_,trk,hE⟩
 have z:b∈s0.heap.objs.size::frs outer:=z
 rcases Δ.mp z with z | z
 ·exact V2 _ (z▸Heap.lt_size q)
 simp_all
theorem fJ{C:Addr}:rp (et (CXE P w) P w K mg base N qual scope f cdv A outer s0 H0 E) C (λH=>E (.ref C) none H):=by
 intro pins σ H s h' e vs I hx hE
 obtain⟨t,he,_,_⟩:=hx.there
 have I1:Inv (et (CXE P w) P w K mg base N qual scope f cdv A outer s0 H0 E) pins σ H { s with heap:=h' }:=I.call' (ch:=[]) rfl (Un.kept hx.keeps) (I.hok.kept hx.keeps) I.bare (λb z=>nomatch z)
 refine lK I hx.new I1 he rfl rfl rfl rfl (λ_=>rfl) ?_ hE
 cases q:H e with
 | none=>rfl
 | some o =>
  obtain⟨ob,hob⟩:=vP (I.hok e o q)
  rw[hx.new] at hob;cases hob
theorem cM:du (CXE P w) (et (CXE P w) P w K mg base N qual scope f cdv A outer s0 H0 E) E:=by
 intro pins σ H s e s' I h
 obtain⟨ea,C,t,d,H',B,rfl,F⟩:=h
 have hst:(et (CXE P w) P w K mg base N qual scope f cdv A outer s0 H0 E).A.frames=some (envOfC qual scope s0.heap.objs.size f cdv::outer):=I.ok.frames
 have I':Inv (et (CXE P w) P w K mg base N qual scope f cdv A outer s0 H0 E) pins σ H' s':=I.call' (ch:=[]) F.os F.un F.hok F.bare (λb z=>nomatch z)
 obtain⟨flv,fl⟩:=(show ∃fl,XF.jB B (envOfC qual scope s0.heap.objs.size f cdv::outer) ea (.ref C) (.ref t) fl s'.heap from F.fl)
 have old:∀b o,s0.heap.get? b=some o->b∉frs (envOfC qual scope s0.heap.objs.size f cdv::outer)->∃ob,B.get? b=some ob:=λb o e n=>by
  obtain⟨o',e'⟩:=I.base.there b o e (λz=>nomatch z)
  exact F.old b o' e' n
 refine XF.xz hst rfl fl F.dict λh2 fl2 dd up=>?_
 obtain⟨un,hok⟩:=wd (E:=E) (xe:=(et (CXE P w) P w K mg base N qual scope f cdv A outer s0 H0 E).xe) (h':=h2) I' old F.trk fl.1 fl2.1 up
 refine⟨ea,C,t,d,H',B,rfl,⟨_,fl2⟩,dd,I'.os,I'.bare,un,hok,λb o e n=>old b o e λz=>?_,F.trk,F.wish⟩
 have z:b∈s0.heap.objs.size::frs outer:=z
 rcases Δ.mp z with z | z
 ·exact V2 _ (z▸Heap.lt_size e)
 simp_all
theorem kj{X:Cx}:du (CXE P w) X E0:=λ_ _ _ _ _ _ _ h=>by
 obtain⟨_,_,_,_,_,_,_,F⟩:=h
 exact F.wish.elim
theorem FnOk.cx0{k:Nat}{fd:FuncData}{ps:List Str}{sp:Sp}(F:FnOk P w K mg base CX0 k f fd ps sp):FnOk P w K mg base (CXE P w) k f fd ps sp :=
 ⟨F.len,λA outer s H args us vs Q E hr he hb hv hs=>codeAny_mono (F.run A outer s H args us vs Q E hr he hb hv hs) λr s' q=>by
  cases r with
  | error e=>exact(show False from q).elim
  | ok fl =>
   cases fl with
   | ret u=>exact q
   | next=>assumption
   | brk=>assumption
   | cont=>assumption⟩
end
section
variable{X:Cx}
theorem sf{x:Str}{C:Addr}{Eh:Hp->Prop}{B newId initId:String}{bm:List Value}{np cpos pos:Pos}{e:Expr}{es:List Expr}{t:TA}(hR:rp X C Eh)(hK:X5 X.K C bm newId=true)(FB:ExcBaseFacts B newId initId bm)
  (hc:X.calm=true) (hg:Gl X x) (hm:X.mg x=some (.ref C)) (ha:PA X (e::es) t) (hd:(x==("__debug__" : Str))=false:=by decide)
  (he:starEach (e::es) X.env=(false,eval e X.env)::starEach es X.env:=by rfl) (hpl:(backTo cpos (starEach es X.env)).any (·.1)=false:=by rfl) :
  PS X (.Raise (some (.Call (.Name x np) (e::es) [] cpos)) none pos) (λ_ σ H=>t σ H λvs H1=>vs.length<=sizeLine/\Eh H1):=by
 intro pins s σ H D I h
 obtain⟨tl,N,nm,q,bs,hdct,sn,sub,ab,col,dd,k0,k1,k2,k3,k5,mN,hC,hN,hni,T⟩:=wj I.ok.mod.kin hK
 refine wpAny_Raise_call_subT (C:=C) (nm:=nm) (q:=q) (N:=N) (bs:=bs) (bm:=tl) (hdct:=hdct) (sn:=sn) (sub:=sub) (ab:=ab) (col:=col) (dd:=dd) (k0:=k0) (k1:=k1) (k2:=k2) (k3:=k3) (k5:=k5)
  FB (mN:=mN) (T.hasType FB.hasBase) (I.ok.hd hc) (by rw[he];assumption) hni (d9 I hg hm ⟨rfl,?_⟩ hd)
 have hA:=ha cpos pins s σ H _ I h
 rw[he] at hA ⊢
 refine Calls.evalArgs_plain (thn hA λus s2 ⟨vs,H2,I2,r2,hz,hE⟩=>⟨rfl,by rw[<-r2.length];exact hz,I2.bk _ _ hC,hN.keeps I2.bk,T.keeps I2.bk,λh' e hx=>hR pins σ H2 s2 h' e us I2 hx hE⟩)
end
end L2
namespace DL
open PyProof.Rows L2
def GX(mg:Str->Option Value)(E:XK)(x:XD)(H:Hp):Prop:=∀C,mg x.cls=some (.ref C)->match x.flds with
 | []=>E (.ref C) none H
 | [(f,.int i)]=>∀a,H a=none->E (.ref C) (some a) (upd H a (.xd [(f,.int i)]))
 | _=>True
noncomputable def spX(K:ε)(mg:Str->Option Value)(n:Nat)(F:List D->M D):Sp:=λvs H Q E=>∃O ds,vs.length=n/\(∀l∈O,Mu H l)/\Reps K O H vs ds/\ok (GS (GX mg E) H) (F ds) (λd=>∀v H',aJ H H'->Rep K O H' v d->Q v H')
structure DefX(P:Program)(w:World)(K:ε)(mg:Str->Option Value)(base:Heap)(k:Nat)(x:Str)(n:Nat)(F:List D->M D):Prop where
 ex:∃(f:Addr) (fd:FuncData) (ps:List Str),FnOk P w K mg base (CXE P w) k f fd ps (spX K mg n F)/\mg x=some (.ref f)/\ξ K (.ref f)=true/\cY K fd ps []
section
variable{X:Cx}{G:XD->Hp->Prop}{e:Expr}{es:List Expr}{fa:DS->M (List D)}{pos:Pos}
theorem kl{α:Type}{G G':XD->Prop}{r:M α}{k:α->Prop}(h:ok G r k)(f:∀x,G x->G' x):ok G' r k:=by
 match r,h with
 | some (.ok a),h=>exact h
 | some (.error x),h=>exact f x h
theorem m9{k n:Nat}{x:Str}{p:Pos}{F:List D->M D}{E:XK}(h:DefX X.prog X.w X.K X.mg X.base k x n F)(hr:Room k X.A)(hx:du (CXE X.prog X.w) X E)(hG:∀x H,G x H->GX X.mg E x H)(hg:Gl X x)(hn:(e::es).length=n)(ha:PDA X G (e::es) fa)
  (hdb:(x==("__debug__" : Str))=false:=by decide) (he:starEach (e::es) X.env=(false,eval e X.env)::starEach es X.env:=by rfl) (hpl:(backTo pos (starEach es X.env)).any (·.1)=false:=by rfl) :
  PD X G (.Call (.Name x p) (e::es) [] pos) (br F fa):=by
 obtain⟨f,fd,ps,F1,hm,hk,hb⟩:=h.ex
 obtain⟨hl,t,pa,ha⟩:=ha
 refine⟨_,ke F1 hr hg hm hk hb .nil hx pa hdb he hpl,@λHr δ O σ H Q E0 k=>?_⟩
 have k1:=ay k
 refine ha δ O σ H _ E0 ?_
 cases e1:fa δ with
 | none=>rw[e1] at k1;assumption
 | some r =>
  rw[e1] at k1
  cases r with
  | error x=>exact k1
  | ok ds =>
   refine λvs H1 s1 rs=>?_
   refine⟨O,ds,?_,(E0.same s1).oo,?_,kl (aq k1 λd z v H2 s2 r=>z v H2 (s1.trans s2) r) λy q H2 s2=>hG y H2 (q H2 ((E0.same s1).root.trans s2))⟩
   ·rw[Λ,rs.length,hl δ ds e1]
    exact hn
   simp_all
noncomputable def qR(x:Str)(fa:DS->M (List D)):DS->M Out:=λδ=>(fa δ).thn λds=>if aN ds.length then some (.error ⟨x,[]⟩) else none
theorem m8{x:Str}{C:Addr}{B newId initId:String}{bm:List Value}{np cpos:Pos}{E:XK}(hR:rp X C (λH=>E (.ref C) none H))(hG:∀x H,G x H->GX X.mg E x H)(hK:X5 X.K C bm newId=true)(FB:ExcBaseFacts B newId initId bm)
  (hc:X.calm=true) (hg:Gl X x) (hm:X.mg x=some (.ref C)) (ha:PDA X G (e::es) fa) (hd:(x==("__debug__" : Str))=false:=by decide)
  (he:starEach (e::es) X.env=(false,eval e X.env)::starEach es X.env:=by rfl) (hpl:(backTo cpos (starEach es X.env)).any (·.1)=false:=by rfl) :
  PDS X G (.Raise (some (.Call (.Name x np) (e::es) [] cpos)) none pos) (qR x fa):=by
 obtain⟨_,t,pa,ha⟩:=ha
 refine⟨_,sf hR hK FB hc hg hm pa hd he hpl,@λHr R0 P0 H0 δ O σ H Dn E1 k=>?_⟩
 refine ha δ O σ H _ E1.ev (aq (ay k) λds z vs H1 s1 rs=>?_)
 by_cases hz:aN ds.length=true
 ·rw[if_pos hz] at z
  exact⟨by rw[rs.length];exact bj hz,hG _ _ (z H1 (E1.ev.root.trans s1)) C hm⟩
 ·rw[if_neg hz] at z
  exact z.elim
end
section
variable{P:Program}{w:World}{K:ε}{mg:Str->Option Value}{base:Heap}
theorem mz{x qual:Str}{st:Stmt}{f:Addr}{fd:FuncData}{N ps:List Str}{k:Nat}{g:DS->M Out}(F0:Fun K x qual st f fd)(S:FnScope N ps (af st))(hm:mg x=some (.ref f))(hb:cY K fd ps [])
  (hbody:∀(cdv:Value) (A:Around) (outer:List Env) (s:Shared) (H:Hp) (E:XK),Room k (A.deeper (envOfC qual (af st) s.heap.objs.size f cdv)) ->
   jA (et (CXE P w) P w K mg base N qual (af st) f cdv A outer s H E) (GX mg E) (aB st) g):DefX P w K mg base (k+1) x ps.length (run N.length g):=by
 refine⟨f,fd,ps,?_,hm,F0.kp,hb⟩
 obtain⟨oc,od,kV,doc,pm,an,cdv,ct,osl,rfl,lk,hcd⟩:=F0.ex
 refine wc lk hcd S (λvs H Q E h=>?_) λA outer s H vs Q E hr h=>?_
 ·obtain⟨O,ds,hl,_⟩:=h
  exact hl
 ·obtain⟨O,ds,hl,oo,r,q⟩:=h
  obtain⟨t,p,hB⟩:=hbody cdv A outer s H E hr
  refine⟨t,p,hB O (λ_=>False) H (dg N.length ds) O (L2.start N vs) H _ ⟨nR N oo r,λl hl=>.inl hl,λb o _ h=>h,λl hl=>.inl hl,λi es l h1 ho h2=>?_,λl hl=>hl⟩ (aq (ay q) λo z=>?_)⟩
  ·exact(mH h1 ho).elim
  ·cases o with
   | rt d=>exact λv H' kp r=>z v H' (λb o h=>kp b o (λw=>w) h) r
   | nx δ=>exact λO' σ' H' E'=>z .non H' (λb o h=>E'.keep b o (λw=>w) h) .non
   | bk δ=>exact z.elim
   | ct δ=>exact z.elim
theorem Def.x{k n:Nat}{x:Str}{F:List D->M D}(h:Def P w K mg base k x n F):DefX P w K mg base k x n (λds=>noX (F ds)):=by
 obtain⟨f,fd,ps,F1,hm,hk,hb⟩:=h.ex
 exact⟨f,fd,ps,F1.cx0.imp λvs H Q E ⟨O,ds,hl,oo,r,q⟩=>⟨O,ds,hl,oo,r,jI q⟩,hm,hk,hb⟩
end
end DL
namespace L2
open PyProof.Rows
section
variable{X:Cx}
theorem uP{pins:List (Addr×Obj)}{σ:St}{H H':Hp}{s s':Shared}{E:XK}{ea C t:Addr}{d:Option Addr}{B h5:Heap}(I:Inv X pins σ H s)(F:Fly X.prog X.w X.stack H s E ea C t d H' B s')(k5:B.StaysIn h5)(up:s'.heap.UpToSlots h5):Inv X pins σ H' { s' with heap:=h5 }:=by
 have k1:= let ⟨_,z⟩:=F.fl;z.1
 have mv:∀{b:Addr} {u:Obj},(∃ob,B.get? b=some ob)->s'.heap.get? b=some u->h5.get? b=some u:=λ{b u} hb e=>by
  obtain⟨ob,q⟩:=hb
  have:=k1 b ob q
  rw[e] at this
  cases this
  exact k5 b _ q
 have fr:∀{b:Addr},b∈frs X.stack->∀{o:Obj},s.heap.get? b=some o->∃sl,h5.get? b=some { o with slots:=sl }:=λ{b} hb {o} e=>by
  obtain⟨_,o',ho',hd⟩:=I.stack.mem hb
  rw[e] at ho'
  cases ho'
  obtain⟨sl,e1⟩:=F.un.slot b o e (I.stkFree b hb) hb (λz=>nomatch z)
  obtain⟨sl',e2⟩:=up b _ e1 hd
  simp_all
 refine I.call' F.os ⟨λb o e n h1 h2=>mv (F.old b o e h1) (F.un.keep b o e n h1 h2),λb o e n h1 h2=>fr h1 e,F.un.free,λb o e h2=>?_,F.un.tups,F.un.frzs,F.un.tbls⟩ (λa o e=>(F.hok a o e).stay (λb u hb q=>mv ?_ q) (λ_ q=>q) λ_ _ q=>q) F.bare (λb z=>nomatch z)
 ·by_cases h1:b∈frs X.stack
  ·grind
  ·obtain⟨ob,q⟩:=F.old b o e h1
   exact⟨ob,k5 b ob q⟩
 ·rcases hb with rfl | hb
  ·exact F.trk _ _ e
  ·exact F.trk _ _ hb
theorem Inv.names{pins:List (Addr×Obj)}{σ σ':St}{H:Hp}{s:Shared}{h':Heap}(I:Inv X pins σ H s)(hs:Heap.SameBut X.env.locals s.heap h')(hl:σ'.length=σ.length)
  (hn:∃m,h'.Ns X.env.locals m/\∀(i:Nat) (x:Str) (v:V),X.N[i]?=some x->σ'[i]?=some (some v)->Vis X.env.scope x->∃u,bC v u/\Look X.env h' m x u):Inv X pins σ' H { s with heap:=h' }:=by
 have old:∀{b:Addr} {o:Obj},X.s₀.heap.get? b=some o->b≠X.env.locals:=λe=>Z9 (Ω (Heap.lt_size e) I.ok.above)
 refine⟨I.ok,I.os,I.bare,⟨λb o e n hb hx=>(hs.2 b (old e)).trans (I.base.keep b o e n hb hx),λb o e n hb hx=>?_,I.base.free,λb o e hx=>?_,I.base.tups,I.base.frzs,I.base.tbls⟩,hn,λy c e=>?_,I.free,I.freeC,λp hp=>?_,λa o e=>?_,hl.trans I.len⟩
 ·obtain⟨sl,q⟩:=I.base.slot b o e n hb hx
  exact⟨sl,(hs.2 b (old e)).trans q⟩
 ·obtain⟨o',q⟩:=I.base.there b o e hx
  exact⟨o',(hs.2 b (old e)).trans q⟩
 ·obtain⟨v,z⟩:=I.cell y c e
  exact⟨v,z.sameBut hs (I.cne y c e)⟩
 ·obtain⟨e,n,ne,nf,d⟩:=I.pin p hp
  exact⟨(hs.2 p.1 ne).trans e,n,ne,nf,d⟩
 ·refine(I.hok a o e).stay (λb u hb q=>(hs.2 b ?_).trans q) (λ_ q=>q) λ_ _ q=>q
  rcases hb with rfl | hb
  ·exact aU e I.free
  ·exact aU hb I.free
abbrev Cx.tri(X:Cx)(pn:List (Addr×Obj))(xe:Value->Shared->Prop):Cx:={ X with pn:=pn,xe:=xe }
theorem Inv.tri{pins:List (Addr×Obj)}{σ:St}{H:Hp}{s:Shared}(I:Inv X pins σ H s)(xe:Value->Shared->Prop):Inv (X.tri (X.pn++pins) xe) [] σ H s :=
 ⟨⟨I.ok.mod,I.ok.kind,I.ok.glob,I.ok.blt,I.ok.above,I.ok.inj,I.ok.has,I.ok.cab,I.ok.hd,I.ok.frames,I.ok.stk,I.ok.exf,I.ok.bs,I.ok.bsz,I.ok.noex,I.ok.exfs,I.ok.funs,I.ok.frf⟩,
  I.os,I.bare,I.base,I.loc,I.cell,I.free,I.freeC,λp hp=>I.pin p (by simp_all),I.hok,I.len⟩
theorem Inv.untri{pins pins':List (Addr×Obj)}{σ:St}{H:Hp}{s:Shared}{xe:Value->Shared->Prop}(I:Inv (X.tri (X.pn++pins) xe) pins' σ H s):Inv X pins σ H s :=
 ⟨⟨I.ok.mod,I.ok.kind,I.ok.glob,I.ok.blt,I.ok.above,I.ok.inj,I.ok.has,I.ok.cab,I.ok.hd,I.ok.frames,I.ok.stk,I.ok.exf,I.ok.bs,I.ok.bsz,I.ok.noex,I.ok.exfs,I.ok.funs,I.ok.frf⟩,
  I.os,I.bare,I.base,I.loc,I.cell,I.free,I.freeC,λp hp=>I.pin p (Z1 _ hp),I.hok,I.len⟩
abbrev Cx.held(X:Cx)(pn:List (Addr×Obj))(e:Addr):Cx:={ X with A:=X.A.mark (some (.ref e)),calm:=false,pn:=pn,xe:=λ_ _=>False }
theorem Inv.held{pins:List (Addr×Obj)}{σ:St}{H:Hp}{s:Shared}{e:Addr}{oe:Obj}(I:Inv X pins σ H s)(he:s.heap.get? e=some oe/\H e=none/\e≠X.env.locals/\e∉X.fs/\∀v,oe.data≠.cell v):Inv (X.held (X.pn++pins++[(e,oe)]) e) [] σ H s :=
 ⟨⟨I.ok.mod,I.ok.kind,I.ok.glob,I.ok.blt,I.ok.above,I.ok.inj,I.ok.has,I.ok.cab,(λz=>nomatch z),I.ok.frames,I.ok.stk,I.ok.exf,I.ok.bs,I.ok.bsz,I.ok.noex,I.ok.exfs,I.ok.funs,I.ok.frf⟩,
  I.os,I.bare,I.base,I.loc,I.cell,I.free,I.freeC,λp hp=>by
   rw[Λ] at hp
   rcases Z6.mp hp with hp | hp
   ·exact I.pin p hp
   simp_all,I.hok,I.len⟩
theorem Inv.unheld{pins pins':List (Addr×Obj)}{σ:St}{H:Hp}{s:Shared}{e:Addr}{oe:Obj}(hd:X.calm=true->X.A.handled=none)(I:Inv (X.held (X.pn++pins++[(e,oe)]) e) pins' σ H s):Inv X pins σ H s :=
 ⟨⟨I.ok.mod,I.ok.kind,I.ok.glob,I.ok.blt,I.ok.above,I.ok.inj,I.ok.has,I.ok.cab,hd,I.ok.frames,I.ok.stk,I.ok.exf,I.ok.bs,I.ok.bsz,I.ok.noex,I.ok.exfs,I.ok.funs,I.ok.frf⟩,
  I.os,I.bare,I.base,I.loc,I.cell,I.free,I.freeC,λp hp=>I.pin p (Z1 _ (Z1 _ hp)),I.hok,I.len⟩
end
end L2
namespace L2
open PyProof.Rows
section
variable{X:Cx}
noncomputable def wQ(X:Cx)(sts:List Stmt):TS:=λD σ H=>∃t,PSs X sts t/\t D σ H
theorem ka{sts:List Stmt}:PSs X sts (wQ X sts):=λpins s σ H D I ⟨_,p,h⟩=>p pins s σ H D I h
noncomputable def Ends.gone(D:Ends)(i:Nat):Ends:=⟨λσ H=>D.nx (σ.set i none) H,D.rt,λσ H=>D.bk (σ.set i none) H,λσ H=>D.ct (σ.set i none) H⟩
noncomputable def tTry(X:Cx)(C:Addr)(i:Nat)(body suite:List Stmt):TS:=λD σ H=>∃Ex:XK,
 (∀pn xe,du (CXE X.prog X.w) (X.tri pn xe) Ex->wQ (X.tri pn xe) body D σ H) /\
 ∀c d H',Ex c d H'->c=.ref C/\∀pn ea oe,(ea,oe)∈pn->oe.cls=.ref C->wQ (X.held pn ea) suite (D.gone i) ((Z5 X.N.length none).set i (some (.ref ea))) H'
theorem xc{x n:Str}{C:Addr}{i:Nat}{B newId initId:String}{bm:List Value}{body suite:List Stmt}{b₀:Stmt}{np hp pos:Pos}(hK:X5 X.K C bm newId=true)(FB:ExcBaseFacts B newId initId bm)
  (hst:X.stack=X.env::X.outer) (hfr:X.env.frame=some X.env.locals) (hg:Gl X x) (hm:X.mg x=some (.ref C)) (hN:X.N.Nodup) (hi:X.N[i]?=some n) (hl:X.env.scope.names.lookup n=some .local) (hd:(x==("__debug__" : Str))=false:=by decide) :
  PS X (.Try body [.ExceptHandler (some (.Name x np)) (some n) (b₀::suite) hp] [] [] pos) (tTry X C i body (b₀::suite)):=by
 intro pins s σ H D I ⟨Ex,hb,hs⟩
 have hcls:(X.env.scope.kind==.class||(X.env.scope.kind==.module&&X.env.locals != X.env.globals))=false:=by rw[I.ok.kind];rfl
 refine wpAny_Try_except ?_
 have hps:du (CXE X.prog X.w) (X.tri (X.pn++pins) λe s'=>∃σ1 H1 s1,Inv X pins σ1 H1 s1/\CXE X.prog X.w X.stack H1 s1 Ex e s') Ex:=λpins' σ1 H1 s1 e s' I1 h1=>⟨σ1,H1,s1,I1.untri,h1⟩
 have hw:=ka [] s σ H D (I.tri _) (hb _ _ hps)
 refine wpAny_mono hw (λf s1 h1=>?_) (λe s1 h1=>?_)
 ·cases f with
  | next =>
   obtain⟨σ',H',I',q⟩:=h1
   exact wpAny_execs_nil (show SP X pins D .next s1 from⟨σ',H',I'.untri,q⟩)
  | brk=>obtain⟨σ',H',I',q⟩:=h1;exact⟨σ',H',I'.untri,q⟩
  | cont=>obtain⟨σ',H',I',q⟩:=h1;exact⟨σ',H',I'.untri,q⟩
  | ret u=>obtain⟨v,σ',H',I',r,q⟩:=h1;exact⟨v,σ',H',I'.untri,r,q⟩
 ·obtain⟨σ1,H1,s0,I0,ea,C',t,dx,H',B0,rfl,F⟩:=h1
  obtain⟨hc,hsuite⟩:=hs _ _ _ F.wish
  cases hc
  obtain⟨flv,fl⟩:=F.fl
  rw[hst] at fl
  refine XF.nw (I.ok.frames.trans (by rw[hst])) hfr fl F.dict λh4 hheld4 dd4 hsm4=>?_
  refine XF.pI hheld4 dd4 λh5 hheld5 dd5 hsm5=>?_
  have key:∀{h6:Heap},XF.jB B0 (X.env::X.outer) ea (.ref C) (.ref t) .none h6->s1.heap.UpToSlots h6->∃oe,oe.cls=.ref C/\h6.get? ea=some oe/\Inv (X.held (X.pn++pins++[(ea,oe)]) ea) [] σ1 H' { s1 with heap:=h6 }:=by
   intro h6 hfl6 hsm6
   have I6:=uP I0 F hfl6.1 hsm6
   obtain⟨oe,vs,hoe,hoec,hoed,_⟩:=hfl6.first
   refine⟨oe,hoec,hoe,I6.held ⟨hoe,?_,?_,?_,λv z=>by simp_all⟩⟩
   ·cases e:H' ea with
    | none=>rfl
    | some o =>
     obtain⟨ob,q⟩:=F.trk _ _ e
     rw[hfl6.2.1] at q;cases q
   ·rintro rfl
    obtain⟨m,⟨o',es,ep,ho',hd',_⟩,_⟩:=I6.loc
    simp_all
   ·intro hb'
    obtain⟨_,o',ho',hd'⟩:=I6.funs.mem hb'
    simp_all
  obtain⟨ob,hobc,hob,I5⟩:=key hheld5 (hsm4.trans hsm5)
  obtain⟨tl,N,nm,q,bs,hdct,sn,sub,ab,col,dd,k0,k1,k2,k3,k5,mN,hC,hNs,hni,T⟩:=wj I.ok.mod.kin hK
  refine wpAny_handleBy_cons (codeAny_handlers_test (d9 I5 hg hm ?_ hd)) (by intro q;cases q)
  refine wpAny_excMatches_sub_self (I5.bk _ _ hC) hob hobc (T.hasType FB.hasBase) (codeAny_handlers_suite_as ?_)
  refine XF.pI hheld5 dd5 λh6 hfl6 dd6 hsm6=>?_
  obtain⟨oe,hoec,hoe,I6⟩:=key hfl6 ((hsm4.trans hsm5).trans hsm6)
  have I7:=I6.weak (σ':=Z5 X.N.length none) (by rw[W2];exact I6.len.symm) (λj v z=>by
   grind)
  refine iH (X:=X.held (X.pn++pins++[(ea,oe)]) ea) I7 hN hi (.inl hl) (v:=.ref ea) rfl (λs9 I9=>?_) (.inr hl)
  refine wpAny_mono (ka [] s9 _ H' (D.gone i) I9 (hsuite _ ea oe (by simp) hoec)) (λf s10 z=>?_) (λ_ _ z=>z.elim)
  have gone:∀{σ':St} {H2:Hp} {Q:Unit->Shared->Prop},Inv (X.held (X.pn++pins++[(ea,oe)]) ea) [] σ' H2 s10->(∀s11,Inv X pins (σ'.set i none) H2 s11->Q () s11)->wpAny (model X.prog X.w) X.A (do bindName X.env n .none;unbindBehindTheSuite X.env n hp) Q X.xe s10:=by
   intro σ' H2 Q J k
   obtain⟨m,hn,hlk⟩:=J.loc
   refine wpAny_nameGoes_keeps hl hn hcls λh' v hn' hs'=>k _ ?_
   refine(((J.unheld I.ok.hd).names hs' (by simp) ⟨_,hn',λj y w e1 e2 e3=>?_⟩).tok _)
   by_cases hj:i=j
   ·grind
   ·rw[Y8 hj] at e2
    obtain⟨u,r,lk⟩:=hlk j y w e1 e2 e3
    refine⟨u,r,?_⟩
    rcases lk with ⟨a,b⟩ | ⟨a,c,e,z'⟩
    ·refine .inl ⟨a,?_⟩
     have:y≠n:=λe=>hj (ku hN (e▸e1) hi).symm
     simp_all
    ·exact .inr ⟨a,c,e,z'.sameBut hs' (J.cne y c e)⟩
  cases f with
  | next=>obtain⟨σ',H2,J,q⟩:=z;exact gone J λs11 J'=>⟨_,H2,J',q⟩
  | brk=>obtain⟨σ',H2,J,q⟩:=z;exact gone J λs11 J'=>⟨_,H2,J',q⟩
  | cont=>obtain⟨σ',H2,J,q⟩:=z;exact gone J λs11 J'=>⟨_,H2,J',q⟩
  | ret u=>obtain⟨v,σ',H2,J,r,q⟩:=z;exact gone J λs11 J'=>⟨v,_,H2,J',r,q⟩
end
end L2
namespace DL
open PyProof.Rows L2
section
variable{K:ε}{Hr:Hp}{R0:List Addr}{P0:Addr->Prop}{H0 H H':Hp}{O O':List Addr}{σ:St}{δ:DS}
noncomputable def Sl.noOw:Sl->Sl
 | .ow _=>.un
 | .od _=>.un
 | s=>s
noncomputable def noOw(δ:DS):DS:=δ.map Sl.noOw
noncomputable def Out.gone(i:Nat):Out->Out
 | .nx δ=>.nx (δ.set i .un)
 | .rt d=>.rt d
 | .bk δ=>.bk (δ.set i .un)
 | .ct δ=>.ct (δ.set i .un)
noncomputable def exS(N i:Nat)(a:Addr):DS:=(Z5 N Sl.un).set i (.ex a)
open Classical in
noncomputable def cc(N i:Nat)(gs:Addr->DS->M Out):M Out :=
 if h:∃r,∀a,(noX (gs a (exS N i a))).thn (λo=>M.ret (o.gone i))=r then choose h else none
theorem rG{N i:Nat}{gs:Addr->DS->M Out}{r:M Out}(h:∀a,(noX (gs a (exS N i a))).thn (λo=>M.ret (o.gone i))=r):cc N i gs=r:=by
 unfold cc
 rw[dif_pos ⟨r,h⟩]
 have q:=Classical.choose_spec (p:=λr=>∀a,(noX (gs a (exS N i a))).thn (λo=>M.ret (o.gone i))=r) ⟨r,h⟩
 exact(q 0).symm.trans (h 0)
theorem lG{N i:Nat}{gs:Addr->DS->M Out}{G:XD->Prop}{k:Out->Prop}(h:ok G (cc N i gs) k)(a:Addr):ok G ((noX (gs a (exS N i a))).thn (λo=>M.ret (o.gone i))) k:=by
 unfold cc at h
 split at h
 ·grind
 ·exact h.elim
open Classical in
noncomputable def gTry(x:Str)(N i:Nat)(gb:DS->M Out)(gs:Addr->DS->M Out):DS->M Out:=λδ=>match gb (noOw δ) with
 | none=>none
 | some (.ok o)=>some (.ok o)
 | some (.error y)=>if y.cls=x then cc N i gs else none
end
section
variable{X:Cx}{G:XD->Hp->Prop}
end
end DL
namespace L2
open PySem.W PySem.Calls PyProof.Rows
open PySem.Builtin.ObjectAttr PySem.Builtin PySem.Builtin.Getset_descriptor
def oH(x D:Addr)(h:Heap):Prop:=∃o,h.get? x=some o/\o.cls=.ref D
noncomputable def ic(K:Frag)(D:Addr):Bool :=
 (clsIn K D).isSome&&(findIn K (.ref D) "__getattribute__" == some (some (.builtin "BaseException.__getattribute__")))&&(findIn K (.ref D) "__getattr__" == some none) &&
 (findIn K (.ref D) "__class__" == some (some (.builtin "object.__class__")))&&(specialIn K (.builtin "object.__class__") "__get__" == some (some (.builtin "getset_descriptor.__get__"))) &&
 (takesIn K (.builtin "object.__class__")==some true)&&(mroIn K D (.type "object")==some true)&&(mroIn K D (.type "BaseException")==some true)
section
variable{prog:Program}{w:World}{A:Around}{E:Value->Shared->Prop}{K:Frag}{x D:Addr}{h:Heap}{g:Array GenState}{d:Drawn}{t:Nat}{os:OsState}
theorem gK{M:Model}(p:oH x D h):Looks M h (typeOf (.ref x)) (.ref D):=by
 obtain⟨o,h1,h2⟩:=p
 exact h2▸(Looks.ld h1).andThen .now
theorem Ag{M:Model}{name:Str}{a gv:Value}(X:K.In h)(ha:findIn K (.ref D) name=some (some a))(hg:specialIn K a "__get__" = some (some gv))(hd:takesIn K a=some true):Looks M h (find (.ref x) (.ref D) name) (.bind gv a):=by
 have L1:=looks_findIn (M:=M) X ha
 have L2:Looks M h (getOf (some a)) (some gv):=looks_specialIn X hg
 refine L1.andThen (L2.andThen ?_)
 have L3:=looks_takesIn (M:=M) X hd
 exact(show Looks M h (dataDescriptor? (some a) (some gv)) (some (gv,a)) from L3.andThen .now).andThen (Looks.tag .now)
theorem oY{tp:Value}{R:Result->Shared->Prop}(X:K.In h)(p:oH x D h)(hm:mroIn K D (.type "object")=some true)(hq:R (.ok (.ret (.ref D))) ⟨h,g,d,t,os⟩) :
  codeAny (model prog w) A (.call (.builtin "getset_descriptor.__get__") ⟨[.builtin "object.__class__",.ref x,tp],[]⟩) R ⟨h,g,d,t,os⟩:=by
 have L0:=gK (M:=model prog w) p
 have L1:=looks_mroIn (M:=model prog w) X hm
 refine codeAny_call_builtin KF.slot_gs.plain KF.entry_gs (KF.slot_gs.check _ _ _ _ _ _ _ _ KF.type_class (KF.args_gs _ _ _) ?_)
 unfold Builtin.«getset_descriptor.__get__» descrGet
 refine wpAny_bind (wpAny_pure ?_)
 unfold descrGetter descrCheckInstance descrNameAndClass isInstance
 simp only[KF.owner_class]
 repeat lk
 refine⟨Code.quiet_builtin _ (by simp),codeAny_builtin KF.entry_class ?_⟩
 repeat lk
 exact hq
theorem xI{tk:Tok}{Q:Fin->Shared->Prop}(X:K.In h)(p:oH x D h)(ha:findIn K (.ref D) "__class__" = some (some (.builtin "object.__class__")))
  (hn:specialIn K (.builtin "object.__class__") "__get__" = some (some (.builtin "getset_descriptor.__get__"))) (htk:takesIn K (.builtin "object.__class__")=some true) (hm:mroIn K D (.type "object")=some true)
  (hq:Q (.done (.ret (.ref D))) ⟨h,g,d,t,os⟩) :
  wpAny (model prog w) A (Builtin.«object.__getattribute__» ⟨[.ref x,.str "__class__" tk],[]⟩) Q E ⟨h,g,d,t,os⟩:=by
 have L0:=gK (M:=model prog w) p
 have L1:=Ag (M:=model prog w) (x:=x) X ha hn htk
 repeat (any_goals (first | with_reducible refine Looks.at (by assumption) ?_ | wp_step))
 refine oY X p hm ?_
 repeat (any_goals (first | assumption | wp_step))
theorem kL{M:Model}{nameV:Value}{Q:Unit->Shared->Prop}(X:K.In h)(p:oH x D h)(hb:mroIn K D (.type "BaseException")=some true)(hq:Q () ⟨h,g,d,t,os⟩) :
  wpAny M A (checkBuiltinCall "BaseException.__getattribute__" ⟨[.ref x,nameV],[]⟩) Q E ⟨h,g,d,t,os⟩:=by
 have L0:=gK (M:=M) p
 have L1:=looks_mroIn (M:=M) X hb
 have LI:Looks M h (isInstance (.ref x) (.type "BaseException")) true:=L0.andThen L1
 have hk:builtinKind "BaseException.__getattribute__" = some .slot:=by rfl
 have hsplit:splitId "BaseException.__getattribute__" = some ("BaseException", "__getattribute__"):=by rfl
 refine wpAny_bind (LI.at ?_)
 repeat (any_goals (first | assumption | wp_step))
theorem nQ{Q:Option Value->Shared->Prop}(hK:ic K D=true)(X:K.In h)(p:oH x D h)(hq:Q (some (.ref D)) ⟨h,g,d,t+1,os⟩):wpAny (model prog w) A (getAttr? (.ref x) "__class__") Q E ⟨h,g,d,t,os⟩:=by
 unfold ic at hK
 simp only[Ξ,beq_iff_eq] at hK
 obtain⟨⟨⟨⟨⟨⟨⟨hc,hga⟩,hgt⟩,ha⟩,hn⟩,htk⟩,hm⟩,hb⟩:=hK
 have L0:=gK (M:=model prog w) p
 have L1:=looks_findIn (M:=model prog w) X hga
 have L2:=looks_findIn (M:=model prog w) X hgt
 have f3:= F.excAttr_ValueError.ga.bind (.ref x)
 have hx2:(Value.builtin "BaseException.__getattribute__" == Value.builtin "object.__getattribute__")=false:=by rfl
 repeat (any_goals (first | with_reducible refine Looks.at (by assumption) ?_ | assumption | wp_step))
 refine codeAny_call_builtin F.excAttr_ValueError.ga.plain F.entry_bexc_ga (kL X p hb (xI X p ha hn htk hm ?_))
 repeat (any_goals (first | assumption | wp_step))
theorem zN(hK:ic K D=true):KitX K (.ref x) (.ref D) (oH x D) where
 ty:=λ_ _ _ p=>gK p
 it:=λ_ _ X _=>by
  unfold ic at hK
  simp only[Ξ] at hK
  obtain⟨⟨⟨⟨⟨⟨⟨hc,_⟩,_⟩,_⟩,_⟩,_⟩,_⟩,_⟩:=hK
  obtain⟨cdD,hcD⟩:=V1.mp hc
  unfold clsIn at hcD
  split at hcD
  ·rename_i c' d' cd' sl' ho
   intro A' Q' E' s' k q
   exact wpAny_bind (wpAny_loadPart (k _ _ (X _ _ ho)) (wpAny_pure q))
  simp_all
 ne:=λh tp dd its n sl X htp=>by
  unfold ic at hK
  simp only[Ξ] at hK
  obtain⟨⟨⟨⟨⟨⟨⟨hc,_⟩,_⟩,_⟩,_⟩,_⟩,_⟩,_⟩:=hK
  obtain⟨cdD,hcD⟩:=V1.mp hc
  refine Bool.eq_false_iff.mpr λq=>?_
  have e:= Value.ref.inj (beq_iff_eq.mp q)
  subst e
  unfold clsIn at hcD
  split at hcD
  ·rename_i c' d' cd' sl' ho
   have z:=(X _ _ ho).symm.trans htp
   cases z
  simp_all
 ca:=λ{_ _ _ _ _ s} X p k=>by
  exact nQ hK X p k
end
end L2
namespace DL
open PyProof.Rows L2
theorem lz{K:ε}{D:Addr}(h1:θ K (.ref D) "__getattribute__" = some (some (.builtin "BaseException.__getattribute__")))(h2:θ K (.ref D) "__getattr__" = some none)
  (h3:θ K (.ref D) "__class__" = some (some (.builtin "object.__class__"))) (h4:U5 K (.builtin "object.__class__") "__get__" = some (some (.builtin "getset_descriptor.__get__"))) (h5:PySem.W.takesIn K (.builtin "object.__class__")=some true)
  (h6:W0 K D (.type "object")=some true) (h7:W0 K D (.type "BaseException")=some true):ic K D=true:=by
 have h0:(PySem.W.clsIn K D).isSome=true:=by
  obtain⟨cd,a,b⟩:=Option.bind_eq_some_iff.mp h6
  simp_all
 unfold ic
 simp_all
section
variable{X:Cx}{G:XD->Hp->Prop}{pos:Pos}
noncomputable def clsV:V->Option Value
 | .ref a=>some (.ref a)
 | .ty n=>some (.type n)
 | _=>none
theorem AM{v:V}{c u:Value}(h:clsV v=some c)(r:bC v u):u=c:=by
 cases v<;>cases h<;>exact r
theorem AO{C ea:Addr}{oe:Obj}{v:V}{c:Value}{b:Bool}(hp:(ea,oe)∈X.pn)(hc:oe.cls=.ref C)(hK:ic X.K C=true)(hv:clsV v=some c)(hk:W7 X.K (.ref C) c=some b) :
  eF X (.builtin "isinstance") (λxs H Q=>xs=[.ref ea,v]/\Q (.bl b) H):=by
 intro pins s σ H xs us Q I r h
 obtain⟨rfl,q⟩:=h
 obtain⟨u,w',rfl,r1,r2⟩:=vp r
 cases (show u=Value.ref ea from r1)
 cases AM hv r2
 exact W5 (zN hK) I.kIn ⟨oe,(I.pin _ (Z1 _ hp)).1,hc⟩ hk (λz=>nomatch z) λtk=>⟨.bl _,H,I.tok _,rfl,q⟩
noncomputable def tf(a:Addr)(i:Nat)(b:Bool):DS->M D:=λδ=>match δ[i]? with
 | some (.ex a')=>if a'=a then M.ret (.bool b) else none
 | _=>none
theorem rh{a:Addr}{i:Nat}{b:Bool}{δ:DS}(h:δ[i]?=some (.ex a)):tf a i b δ=M.ret (.bool b):=by unfold tf;simp_all
theorem Cn{K:ε}{Hr:Hp}{O:List Addr}{H:Hp}{σ:St}{ea:Addr}{i:Nat}{b:Bool}{δ:DS}{G':XD->Prop}{k:D->Prop}(E:Ev K Hr O H σ δ)(h:ok G' (tf ea i b δ) k):σ[i]?=some (some (.ref ea))/\k (.bool b):=by
 unfold tf at h
 split at h
 ·rename_i a' e
  split at h
  ·rename_i z
   subst z
   exact⟨E.at_ i _ e,h⟩
  ·exact h.elim
 ·exact h.elim
theorem uo{C ea:Addr}{oe:Obj}{i:Nat}{x n y:Str}{v:V}{c:Value}{b:Bool}{p p1 p2:Pos}(hp:(ea,oe)∈X.pn)(hc:oe.cls=.ref C)(hK:ic X.K C=true)(hv:clsV v=some c)(hk:W7 X.K (.ref C) c=some b)
  (hx:x = "isinstance") (hg:Gl X x) (hm:X.mg x=none) (hN:X.N[i]?=some n) (hvi:Vis X.env.scope n) (hy:PE X (.Name y p2) (tC v))
  (hdb:(n==("__debug__" : Str))=false:=by decide) (hcd:(n==("__classdict__" : Str))=false:=by decide) :
  PD X G (.Call (.Name x p) [.Name n p1,.Name y p2] [] pos) (tf ea i b):=by
 subst hx
 refine⟨_,m6 (AO hp hc hK hv hk) hg hm boot_isinstance (dO (uk hN hvi hdb hcd) (dO hy iQ)) (by decide) (by decide),λδ O σ H Q E k=>?_⟩
 obtain⟨h1,k⟩:=Cn E k
 exact⟨.ref ea,h1,rfl,k _ _ (λ_ _ h=>h) (.bl _)⟩
end
end DL
namespace DL
open PyProof.Rows L2
section
variable{X:Cx}
noncomputable def one? : D->Bool
 | .bool _=>true
 | .none=>true
 | _=>false
noncomputable def j3:D->D->Bool
 | .bool a,.bool b=>a==b
 | .none,.none=>true
 | _,_=>false
noncomputable def uB(x y:D):Option D:=if one? y then some (.bool (!j3 x y)) else none
theorem BE:OpR X (compareOp .IsNot) (λx y H Q=>∃b,y=.bl b/\Q (.bl (!decide (x=.bl b))) H):=by
 intro pins s σ H x y v u Q I rx ry h
 obtain⟨b,rfl,q⟩:=h
 cases (show u=Value.bool b from ry)
 have fin:∀c:Bool,decide (x=V.bl b)=c->EP X pins σ Q (.bool (!c)) s:=λc e=>⟨.bl _,H,I,rfl,e▸q⟩
 cases x with
 | non=>cases (show v=Value.none from rx);exact wpAny_pure (fin false (by simp))
 | bl c=>cases (show v=Value.bool c from rx);exact wpAny_pure (fin (Value.bool c==Value.bool b) (by grind))
 | int i=>obtain⟨t,z⟩:=(show ∃t,v=Value.int i t from rx);cases z;exact wpAny_pure (fin false (by simp))
 | str i=>obtain⟨t,z⟩:=(show ∃t,v=Value.str i t from rx);cases z;exact wpAny_pure (fin false (by simp))
 | byt i=>obtain⟨t,z⟩:=(show ∃t,v=Value.bytes i t from rx);cases z;exact wpAny_pure (fin false (by simp))
 | flt i=>obtain⟨t,z⟩:=(show ∃t,v=Value.float i t from rx);cases z;exact wpAny_pure (fin false (by simp))
 | ref p=>cases (show v=Value.ref p from rx);exact wpAny_pure (fin false (by simp))
 | ty p=>cases (show v=Value.type p from rx);exact wpAny_pure (fin false (by simp))
theorem tX{K:ε}{O:List Addr}{H:Hp}{v u:V}{x y:D}(rv:Rep K O H v x)(ru:Rep K O H u y)(h1:one? y=true):(∃b,u=.bl b/\decide (v=.bl b)=j3 x y)\/(u=.non/\decide (v=.non)=j3 x y):=by
 cases ru with
 | non=>cases rv<;>simp [j3]
 | bl d=>cases rv<;>simp [j3]<;>exact decide_eq_decide.mpr Iff.rfl
 | _=>cases h1
theorem xL:DOp X (compareOp .IsNot) uB:=by
 refine⟨_,BE.or BD,λO H x y d v u Q oo rx ry e k=>?_⟩
 unfold uB at e
 by_cases h1:one? y=true
 ·rw[if_pos h1] at e
  cases e
  rcases tX rx ry h1 with ⟨b,h2,h3⟩ | ⟨h2,h3⟩
  ·exact .inl ⟨b,h2,h3▸k _ _ (λ_ _ h=>h) (h3▸.bl _)⟩
  ·exact .inr ⟨h2,h3▸k _ _ (λ_ _ h=>h) (h3▸.bl _)⟩
 simp_all
end
end DL
namespace DL
open PyProof.Rows L2
section
variable{X:Cx}
noncomputable def kt:List D->Option D
 | [.int i]=>if i.natAbs.log2<1920 then some (.str (Str.ofString (toString i))) else none
 | _=>none
theorem d6:lT X (.type "str") kt:=by
 refine⟨_,rj,λO H ds d vs Q oo rs e k=>?_⟩
 unfold kt at e
 split at e
 ·rename_i i
  by_cases hz:i.natAbs.log2<1920
  ·rw[if_pos hz] at e
   cases e
   obtain⟨v,rfl,r⟩:=d8 rs
   exact⟨i,by rw[r.int_inv],hz,k _ H (aJ.refl H) (.str _)⟩
  ·rw[if_neg hz] at e;cases e
 ·cases e
end
end DL
namespace DL
open PyProof.Rows L2
section
variable{δ:DS}{y:XD}{x:Str}{N i:Nat}{gb:DS->M Out}{gs:Addr->DS->M Out}{o:Out}
theorem iY{F:List D->M D}{fa:DS->M (List D)}{ds:List D}{d:D}(h1:fa δ=M.ret ds)(h2:F ds=M.ret d):br F fa δ=M.ret d:=by unfold br;rw[h1];exact h2
theorem AA{F:List D->M D}{fa:DS->M (List D)}{ds:List D}(h1:fa δ=M.ret ds)(h2:F ds=some (.error y)):br F fa δ=some (.error y):=by unfold br;rw[h1];exact h2
theorem lB{g:DS->M Out}{ds:List D}(h:g (dg N ds)=some (.error y)):run N g ds=some (.error y):=by unfold run;rw[h];rfl
theorem qZ{f:DS->M D}(h:f δ=some (.error y)):gDrop f δ=some (.error y):=by unfold gDrop;rw[h];rfl
theorem ik{g h:DS->M Out}(e:g δ=some (.error y)):bo g h δ=some (.error y):=by unfold bo;rw[e];rfl
theorem qY{c:DS->M Bool}{g h:DS->M Out}(e:c δ=M.ret true)(e2:g δ=some (.error y)):gIf c g h δ=some (.error y):=by unfold gIf;rw[e];exact e2
end
end DL
namespace DL
open PyProof.Rows L2
section
variable{X:Cx}{G:XD->Hp->Prop}{a b c e:Expr}{es:List Expr}{f:DS->M D}{fb:DS->M Bool}{fa:DS->M (List D)}{pos:Pos}{sts:List Stmt}{gs:DS->M Out}
end
section
variable{X:Cx}
noncomputable def oInt:List D->Option D
 | [.int i]=>some (.int i)
 | [.bool b]=>some (.int (if b then 1 else 0))
 | _=>none
end
section
variable{δ δ':DS}{f:DS->M D}{fb:DS->M Bool}{fa:DS->M (List D)}{gs gt g1 g2:DS->M Out}{d x y:D}{b:Bool}{ds:List D}{r:M Out}{o:Out}
theorem b3(h1:fb δ=M.ret b)(hb:b=false)(h2:gt δ=r):bo (gIf fb g1 dF) gt δ=r:=by
 subst hb
 unfold bo gIf;rw[h1,aR,if_neg Z0];exact h2
theorem kM(h1:fb δ=M.ret b)(hb:b=false):gIf fb g1 dF δ=M.ret (.nx δ):=by
 subst hb
 unfold gIf;rw[h1,aR,if_neg Z0];rfl
theorem vQ:zu (.int 10) (.int 10)=some (.int 10000000000):=rfl
theorem o_addL{xs ys:List D}(h:aN (xs.length+ys.length)=true):b5 (.list xs) (.list ys)=some (.list (xs++ys)):=by
 show(if aN (xs.length+ys.length)=true then _ else _)=_
 simp_all
theorem o_addS{xs ys:Str}(h:aN (xs.length+ys.length)=true):b5 (.str xs) (.str ys)=some (.str (xs++ys)):=by
 show(if aN (xs.length+ys.length)=true then _ else _)=_
 simp_all
end
end DL
namespace L2
open PyProof.Rows
section
variable{X:Cx}
theorem Inv.turnNew{pins:List (Addr×Obj)}{σ:St}{H:Hp}{s:Shared}{h':Heap}{t':Nat}{ch:List Addr}{a:Addr}{o:HO}(I:Inv X pins σ H s)(hf:∀b∈ch,kZ X pins H b)
  (k:∀b u,b∉ch->s.heap.get? b=some u->h'.get? b=some u) (hp:s.heap.objs.size<=a) (new:cy X.prog X.w (upd H a o) h' a o):Inv X pins σ (upd H a o) { s with heap:=h',toks:=t' }:=by
 have hn:=I.hok.fresh hp
 have nc:∀{b:Addr} {u:HO},H b=some u->b∉ch:=λe z=>by rw[(hf _ z).1] at e;cases e
 refine I.call ⟨λb u q _ _ hc=>k b u hc q,λb u q _ _ hc=>⟨u.slots,k b u hc q⟩,λb u q n _=>?_,λb u q hc=>⟨u,k b u hc q⟩,λb xs q=>?_,λb u xs q=>?_,λb ps q=>⟨#[],?_⟩⟩ (λb u e=>?_) I.bare λb hb=>?_
 ·rw[upd_ne (Z9 (Ω (Heap.lt_size q) hp))];exact n
 ·rw[upd_ne (aU q hn)];exact q
 ·rw[upd_ne (aU q hn)];exact q
 ·rw[upd_ne (aU q hn),q];simp
 ·by_cases hb:b=a
  ·subst hb;rw[aA] at e;simp_all
  ·rw[upd_ne hb] at e
   refine(I.hok b u e).stay (λc v hc q=>k c v ?_ q) (λc q=>by rw[upd_ne (aU q hn)];exact q) λc xs q=>by rw[upd_ne (aU q hn)];exact q
   grind
 ·obtain⟨_,f1,_,f3,f4,f5⟩:=hf b hb
  grind
theorem Inv.turnAll{pins:List (Addr×Obj)}{σ:St}{H:Hp}{s:Shared}{h':Heap}{t':Nat}{ch:List Addr}(I:Inv X pins σ H s)(hf:∀b∈ch,kZ X pins H b)
  (k:∀b u,b∉ch->s.heap.get? b=some u->h'.get? b=some u):Inv X pins σ H { s with heap:=h',toks:=t' }:=by
 have nc:∀{b:Addr} {u:HO},H b=some u->b∉ch:=λe z=>by rw[(hf _ z).1] at e;cases e
 refine I.call ⟨λb u q _ _ hc=>k b u hc q,λb u q _ _ hc=>⟨u.slots,k b u hc q⟩,λb u q n _=>n,λb u q hc=>⟨u,k b u hc q⟩,λb xs q=>q,λb u xs q=>q,λb ps q=>⟨#[],by assumption⟩⟩ (λb u e=>?_) I.bare λb hb=>?_
 ·refine(I.hok b u e).stay (λc v hc q=>k c v ?_ q) (λc q=>q) λc xs q=>q
  grind
 ·obtain⟨_,f1,_,f3,f4,f5⟩:=hf b hb
  grind
end
noncomputable def Ite(K:ε)(a:Addr):It :=
  ⟨λi H=>∃xs x,SqL K H a xs/\xs[i]?=some x,
   λi H v H'=>∃T,v=.ref T/\H T=none/\∀xs x,SqL K H a xs->xs[i]?=some x->H'=upd H T (.tup [.int i,x]),
   λi H=>∃xs,SqL K H a xs/\xs.length<=i⟩
noncomputable def Its(x:Str):It:=⟨λi _=>i<x.length,λi H v H'=>H'=H/\∃c,x.cps[i]?=some c/\v=.str ⟨#[c]⟩,λi _=>x.length<=i⟩
theorem ou{h:Heap}{a b:Addr}{o u:Obj}(e:h.get? a=some o)(e':h.get? b=some u)(d:o.cls≠u.cls):a≠b:=λz=>by
 simp_all
theorem ty_ne{a b:String}(h:a≠b):Value.type a≠Value.type b:=λz=>h (Value.type.inj z)
theorem wO{P:Program}{w:World}{K:ε}{elts:List Expr}{x1:Nat}{tpos:Pos}(a e it:Addr)(n1:e≠it) :
  Turn P w K (.Tuple elts x1 tpos) (Ite K a) [e,it] e (λi h=>(∃old,IsEnum h e it ((i:Nat):Int) old)/\h.IsListIter it a i) where
 mem:=by simp
 obj:=λi h st c hc=>by
  obtain⟨⟨old,he⟩,⟨o1,e1,c1,d1⟩⟩:=st
  grind
 keep:=λi h h' st k=>by
  obtain⟨⟨old,he⟩,h1⟩:=st
  exact⟨⟨old,k e (by simp) _ he⟩,h1.at λo e=>k it (by simp) o e⟩
 item:=by
  intro X hP hw hK hc i pins s σ H E I hf st hg
  subst hP hw hK
  obtain⟨⟨old,he⟩,h1⟩:=st
  obtain⟨xs,x,hq,hx⟩:=hg
  obtain⟨its,rv,p,_⟩:=I.list hq
  obtain⟨ux,hux,rx⟩:=rv.get hx
  obtain⟨o1,e1,c1,d1⟩:=id h1
  have fr:H s.heap.objs.size=none:=I.hok.fresh (ο _)
  have ne:∀{c:Addr} {o:Obj},s.heap.get? c=some o->s.heap.objs.size≠c:=λe=>Nat.ne_of_gt (Heap.lt_size e)
  obtain⟨oa,ea,ca,da⟩:=id p.isList
  have ne1:a≠e:=ou ea he (by simp_all)
  have ne2:a≠it:=ou ea e1 (by simp_all)
  refine wpAny_pyNext_enum_item he h1 p.isList (x:=ux) (by simp_all) n1 λh' e' h1' T' sz k=>?_
  refine⟨_,rfl,wpAny_letOwnedTupleGo_enum e' λh2 he2 sb=>?_⟩
  have k2:∀c o,c∉[e,it]->s.heap.get? c=some o->h2.get? c=some o:=λc o hc q=>by
   simp only[Δ,U7,or_false,not_or] at hc
   exact sb.extBut _ _ hc.1 (k c o hc.1 hc.2 q)
  have T2:h2.get? s.heap.objs.size=some { cls:=.type "tuple",data:=.seq #[.int i s.toks,ux] }:=sb.extBut _ _ (ne he) T'
  have I1:Inv X pins σ (upd H s.heap.objs.size (.tup [.int i,x])) { s with heap:=h2,toks:=s.toks+1 }:=by
   refine I.turnNew hf k2 (ο _) ⟨by show 2<=_;rw[sizeLine_eq];omega,[.int i s.toks,ux],.cons ⟨_,rfl⟩ (.cons rx .nil),?_⟩
   exact⟨_,T2,rfl,0,rfl⟩
  refine⟨.ref s.heap.objs.size,_,I1,rfl,⟨_,rfl,fr,λxs' x' q1 q3=>?_⟩,⟨⟨ux,he2⟩,h1'.extBut sb.extBut n1.symm⟩,λc hc=>?_⟩
  ·rw[I.list_inj q1 hq] at q3
   simp_all
  ·have hn:c≠s.heap.objs.size:=by
    grind
   rw[upd_ne hn]
   exact(hf c hc).1
 done:=by
  intro X hP hw hK hc i pins s σ H E I hf st hg
  subst hP hw hK
  obtain⟨⟨old,he⟩,h1⟩:=st
  obtain⟨xs,hq,hx⟩:=hg
  obtain⟨its,rv,p,_⟩:=I.list hq
  have hl:=rv.length
  refine wpAny_pyNext_enum_end (I.ok.hd hc) he h1 p.isList (by simp_all) λh' k=>⟨rfl,?_⟩
  refine I.turnAll (t':=s.toks) hf λc o hc e=>?_
  simp only[Δ,U7,or_false,not_or] at hc
  exact k c o hc.2 e
 self:=λ_ _ _ _ _ st h=>by
  obtain⟨⟨old,he⟩,_⟩:=st
  exact wpAny_pyIter_enum he h
section
variable{X:Cx}{elts:List Expr}{x1:Nat}{tpos:Pos}
noncomputable def iEnum(K:ε)(ta:TA):TI:=λσ H R=>ta σ H λvs H1=>∃a,vs=[.ref a]/\(∃xs,SqL K H1 a xs)/\R (Ite K a) H1
noncomputable def iStr(tl:TE):TI:=λσ H R=>tl σ H λx H1=>∃z,x=.str z/\R (Its z) H1
theorem Br{a:Expr}{ta:TA}{p pos:Pos}(hg:Gl X "enumerate")(hm:X.mg "enumerate" = none)(ha:PA X [a] ta)(hs:starEach [a] X.env=[(false,eval a X.env)]:=by rfl) :
  PI X (.Tuple elts x1 tpos) (.Call (.Name "enumerate" p) [a] [] pos) (iEnum X.K ta):=by
 intro pins s σ H R I h
 refine Call_ (lu I hg hm boot_enumerate (PyProof.Rows.callWith_type1 (thn (ha pos pins s σ H _ I h) λus s1 ⟨vs,H1,I1,r1,q1⟩=>?_) hs rfl))
 obtain⟨l1,e,⟨xs,hx⟩,q⟩:=q1
 subst e
 cases r1 with
 | cons r rr =>
  cases rr
  cases r
  obtain⟨its,rv,pl,_⟩:=I1.list hx
  refine call_enumerate_list pl.isList λh' he h1 sz k=>wpAny_pyIter_enum he ?_
  refine⟨s1.heap.objs.size+1,[s1.heap.objs.size+1,s1.heap.objs.size],_,_,H1,rfl,I1.kept (t':=s1.toks) k,
   wO l1 (s1.heap.objs.size+1) s1.heap.objs.size (by simp),⟨⟨_,he⟩,h1⟩,λc hc=>?_,q⟩
  have hc':s1.heap.objs.size<=c:=by
   grind
  exact I1.fpOk hc' (I1.hok.fresh hc')
theorem mE{P:Program}{w:World}{K:ε}{tg:Expr}(it:Addr)(x:Str)(t:Tok):Turn P w K tg (Its x) [it] it (λi h=>h.IsStrIter it "str_ascii_iterator" x t i) where
 mem:=by simp
 obj:=λi h st b hb=>by
  have e:b=it:=by simp_all
  subst e
  obtain⟨o,e,c,d⟩:=st
  simp_all
 keep:=λi h h' st k=>let ⟨o,ho,r⟩:=st;⟨o,k it (by simp) o ho,r⟩
 item:=by
  intro X hP hw hK hc i pins s σ H E I hf st hg
  obtain⟨f0,f1,f2,f3,f4,f5⟩:=hf it (by simp)
  have hg:i<x.cps.size:=hg
  refine wpAny_pyNext_ascii_item st (c:=x.cps[i]) (by simp [hg]) λh' st' sb=>?_
  have I1:Inv X pins σ H { s with heap:=h',toks:=s.toks+1 }:=I.turned (λb o hb e=>(sb.2 b hb).trans e) f0 f1 f3 f4 f5
  obtain⟨o,e,c1,d1⟩:=id st'
  exact⟨_,rfl,sQ e c1 d1 (by decide) ⟨.str ⟨#[x.cps[i]]⟩,H,I1,⟨_,rfl⟩,⟨rfl,x.cps[i],by simp [hg],rfl⟩,st',λb hb=>(hf b hb).1⟩⟩
 done:=by
  intro X hP hw hK hc i pins s σ H E I hf st hg
  obtain⟨f0,f1,f2,f3,f4,f5⟩:=hf it (by simp)
  have hg:x.cps.size<=i:=hg
  exact wpAny_pyNext_ascii_end (I.ok.hd hc) st (by simp_all) λh' eb=>⟨rfl,I.turned (λb o hb e=>eb b o hb e) f0 f1 f3 f4 f5⟩
 self:=λ_ _ _ _ _ st h=>wpAny_pyIter_striter_ascii st h
theorem oI{P:Program}{w:World}{K:ε}{tg:Expr}(it:Addr)(x:Str)(t:Tok):Turn P w K tg (Its x) [it] it (λi h=>h.IsStrIter it "str_iterator" x t i) where
 mem:=by simp
 obj:=λi h st b hb=>by
  have e:b=it:=by simp_all
  subst e
  obtain⟨o,e,c,d⟩:=st
  simp_all
 keep:=λi h h' st k=>let ⟨o,ho,r⟩:=st;⟨o,k it (by simp) o ho,r⟩
 item:=by
  intro X hP hw hK hc i pins s σ H E I hf st hg
  obtain⟨f0,f1,f2,f3,f4,f5⟩:=hf it (by simp)
  have hg:i<x.cps.size:=hg
  refine wpAny_pyNext_wide_item st (c:=x.cps[i]) (by simp [hg]) λh' st' sb=>?_
  have I1:Inv X pins σ H { s with heap:=h',toks:=s.toks+1 }:=I.turned (λb o hb e=>(sb.2 b hb).trans e) f0 f1 f3 f4 f5
  obtain⟨o,e,c1,d1⟩:=id st'
  exact⟨_,rfl,sQ e c1 d1 (by decide) ⟨.str ⟨#[x.cps[i]]⟩,H,I1,⟨_,rfl⟩,⟨rfl,x.cps[i],by simp [hg],rfl⟩,st',λb hb=>(hf b hb).1⟩⟩
 done:=by
  intro X hP hw hK hc i pins s σ H E I hf st hg
  obtain⟨f0,f1,f2,f3,f4,f5⟩:=hf it (by simp)
  have hg:x.cps.size<=i:=hg
  exact wpAny_pyNext_wide_end (I.ok.hd hc) st (by simp_all) λh' eb=>⟨rfl,I.turned (λb o hb e=>eb b o hb e) f0 f1 f3 f4 f5⟩
 self:=λ_ _ _ _ _ st h=>wpAny_pyIter_striter_wide st h
theorem pi_str{l:Expr}{tl:TE}{tg:Expr}(hl:PE X l tl):PI X tg l (iStr tl):=by
 intro pins s σ H R I h
 refine thn (hl pins s σ H _ I h) λv s1 ⟨x,H1,I1,r1,q1⟩=>?_
 obtain⟨z,e,q⟩:=q1
 subst e
 obtain⟨t,rfl⟩:=r1
 have fp:∀b∈[s1.heap.objs.size],kZ X pins H1 b:=λb hb=>by
  have e:b=s1.heap.objs.size:=by simp_all
  subst e
  exact I1.fpOk (ο _) (I1.hok.fresh (ο _))
 cases ha:z.cps.all (· < 128)
 ·exact wpAny_pyIter_wide ha ⟨s1.heap.objs.size,[s1.heap.objs.size],_,_,H1,rfl,I1.kept λb o e=>Heap.get?_push_of_some _ e,oI _ z t,⟨_,Heap.get?_push_size _ rfl,rfl,rfl⟩,fp,q⟩
 ·exact wpAny_pyIter_ascii ha ⟨s1.heap.objs.size,[s1.heap.objs.size],_,_,H1,rfl,I1.kept λb o e=>Heap.get?_push_of_some _ e,mE _ z t,⟨_,Heap.get?_push_size _ rfl,rfl,rfl⟩,fp,q⟩
end
end L2
namespace L2
open PyProof.Rows
noncomputable def bM(X:Cx)(scope:Scope)(cl:List (Str×Addr))(fr:List (Nat×Str))(tn:List Str)(C:Addr)(s3:Shared)(H3:Hp)(fp:List Addr):Cx where
 prog:=X.prog
 w:=X.w
 K:=X.K
 mg:=X.mg
 base:=X.base
 A:=X.A
 N:=tn++fr.map (·.2)
 s₀:=s3
 H₀:=H3
 env:=compEnvC scope cl C X.env
 outer:=X.stack
 stack:=X.stack
 ex:=fp
 fn:=λ_=>false
 calm:=X.calm
 pn:=[]
 xe:=λ_ _=>False
noncomputable def jU(n:Nat)(fr:List (Nat×Str))(σ:St):St:=Z5 n none++fr.map λp=>(σ[p.1]?).join
def qf(n:Nat)(fr:List (Nat×Str))(wi:TI)(g:TG)(tc:TT)(te:TE):TE:=λσ H Q=>wi σ H λJ H1=>∀l,H1 l=none->∃W:Nat->Nat->St->List V->Hp->Prop,(∃m,W 0 m (jU n fr σ) [] (upd H1 l (.lst []))) /\
 ∀i m τ xs H2,W i m τ xs H2->H2 l=some (.lst xs)/\((J.stop i H2/\Q (.ref l) H2)\/(J.go i H2/\xs.length<sizeLine/\∀x H3,J.yld i H2 x H3->g x τ H3 λτ' H4=>tc τ' H4 λb H5=>if b=true then te τ' H5 λv H6=>H6 l=some (.lst xs)/\∃m',m'<m/\W (i+1) m' τ' (xs++[v]) (upd H6 l (.lst (xs++[v]))) else ∃m',m'<m/\W (i+1) m' τ' xs H5))
section
variable{X:Cx}
theorem AL{cl:List (Str×Addr)}{fr:List (Nat×Str)}{scope:Scope}{tn:List Str}{C:Addr}{s3:Shared}{H3:Hp}{fp:List Addr}{pins:List (Addr×Obj)}{σ:St}(I:Inv X pins σ H3 s3)(hkind:scope.kind=.function)(hsub:∀y c,cl.lookup y=some c->X.env.cells.lookup y=some c)(hhas:∀y∈(relabel scope X.env).names,(y.2=.cell\/y.2=.free)->∃c,cl.lookup y.1=some c)
  (hC:s3.heap.objs.size<=C) (hf:∀b∈fp,kZ X pins H3 b/\∃o,s3.heap.get? b=some o) (hfs:∀b∈fp,b∉frs X.stack) (hbase:∀b∈fp,X.base.get? b=none):(bM X scope cl fr tn C s3 H3 fp).Ok where
 mod:=I.ok.mod
 kind:=hkind
 glob:=I.ok.glob
 blt:=I.ok.blt
 above:=hC
 inj:=λy z c h1 h2=>I.ok.inj y z c (hsub y c h1) (hsub z c h2)
 has:=λy h=>by
  rcases h with h | h
  ·exact hhas _ (PySem.mem_of_lookup h) (.inl rfl)
  ·exact hhas _ (PySem.mem_of_lookup h) (.inr rfl)
 cab:=λy c h=>by cases h
 hd:=I.ok.hd
 frames:=I.ok.frames
 stk:=.inl rfl
 exf:=λb hb=>⟨by
  obtain⟨o,ho⟩:=(hf b hb).2
  exact Z9 (Ω (Heap.lt_size ho) hC),λy c h=>(hf b hb).1.2.2.2.2.1 y c (hsub y c h)⟩
 bs:=I.bs
 bsz:=Y9 I.ok.bsz I.sz
 noex:=λb o e hb=>by
  have e1:X.base.get? b=some o:=e
  rw[hbase b hb] at e1;cases e1
 exfs:=hfs
 funs:=I.stack
 frf:=I.stkFree
theorem xS{cl:List (Str×Addr)}{fr:List (Nat×Str)}{scope:Scope}{tn:List Str}{C:Addr}{s3 s5:Shared}{H3 H5:Hp}{fp:List Addr}{pins pins5:List (Addr×Obj)}{σ σ5:St}{h':Heap}(I:Inv X pins σ H3 s3)(hf:∀b∈fp,kZ X pins H3 b)(hC:s3.heap.objs.size<=C)
  (I5:Inv (bM X scope cl fr tn C s3 H3 fp) pins5 σ5 H5 s5) (hs:Heap.SameBut C s5.heap h'):Inv X pins σ H5 { s5 with heap:=h' }:=by
 have nC:∀{b:Addr} {o:Obj},s3.heap.get? b=some o->b≠C:=λe=>Z9 (Ω (Heap.lt_size e) hC)
 have u:Un (frs X.stack) fp H3 H5 s3.heap s5.heap:=I5.base
 refine I.call' (ch:=fp) I5.os ⟨λb o e n h1 h2=>?_,λb o e n h1 h2=>?_,u.free,λb o e h2=>?_,u.tups,u.frzs,u.tbls⟩ ?_ I5.bare λb hb=>?_
 ·exact(hs.2 b (nC e)).trans (u.keep b o e n h1 h2)
 ·obtain⟨sl,e1⟩:=u.slot b o e n h1 h2
  exact⟨sl,(hs.2 b (nC e)).trans e1⟩
 ·obtain⟨o',e1⟩:=u.there b o e h2
  exact⟨o',(hs.2 b (nC e)).trans e1⟩
 ·intro a o e
  have hn:H5 C=none:=I5.free
  refine(I5.hok a o e).stay (λb u hb q=>(hs.2 b ?_).trans q) (λ_ q=>q) λ_ _ q=>q
  grind
 ·obtain⟨_,f1,_,f3,f4,f5⟩:=hf b hb
  grind
def PTs(X:Cx)(ifs:List Expr)(t:TT):Prop :=
 ∀(pins:List (Addr×Obj)) (s:Shared) (σ:St) (H:Hp) (Q:Bool->Hp->Prop),Inv X pins σ H s->t σ H Q ->
  wpAny (model X.prog X.w) X.A (forIn ifs true λc r=>if r=true then do let ok <- isTrue c X.env (eval c X.env);pure (ForInStep.yield ok) else pure (ForInStep.yield r)) (TP X pins σ Q) X.xe s
noncomputable def tYes:TT:=λ_ H Q=>Q true H
theorem Bl:PTs X [] tYes:=λpins s σ H Q I h=>wpAny_tests_nil ⟨H,I,h⟩
theorem xR{cl:List (Str×Addr)}{fr:List (Nat×Str)}{tn:List Str}{elt iter tg:Expr}{ifs:List Expr}{scope:Scope}{pos:Pos}{wi:TI}{g:TG}{tc:TT}{te:TE}(hc:X.calm=true)
  (hkind:scope.kind=.function) (hcell:∀y∈scope.names,y.2≠.cell) (hclos:closureFor scope X.env=pure cl) (hsub:∀y c,cl.lookup y=some c->X.env.cells.lookup y=some c)
  (hhas:∀y∈(relabel scope X.env).names,(y.2=.cell\/y.2=.free)->∃c,cl.lookup y.1=some c) (hfr:∀p∈fr,X.N[p.1]?=some p.2/\X.env.kindOf p.2=some .cell/\(compEnvC scope cl 0 X.env).kindOf p.2=some .cell/\∃c,cl.lookup p.2=some c) (hnames:∀y∈scope.names,y.2=.local->scope.names.lookup y.1=some .local)
  (hi:PI X tg iter wi) (hg:∀C s3 H3 fp,PG (bM X scope cl fr tn C s3 H3 fp) tg g) (hcs:∀C s3 H3 fp,PTs (bM X scope cl fr tn C s3 H3 fp) ifs tc) (he:∀C s3 H3 fp,PE (bM X scope cl fr tn C s3 H3 fp) elt te) (hs:∀x,foldedSetIterable iter X.env x=pure x)
  {qp:Pos} {use:Option (Value->Sem Unit)} {P:Value->Shared->Prop} {pins:List (Addr×Obj)} {s:Shared} {σ:St} {H:Hp} {Q:VK} (I:Inv X pins σ H s) (h:qf tn.length fr wi g tc te σ H Q)
  (fin:∀{D:Addr} {s3 s6:Shared} {H3 H5:Hp} {fp:List Addr} {pins5:List (Addr×Obj)} {σ5:St} {r:Flow},Inv X pins σ H3 s3->(∀b∈fp,kZ X pins H3 b)->Inv (bM X scope cl fr tn s3.heap.objs.size s3 H3 fp) pins5 σ5 H5 s6->Q (.ref D) H5 ->
   compPost (model X.prog X.w) X.A X.xe use P (.ref D) s3.heap.objs.size (.ok r) s6) :
  wpAny (model X.prog X.w) X.A (comprehension (.ListComp elt [⟨tg,iter,ifs,0⟩] scope pos) scope X.env qp (newList []) false (eval iter X.env) use) P X.xe s:=by
 refine wpAny_comprehension_free rfl hs hclos hkind hnames (thn (hi pins s σ H _ I h) λv s1 h1=>thn h1 λitv s2 h2=>?_)
 obtain⟨it,fp,tk,J,H2,e,I2,T,st2,f2,R⟩:=h2
 subst e
 have fl:H2 s2.heap.objs.size=none:=I2.hok.fresh (ο _)
 obtain⟨W,⟨m0,w0⟩,turn⟩:=R s2.heap.objs.size fl
 refine wpAny_newObj_type (wpAny_newFunctionEnv hcell (by intro y hy;simp at hy) (λh4 hns hsb=>?_) hkind)
 have I3:Inv X pins σ (upd H2 s2.heap.objs.size (.lst [])) { s2 with heap:=s2.heap.push { cls:=.type "list",data:=.seq ([]:List Value).toArray } } :=
  I2.laid (t':=s2.toks) (λb o e=>Heap.get?_push_of_some _ e) (ο _) ⟨W4 _,[],0,.nil,Heap.get?_push_size _ rfl⟩
 have ob:∀b∈fp,∃o,s2.heap.get? b=some o:=λb hb=>let ⟨o,ho,_⟩:=T.obj 0 _ st2 b hb;⟨o,ho⟩
 have f3:∀b∈fp,kZ X pins (upd H2 s2.heap.objs.size (.lst [])) b:=λb hb=>by
  obtain⟨g0,g1,g2,g3,g4,g5⟩:=f2 b hb
  obtain⟨o,ho⟩:=ob b hb
  exact⟨by rw[upd_ne (Z9 (Heap.lt_size ho))];exact g0,g1,g2,g3,g4,g5⟩
 generalize hs3:({ s2 with heap:=s2.heap.push { cls:=.type "list",data:=.seq ([]:List Value).toArray } }:Shared)=s3 at I3
 have heap3:s2.heap.push { cls:=.type "list",data:=.seq ([]:List Value).toArray }=s3.heap:=by rw[<-hs3]
 have old3:∀b o,s2.heap.get? b=some o->s3.heap.get? b=some o:=λb o e=>by rw[<-heap3];exact Heap.get?_push_of_some _ e
 have ok3:(bM X scope cl fr tn s3.heap.objs.size s3 (upd H2 s2.heap.objs.size (.lst [])) fp).Ok:=by
  refine AL I3 hkind hsub hhas (ο _) (λb hb=>⟨f3 b hb,let ⟨o,ho⟩:=ob b hb;⟨o,old3 b o ho⟩⟩) (λb hb z=>?_) λb hb=>?_
  ·obtain⟨_,g1,g2,_⟩:=f2 b hb
   rcases Δ.mp (I2.stkSub b z) with q | q
   ·exact g1 q
   ·exact g2 q
  ·obtain⟨_,_,_,g3,_⟩:=f2 b hb
   rcases g3 with q | q
   ·cases e:X.base.get? b with
    | none=>rfl
    | some o=>exact absurd q (I.ok.noex b o e)
   ·exact Heap.get?_none_of_le (Y9 I.ok.bsz q)
 have hns3:h4.Ns s3.heap.objs.size (λy=>([]:List (Str×Value)).reverse.lookup y):=by rw[<-heap3];exact hns
 have keep4:∀b o,s3.heap.get? b=some o->h4.get? b=some o:=λb o e=>by
  have e1:(s2.heap.push { cls:=.type "list",data:=.seq ([]:List Value).toArray }).get? b=some o:=by rw[heap3];exact e
  exact(hsb.2 b (Z9 (Heap.lt_size e1))).trans (Heap.get?_push_of_some _ e1)
 have I4:Inv (bM X scope cl fr tn s3.heap.objs.size s3 (upd H2 s2.heap.objs.size (.lst [])) fp) [] (jU tn.length fr σ) (upd H2 s2.heap.objs.size (.lst [])) { s3 with heap:=h4 }:=by
  refine⟨ok3,rfl,I3.bare,Un.kept keep4,⟨_,hns3,λi y v e1 e2 e3=>?_⟩,(λy c h=>let ⟨v,oc,ho,hd⟩:=I3.cell y c (hsub y c h);⟨v,oc,keep4 _ _ ho,hd⟩),I3.hok.fresh (ο _),(λy c h=>I3.freeC y c (hsub y c h)),(λp hp=>nomatch hp),I3.hok.kept keep4,by simp [bM,jU]⟩
  have e1:(tn++fr.map (·.2))[i]?=some y:=e1
  have e2:(Z5 tn.length none++fr.map λp=>(σ[p.1]?).join)[i]?=some (some v):=e2
  by_cases hlt:i<tn.length
  ·rw[X9 (by simpa using hlt),V3] at e2
   split at e2<;>cases e2
  ·rw[Z8 (by omega)] at e1
   rw[Z8 (by simpa using hlt),W2] at e2
   rw[Φ] at e1 e2
   cases q:fr[i-tn.length]? with
   | none=>rw[q] at e1;cases e1
   | some p =>
    rw[q] at e1 e2
    have e1:p.2=y:=Option.some.inj e1
    have e2:(σ[p.1]?).join=some v:=Option.some.inj e2
    subst e1
    obtain⟨g1,g2,g3,c,g4⟩:=hfr p (U9 q)
    have e4:σ[p.1]?=some (some v):=by
     cases z:σ[p.1]? with
     | none=>rw[z] at e2;cases e2
     | some w'=>rw[z] at e2;exact congrArg some e2
    obtain⟨m,hn,hl⟩:=I3.loc
    obtain⟨u,ru,lk⟩:=hl p.1 p.2 v g1 e4 (.inr (.inl g2))
    refine⟨u,ru,.inr ⟨.inl g3,c,g4,?_⟩⟩
    rcases lk with ⟨k1,_⟩ | ⟨_,c',k2,k3⟩
    ·rw[g2] at k1;cases k1
    ·rw[hsub _ _ g4] at k2
     cases k2
     obtain⟨oc,ho,hd⟩:=k3
     exact⟨oc,keep4 _ _ ho,hd⟩
 have st4:tk 0 h4:=T.keep 0 _ _ st2 λb hb o e=>keep4 b o (old3 b o e)
 have loop:codeAny (model X.prog X.w) X.A (.compLoop (.ListComp elt [⟨tg,iter,ifs,0⟩] scope pos) 0 (.ref it) (.ref s2.heap.objs.size) (compEnvC scope cl s3.heap.objs.size X.env))
   (compPost (model X.prog X.w) X.A X.xe use P (.ref s2.heap.objs.size) s3.heap.objs.size) { s3 with heap:=h4 }:=by
  refine codeAny_loop rfl (λn s'=>∃i σ' xs H',Inv (bM X scope cl fr tn s3.heap.objs.size s3 (upd H2 s2.heap.objs.size (.lst [])) fp) [] σ' H' s'/\tk i s'.heap/\(∀b∈fp,H' b=none)/\W i n σ' xs H') (λn s' hI=>?_) m0
   ⟨0,_,[],_,I4,st4,λb hb=>(f3 b hb).1,w0⟩
  show wpAny _ _ ((compTurn (.ListComp elt [⟨tg,iter,ifs,0⟩] scope pos) 0 (.ref it) (.ref s2.heap.objs.size) (compEnvC scope cl s3.heap.objs.size X.env)).onRaise (λx=>do noteFrame x _;theTreesLotGoes x)) _ _ s'
  refine wpAny_noted ?_
  rw[compTurn_list]
  obtain⟨i,σ5,xs,H5,I5,st5,fr5,w5⟩:=hI
  have stat:∀{H':Hp},(∀b∈fp,H' b=none)->∀b∈fp,kZ (bM X scope cl fr tn s3.heap.objs.size s3 (upd H2 s2.heap.objs.size (.lst [])) fp) [] H' b:=λhn b hb =>
   ⟨hn b hb,(ok3.exf b hb).1,ok3.exfs b hb,.inl hb,(ok3.exf b hb).2,λp hp=>nomatch hp⟩
  obtain⟨hl,alt⟩:=turn i n σ5 xs H5 w5
  rcases alt with ⟨stop,qn⟩ | ⟨go,hz,step⟩
  ·refine wpAny_bind (wpAny_standAt (wpAny_bind (thn (T.done (bM X scope cl fr tn s3.heap.objs.size s3 (upd H2 s2.heap.objs.size (.lst [])) fp) rfl rfl rfl hc i [] s' σ5 H5 _ I5 (stat fr5) st5 stop) λr s6 ⟨hr,I6⟩=>?_)))
   subst hr
   refine wpAny_pure ?_
   exact fin I3 f3 I6 qn
  ·refine wpAny_bind (wpAny_standAt (wpAny_bind (thn (T.item (bM X scope cl fr tn s3.heap.objs.size s3 (upd H2 s2.heap.objs.size (.lst [])) fp) rfl rfl rfl hc i [] s' σ5 H5 _ I5 (stat fr5) st5 go) λr s6 ⟨u,hr,h6⟩=>?_)))
   subst hr
   refine wpAny_bind (thn h6 λ_ s7 ⟨y,H7,I7,r7,y7,st7,fr7⟩=>?_)
   have I7':=I7.pinned (stat fr7) (T.obj _ _ st7)
   have hP:=hg s3.heap.objs.size s3 (upd H2 s2.heap.objs.size (.lst [])) fp _ s7 σ5 H7 y u _ I7' r7 (step y H7 y7)
   refine wpAny_bind (wpAny_mono hP (λ_ s8 ⟨σ8,H8,I8,q8⟩=>?_) (λ_ _ z=>False.elim z))
   refine wpAny_bind (wpAny_mono (hcs s3.heap.objs.size s3 (upd H2 s2.heap.objs.size (.lst [])) fp _ s8 σ8 H8 _ I8 q8) (λb s9 ⟨H9,I9,q9⟩=>?_) (λ_ _ z=>False.elim z))
   have again:∀{σ7:St} {H7:Hp} {s7':Shared} {xs':List V},Inv (bM X scope cl fr tn s3.heap.objs.size s3 (upd H2 s2.heap.objs.size (.lst [])) fp) ([]++m4 fp s7.heap) σ7 H7 s7'->(∃m',m'<n/\W (i+1) m' σ7 xs' H7) ->
     ∃m,m<n/\∃i σ' xs H',Inv (bM X scope cl fr tn s3.heap.objs.size s3 (upd H2 s2.heap.objs.size (.lst [])) fp) [] σ' H' s7'/\tk i s7'.heap/\(∀b∈fp,H' b=none)/\W i m σ' xs H':=λ{σ7 H7 s7' xs'} I7 n7=>by
    obtain⟨m',hm,w7⟩:=n7
    refine⟨m',hm,i+1,σ7,xs',H7,I7.unpinned,T.keep _ _ _ st7 λb hb o e=>(I7.pin (b,o) (Y1 _ (Y1 _ (hU hb e)))).1,λb hb=>?_,w7⟩
    obtain⟨o,e,d⟩:=T.obj _ _ st7 b hb
    exact(I7.pin (b,o) (Y1 _ (Y1 _ (hU hb e)))).2.1
   cases b with
   | false =>
    rw[if_neg Z0] at q9
    exact wpAny_pure ⟨rfl,again I9 q9⟩
   | true =>
    rw[if_pos rfl] at q9
    refine wpAny_bind (wpAny_bind (wpAny_mono (he _ _ _ _ _ s9 σ8 H9 _ I9 q9) (λuv s10 ⟨v,H10,I10,r10,hl10,w10⟩=>?_) λ_ _ z=>z.elim))
    refine wpAny_bind (wpAny_mono (pE (X:=bM X scope cl fr tn s3.heap.objs.size s3 (upd H2 s2.heap.objs.size (.lst [])) fp) _ s10 _ H10 (.ref s2.heap.objs.size) [v] (.ref s2.heap.objs.size) [uv] (λ_ H'=>H'=upd H10 s2.heap.objs.size (.lst (xs++[v]))) I10 rfl (.cons r10 .nil) ⟨_,xs,v,rfl,rfl,hl10,hz,rfl⟩) (λ_ s11 ⟨v11,H11,I11,r11,q11⟩=>?_) (λ_ _ z=>False.elim z))
    subst q11
    exact wpAny_pure (wpAny_pure ⟨rfl,again I11 w10⟩)
 subst hs3
 exact codeAny_compStart_list loop (T.self _ 0 _ _ _ st4 loop)
theorem yZ{cl:List (Str×Addr)}{fr:List (Nat×Str)}{tn:List Str}{elt iter tg:Expr}{ifs:List Expr}{scope:Scope}{pos:Pos}{wi:TI}{g:TG}{tc:TT}{te:TE}(hc:X.calm=true)
  (hkind:scope.kind=.function) (hcell:∀y∈scope.names,y.2≠.cell) (hclos:closureFor scope X.env=pure cl) (hsub:∀y c,cl.lookup y=some c->X.env.cells.lookup y=some c)
  (hhas:∀y∈(relabel scope X.env).names,(y.2=.cell\/y.2=.free)->∃c,cl.lookup y.1=some c) (hfr:∀p∈fr,X.N[p.1]?=some p.2/\X.env.kindOf p.2=some .cell/\(compEnvC scope cl 0 X.env).kindOf p.2=some .cell/\∃c,cl.lookup p.2=some c) (hnames:∀y∈scope.names,y.2=.local->scope.names.lookup y.1=some .local)
  (hi:PI X tg iter wi) (hg:∀C s3 H3 fp,PG (bM X scope cl fr tn C s3 H3 fp) tg g) (hcs:∀C s3 H3 fp,PTs (bM X scope cl fr tn C s3 H3 fp) ifs tc) (he:∀C s3 H3 fp,PE (bM X scope cl fr tn C s3 H3 fp) elt te) (hs:∀x,foldedSetIterable iter X.env x=pure x:=by intro _;rfl) :
  PE X (.ListComp elt [⟨tg,iter,ifs,0⟩] scope pos) (qf tn.length fr wi g tc te):=by
 intro pins s σ H Q I h
 refine xR hc hkind hcell hclos hsub hhas hfr hnames hi hg hcs he hs I h λI3 f3 I6 qn=>?_
 obtain⟨m,hn6,_⟩:=I6.loc
 exact⟨m,hn6,λh' hs'=>⟨.ref _,_,xS I3 f3 (ο _) I6 hs',rfl,qn⟩⟩
end
end L2
namespace DL
open PyProof.Rows L2
structure Yl(K:ε)(J:It)(O:List Addr)(H1:Hp)(ds:List D):Prop where
 step:∀(O2:List Addr) (H2:Hp),To O O2 H1 H2->∀(i:Nat) (d:D),ds[i]?=some d->J.go i H2/\∀x H3,J.yld i H2 x H3->aJ H2 H3/\Rep K O2 H3 x d
 stop:∀(O2:List Addr) (H2:Hp),To O O2 H1 H2->J.stop ds.length H2
def PDI(X:Cx)(G:XD->Hp->Prop)(tg iter:Expr)(fi:DS->M (List D)):Prop :=
 ∃wi,PI X tg iter wi/\∀{Hr:Hp} (δ:DS) (O:List Addr) (σ:St) (H:Hp) (R:It->Hp->Prop),Ev X.K Hr O H σ δ->ok (GS G Hr) (fi δ) (λds=>∀J H1,aJ H H1->Yl X.K J O H1 ds->R J H1)->wi σ H R
section
variable{K:ε}{O:List Addr}{H1:Hp}
theorem AY{a:Addr}{xs:List V}{ds:List D}(hk:∀(O2:List Addr) (H2:Hp),To O O2 H1 H2->SqL K H2 a xs)(rs:Reps K O H1 xs ds):Yl K (Itl K a) O H1 ds:=by
 refine⟨λO2 H2 t i d hd=>?_,λO2 H2 t=>⟨xs,hk O2 H2 t,by rw[rs.length];omega⟩⟩
 obtain⟨v,hv,r⟩:=rs.get hd
 refine⟨⟨xs,v,hk O2 H2 t,hv⟩,λx H3 y=>?_⟩
 obtain⟨rfl,y⟩:=y
 have:=y xs (hk O2 H3 t)
 rw[hv] at this
 cases this
 exact⟨aJ.refl _,r.to t⟩
theorem yl_tup{a:Addr}{xs:List V}{ds:List D}(hq:SqT K H1 a xs)(rs:Reps K O H1 xs ds):Yl K (Itt K a) O H1 ds:=by
 refine⟨λO2 H2 t i d hd=>?_,λO2 H2 t=>⟨xs,t.sqT hq,by rw[rs.length];omega⟩⟩
 obtain⟨v,hv,r⟩:=rs.get hd
 refine⟨⟨xs,v,t.sqT hq,hv⟩,λx H3 y=>?_⟩
 obtain⟨rfl,y⟩:=y
 have:=y xs (t.sqT hq)
 rw[hv] at this
 cases this
 exact⟨aJ.refl _,r.to t⟩
theorem xX{lo:Int}{n:Nat}:Yl K (Itr lo n) O H1 (fX lo n):=by
 have hl:(fX lo n).length=n:=by unfold fX;simp
 refine⟨λO2 H2 t i d hd=>?_,λO2 H2 t=>by rw[hl];exact ο _⟩
 have hi:i<n:=by
  grind
 refine⟨hi,λx H3 y=>?_⟩
 obtain⟨rfl,rfl⟩:=y
 unfold fX at hd
 rw[Φ,List.getElem?_range hi] at hd
 cases hd
 exact⟨aJ.refl _,.int _⟩
theorem Rep.lstTo{v:V}{ds:List D}(r:Rep K O H1 v (.list ds)):∃a xs,v=.ref a/\SqL K H1 a xs/\(∀(O2:List Addr) (H2:Hp),To O O2 H1 H2->SqL K H2 a xs)/\Reps K O H1 xs ds:=by
 cases r with
 | lst h n rs=>exact⟨_,_,rfl,.inl h,λO2 H2 t=>.inl (t.l _ _ n h).2,rs⟩
 | lstK h rs=>exact⟨_,_,rfl,.inr h,λ_ _ _=>.inr h,rs⟩
noncomputable def ej(n:Nat):List D->List D
 | []=>[]
 | x::xs=>.tuple [.int (n:Int),x]::ej (n+1) xs
theorem pW(n:Nat)(xs:List D):(ej n xs).length=xs.length:=by
 induction xs generalizing n with
 | nil=>rfl
 | cons x xs ih=>show(ej (n+1) xs).length+1=_;simp_all
theorem pX{xs:List D}{n i:Nat}{d:D}(h:(ej n xs)[i]?=some d):∃x,xs[i]?=some x/\d=.tuple [.int ((n+i:Nat):Int),x]:=by
 induction xs generalizing n i with
 | nil=>cases h
 | cons x xs ih =>
  cases i with
  | zero=>cases h;simp
  | succ i =>
   obtain⟨y,hy,e⟩:=ih h
   grind
theorem AZ{a:Addr}{xs:List V}{ds:List D}(hk:∀(O2:List Addr) (H2:Hp),To O O2 H1 H2->SqL K H2 a xs)(rs:Reps K O H1 xs ds):Yl K (Ite K a) O H1 (ej 0 ds):=by
 refine⟨λO2 H2 t i d hd=>?_,λO2 H2 t=>⟨xs,hk O2 H2 t,?_⟩⟩
 ·obtain⟨x,hx,rfl⟩:=pX hd
  obtain⟨v,hv,r⟩:=rs.get hx
  refine⟨⟨xs,v,hk O2 H2 t,hv⟩,λz H3 q=>?_⟩
  obtain⟨T,rfl,hT,q⟩:=q
  have e:=q xs v (hk O2 H2 t) hv
  subst e
  rw[Nat.zero_add]
  exact⟨bn hT,fH hT (.cons (.int _) (.cons (r.to t) .nil))⟩
 ·rw[pW,rs.length]
  omega
noncomputable def dH(z:Str):List D:=z.cps.toList.map λc=>.str ⟨#[c]⟩
theorem yl_str{z:Str}:Yl K (Its z) O H1 (dH z):=by
 have hl:(dH z).length=z.length:=by unfold dH;rw[ι,Array.length_toList];rfl
 refine⟨λO2 H2 t i d hd=>?_,λO2 H2 t=>by rw[hl];exact ο _⟩
 have hi:i<z.length:=by
  grind
 refine⟨hi,λx H3 y=>?_⟩
 obtain⟨rfl,c,hc,rfl⟩:=y
 unfold dH at hd
 rw[Φ,Array.getElem?_toList,hc] at hd
 cases hd
 exact⟨aJ.refl _,.str _⟩
end
section
variable{X:Cx}{G:XD->Hp->Prop}{tg iter a b:Expr}{f:DS->M D}{fa:DS->M (List D)}{pos p:Pos}{elts:List Expr}{x1:Nat}{tpos:Pos}
noncomputable def AH(f:DS->M D):DS->M (List D):=λδ=>(f δ).thn λd=>M.lift (seqD d)
theorem Bz(h:PD X G iter f):PDI X G tg iter (AH f):=by
 obtain⟨t,q,h⟩:=h
 refine⟨_,pi_seq q,λδ O σ H R E k=>?_⟩
 refine h δ O σ H _ E (aq (ay k) λd z v H1 s1 r=>?_)
 obtain⟨ds,hd,z⟩:=cN z
 cases d with
 | list es =>
  obtain⟨a,xs,rfl,hq,hk,rs⟩:=r.lstTo
  exact⟨a,rfl,.inl ⟨⟨xs,hq⟩,z _ H1 s1 (AY hk rs)⟩⟩
 | tuple es =>
  obtain⟨a,xs,rfl,hq,rs⟩:=r.tup_inv
  exact⟨a,rfl,.inr ⟨⟨xs,hq⟩,z _ H1 s1 (yl_tup hq rs)⟩⟩
 | _=>cases hd
noncomputable def va(rng:List D->Option (List D))(fa:DS->M (List D)):DS->M (List D):=λδ=>(fa δ).thn λds=>M.lift (rng ds)
theorem kg(hgl:Gl X "range")(hm:X.mg "range" = none)(ha:PDA X G [a] fa)(hs1:starEach [a] X.env=[(false,eval a X.env)]:=by rfl):PDI X G tg (.Call (.Name "range" p) [a] [] pos) (va qy fa):=by
 obtain⟨_,ta,pa,ha⟩:=ha
 refine⟨_,xi hgl hm pa hs1,λδ O σ H R E k=>?_⟩
 refine ha δ O σ H _ E (aq (ay k) λds z vs H1 s1 rs=>?_)
 obtain⟨xs,hd,z⟩:=cN z
 unfold qy at hd
 split at hd
 ·rename_i j
  by_cases hz:b62 j=true
  ·rw[if_pos hz] at hd
   cases hd
   obtain⟨v,rfl,r⟩:=d8 rs
   obtain⟨z1,z2⟩:=b62_of hz
   exact⟨j,by rw[r.int_inv],z1,z2,z _ H1 s1 xX⟩
  simp_all
 simp_all
noncomputable def wA(fa:DS->M (List D)):DS->M (List D):=λδ=>(fa δ).thn λds=>match ds with
 | [.list xs]=>M.ret (ej 0 xs)
 | _=>none
theorem ze(hgl:Gl X "enumerate")(hm:X.mg "enumerate" = none)(ha:PDA X G [a] fa)(hs1:starEach [a] X.env=[(false,eval a X.env)]:=by rfl) :
  PDI X G (.Tuple elts x1 tpos) (.Call (.Name "enumerate" p) [a] [] pos) (wA fa):=by
 obtain⟨_,ta,pa,ha⟩:=ha
 refine⟨_,Br hgl hm pa hs1,λδ O σ H R E k=>?_⟩
 refine ha δ O σ H _ E (aq (ay k) λds z vs H1 s1 rs=>?_)
 match ds,z with
 | [.list xs],z =>
  obtain⟨v,rfl,r⟩:=d8 rs
  obtain⟨a1,us,rfl,hq,hk,r1⟩:=r.lstTo
  exact⟨a1,rfl,⟨us,hq⟩,z _ H1 s1 (AZ hk r1)⟩
noncomputable def uZ(f:DS->M D):DS->M (List D):=λδ=>(f δ).thn λd=>match d with
 | .str z=>M.ret (dH z)
 | _=>none
theorem By(h:PD X G iter f):PDI X G tg iter (uZ f):=by
 obtain⟨t,q,h⟩:=h
 refine⟨_,pi_str q,λδ O σ H R E k=>?_⟩
 refine h δ O σ H _ E (aq (ay k) λd z v H1 s1 r=>?_)
 match d,z,r with
 | .str w,z,r=>exact⟨w,r.str_inv,z _ H1 s1 yl_str⟩
noncomputable def lQ(fi:DS->M (List D))(t:D->DS->Option DS)(g:DS->M Out):DS->M Out:=λδ=>(fi δ).thn λds=>ib (gS t g) ds δ
theorem ki{body:List Stmt}{t:D->DS->Option DS}{fi:DS->M (List D)}{gs:DS->M Out}(hp:PassesOwn (model X.prog X.w) X.A X.env X.xe)(hc:X.calm=true)(hi:PDI X G tg iter fi)(hg:PDG X tg t)(hb:jA X G body gs)
  (hs:∀x,foldedSetIterable iter X.env x=pure x:=by intro _;rfl):PDS X G (.For tg iter body [] pos) (lQ fi t gs):=by
 obtain⟨wi,pi,hi⟩:=hi
 obtain⟨tgt,pt,hg⟩:=hg
 obtain⟨tb,pb,hb⟩:=hb
 refine⟨_,yM hp hc pi pt pb hs,@λHr R0 P0 H0 δ O σ H Dn E k=>?_⟩
 refine hi δ O σ H _ E.ev (aq (ay k) λds z J H1 s1 Y=>?_)
 have E1:=E.same s1
 have z1:= aq z λo q=>Fin.outer E1 q
 refine⟨λi m σ2 H2=>m=ds.length-i/\i<=ds.length/\∃δ2 O2,EI X.K Hr R0 (Ch O R0) H1 O2 H2 σ2 δ2/\ok (GS G Hr) (ib (gS t gs) (ds.drop i) δ2) (Fin X.K Hr R0 (Ch O R0) H1 Dn),⟨_,rfl,W4 _,δ,O,E1.inner,z1⟩,?_⟩
 rintro i m σ2 H2 ⟨rfl,hi,δ2,O2,E2,k2⟩
 have T:=E1.to E2
 by_cases hlt:i<ds.length
 ·right
  have hd:= Z7 hlt
  obtain⟨go,yl⟩:=Y.step O2 H2 T i _ hd
  refine⟨go,λσ' H'=>∃δ2 O2,EI X.K Hr R0 (Ch O R0) H1 O2 H' σ' δ2/\ok (GS G Hr) (ib (gS t gs) (ds.drop (i+1)) δ2) (Fin X.K Hr R0 (Ch O R0) H1 Dn),λσ' H' h=>⟨_,by omega,rfl,hlt,h⟩,λx H3 y=>?_⟩
  obtain⟨s3,rx⟩:=yl x H3 y
  rw[nY hd] at k2
  have k3:=ay (show ok (GS G Hr) ((gS t gs ds[i] δ2).thn _) _ from k2)
  obtain⟨δ3,h3,k4⟩:=cN (ay (show ok (GS G Hr) ((M.lift (t ds[i] δ2)).thn gs) _ from k3))
  refine hg R0 (Ch O R0) H1 δ2 δ3 ds[i] x O2 σ2 H3 _ (E2.same s3) rx h3 λσ4 H4 E4 _=>?_
  refine hb R0 (Ch O R0) H1 δ3 O2 σ4 H4 _ E4 (aq k4 λo z=>?_)
  cases o with
  | nx δ5=>exact λO5 σ5 H5 E5=>⟨δ5,O5,E5,z⟩
  | ct δ5=>exact λO5 σ5 H5 E5=>⟨δ5,O5,E5,z⟩
  | bk δ5=>assumption
  | rt d=>exact z
 ·left
  have e:i=ds.length:=by omega
  subst e
  rw[List.drop_length] at k2
  exact⟨Y.stop O2 H2 T,k2 O2 σ2 H2 E2⟩
noncomputable def gQ(t:D->DS->Option DS)(c:DS->M Bool)(f:DS->M D):List D->DS->M (List D)
 | [],_=>M.ret []
 | d::ds,δ=>(M.lift (t d δ)).thn λδ'=>(c δ').thn λb=>if b=true then (f δ').thn λy=>(gQ t c f ds δ').thn λys=>M.ret (y::ys) else gQ t c f ds δ'
noncomputable def kS:DS->M Bool:=λ_=>M.ret true
noncomputable def nX{α:Type}(f:DS->M α):DS->M α:=λδ=>noX (f δ)
noncomputable def gz(n:Nat)(js:List Nat)(t:D->DS->Option DS)(fi:DS->M (List D))(c:DS->M Bool)(f:DS->M D):DS->M D:=λδ=>(fi δ).thn λds=>if aN ds.length then (gQ t (nX c) (nX f) ds (Z5 n .un++js.map (mJ δ))).thn λys=>M.ret (.list ys) else none
def Cu(X:Cx)(ifs:List Expr)(f:DS->M Bool):Prop :=
 ∃t,PTs X ifs t/\∀{Hr:Hp} (δ:DS) (O:List Addr) (σ:St) (H:Hp) (Q:Bool->Hp->Prop),Ev X.K Hr O H σ δ->ok (λ_=>False) (f δ) (λb=>∀H',aJ H H'->Q b H')->t σ H Q
theorem iN:Cu X [] kS:=⟨_,Bl,λδ O σ H Q E k=>k H (aJ.refl H)⟩
theorem ut{α:Type}{Hr:Hp}{r:M α}{k:α->Prop}(h:ok (λ_=>False) r k):ok (GS (λ_ _=>False) Hr) r k:=ng h
end
end DL
namespace DL
open PyProof.Rows L2
noncomputable def gD(K:ε)(t:D->DS->Option DS):TG:=λv σ H Q=>∃Hr R0 P0 H0 δ δ' d O,EI K Hr R0 P0 H0 O H σ δ/\Rep K O H v d/\t d δ=some δ'/\∀σ' H',EI K Hr R0 P0 H0 O H' σ' δ'->aJ H H'->Q σ' H'
theorem PDG.can{X:Cx}{e:Expr}{t:D->DS->Option DS}(h:PDG X e t):PG X e (gD X.K t):=by
 obtain⟨g,p,h⟩:=h
 intro pins s σ H v u Q I r hw
 obtain⟨Hr,R0,P0,H0,δ,δ',d,O,E,rd,ht,k⟩:=hw
 exact p pins s σ H v u Q I r (h R0 P0 H0 δ δ' d v O σ H Q E rd ht k)
noncomputable def cD(K:ε)(f:DS->M Bool):TT:=λσ H Q=>∃Hr δ O,Ev K Hr O H σ δ/\ok (λ_=>False) (f δ) (λb=>∀H',aJ H H'->Q b H')
theorem Cu.can{X:Cx}{ifs:List Expr}{f:DS->M Bool}(h:Cu X ifs f):PTs X ifs (cD X.K f):=by
 obtain⟨t,p,h⟩:=h
 intro pins s σ H Q I hw
 obtain⟨Hr,δ,O,E,k⟩:=hw
 exact p pins s σ H Q I (h δ O σ H Q E k)
section
variable{K:ε}{O:List Addr}{H1 H H':Hp}{l:Addr}{τ:St}{δ:DS}
abbrev EC(K:ε)(O:List Addr)(H1:Hp)(l:Addr)(H:Hp)(τ:St)(δ:DS):Prop:=EI K (λ_=>none) (l::O) (λb=>b=l) H1 (l::O) H τ δ
theorem EC.put{xs ys:List V}(E:EC K O H1 l H τ δ)(hl:H l=some (.lst xs)):EC K O H1 l (upd H l (.lst ys)) τ δ:=by
 have ts:To (l::O) (l::O) H (upd H l (.lst ys)):=To.set hl υ
 refine⟨⟨(λ_ _ z=>nomatch z),λa ha=>?_,E.ev.len,λi s hs=>?_,E.ev.dis⟩,E.omr,λb o n h=>?_,E.om,E.nr1,E.sub⟩
 ·by_cases e:a=l
  ·subst e;exact .lst aA
  ·exact(E.ev.oo a ha).upd_ne e
 ·have q:=E.ev.at_ i s hs
  cases s with
  | un=>trivial
  | ex a=>exact q
  | vl d =>
   obtain⟨v,h1,r⟩:=q
   exact⟨v,h1,r.to ts⟩
  | ow ds =>
   obtain⟨a,us,h1,h2,h3,r⟩:=q
   exact absurd h2 (E.nr i ds a hs h1)
  | od es =>
   obtain⟨a,us,h1,h2,h3,r⟩:=q
   exact absurd h2 (E.nr1 i _ a hs trivial h1)
 ·rw[upd_ne n]
  exact E.keep b o n h
theorem Ba{Hr:Hp}{σ:St}{δ:DS}{fr:List (Nat×Str)}(E:Ev K Hr O H σ δ)(n:Nat)(hl:H l=none):EC K O H l (upd H l (.lst [])) (jU n fr σ) (Z5 n .un++(fr.map (·.1)).map (mJ δ)):=by
 have get:∀(i:Nat) (s:Sl),(Z5 n Sl.un++(fr.map (·.1)).map (mJ δ))[i]?=some s->s=.un\/∃d v,s=.vl d/\(jU n fr σ)[i]?=some (some v)/\Rep K O H v d:=λi s h=>by
  by_cases hi:i<n
  ·grind
  ·rw[Z8 (by simp_all),W2,Φ,Φ] at h
   cases q:fr[i-n]? with
   | none=>simp_all
   | some p =>
    rw[q] at h
    have h:= Option.some.inj h
    unfold mJ at h
    split at h
    ·rename_i d hd
     subst h
     obtain⟨v,hv,r⟩:=E.val hd
     refine .inr ⟨d,v,rfl,?_,r⟩
     unfold jU
     grind
    simp_all
 have to:To O (l::O) H (upd H l (.lst [])):=To.own hl
 refine⟨⟨(λ_ _ z=>nomatch z),λa ha=>?_,by simp [jU],λi s hs=>?_,λi j a ds es hij h1=>?_⟩,λa ha=>.inl ha,λb o nb h=>by rw[upd_ne nb];exact h,λa ha=>.inl ha,λi ds a h1 ho=>?_,λa ha=>ha⟩
 ·rcases Δ.mp ha with rfl | ha
  ·exact .lst aA
  ·exact(E.oo a ha).new hl
 ·rcases get i s hs with rfl | ⟨d,v,rfl,hv,r⟩
  ·trivial
  ·exact⟨v,hv,r.to to⟩
 ·grind
 ·rcases get i _ h1 with z | ⟨_,_,z,_⟩<;>(cases z;exact ho.elim)
end
section
variable{X:Cx}{G:XD->Hp->Prop}{fi:DS->M (List D)}{c:DS->M Bool}{f:DS->M D}{t:D->DS->Option DS}
theorem vO{α:Type}{g:XD->Prop}{f:DS->M α}{δ:DS}{k:α->Prop}(h:ok g (nX f δ) k):ok (λ_=>False) (f δ) k:=jI h
def NewL(K:ε)(O:List Addr)(H:Hp)(k:V->Hp->Prop)(d:D):Prop:=∀ds,d=.list ds->∀l xs H',aJ H H'->H l=none->H' l=some (.lst xs)->Reps K (l::O) H' xs ds->k (.ref l) H'
theorem tu{fr:List (Nat×Str)}{tn:List Str}{wi:TI}(hi:∀{Hr:Hp} (δ:DS) (O:List Addr) (σ:St) (H:Hp) (R:It->Hp->Prop),Ev X.K Hr O H σ δ->ok (GS G Hr) (fi δ) (λds=>∀J H1,aJ H H1->Yl X.K J O H1 ds->R J H1)->wi σ H R)
  {Hr:Hp} (δ:DS) (O:List Addr) (σ:St) (H:Hp) (Q:VK) (E:Ev X.K Hr O H σ δ) (k:ok (GS G Hr) (gz tn.length (fr.map (·.1)) t fi c f δ) (NewL X.K O H Q)) :
  qf tn.length fr wi (gD X.K t) (cD X.K c) (tD X.K (λ_ _=>False) f) σ H Q:=by
 refine hi δ O σ H _ E (aq (ay k) λds z J H1 s1 Y=>?_)
 by_cases hsz:aN ds.length=true
 case neg =>
  rw[if_neg hsz] at z
  exact z.elim
 rw[if_pos hsz] at z
 intro l hl
 have E1:=E.same s1
 have hl0:H l=none:=by
  cases q:H l with
  | none=>rfl
  | some o=>rw[s1 l o q] at hl;cases hl
 have kk:=aq (ay z) λys (q:NewL X.K O H Q (.list ys))=>(show ∀xs H2,Kp l H1 H2->H2 l=some (.lst xs)->Reps X.K (l::O) H2 xs ys->Q (.ref l) H2 from
  λxs H2 kp h2 rx=>q ys rfl l xs H2 (s1.trans (kp.same hl)) hl0 h2 rx)
 refine⟨λi m τ xs H2=>m=ds.length-i/\i<=ds.length/\xs.length<=i/\H2 l=some (.lst xs)/\∃δc ys,EC X.K O H1 l H2 τ δc/\Reps X.K (l::O) H2 xs ys /\
  ok (GS G Hr) (gQ t (nX c) (nX f) (ds.drop i) δc) (λrest=>∀xs H3,Kp l H1 H3->H3 l=some (.lst xs)->Reps X.K (l::O) H3 xs (ys++rest)->Q (.ref l) H3),
  ⟨_,rfl,W4 _,ο _,aA,_,[],Ba E1 tn.length hl,.nil,kk⟩,?_⟩
 rintro i m τ xs H2 ⟨rfl,hi,hx,h2,δc,ys,Ec,ry,kc⟩
 have kp:Kp l H1 H2:=λb o hb e=>Ec.keep b o hb e
 refine⟨h2,?_⟩
 have T:To O (l::O) H1 H2:=kp.to hl
 by_cases hlt:i<ds.length
 ·right
  have hd:= Z7 hlt
  obtain⟨go,yl⟩:=Y.step (l::O) H2 T i _ hd
  refine⟨go,Nat.lt_of_le_of_lt hx (Ω hlt (bj hsz)),λx H3 y=>?_⟩
  obtain⟨s3,rx⟩:=yl x H3 y
  rw[nY hd] at kc
  obtain⟨δ',ht,kc⟩:=cN (ay (show ok (GS G Hr) ((M.lift (t ds[i] δc)).thn _) _ from kc))
  refine⟨_,_,_,_,δc,δ',ds[i],l::O,Ec.same s3,rx,ht,λτ' H4 E4 s4=>?_⟩
  refine⟨_,δ',l::O,E4.ev,aq (vO (ay kc)) λb zb H5 s5=>?_⟩
  have E5:=E4.same s5
  have s25:=(s3.trans s4).trans s5
  dsimp only
  cases b with
  | false =>
   exact⟨_,by omega,rfl,hlt,by omega,s25 _ _ h2,δ',ys,E5,ry.same s25,zb⟩
  | true =>
   refine⟨_,δ',l::O,E5.ev,ut (aq (vO (ay zb)) λy kz v H6 s6 rv=>?_)⟩
   have h6:= s6 _ _ (s25 _ _ h2)
   have ts:To (l::O) (l::O) H6 (upd H6 l (.lst (xs++[v]))):=To.set h6 υ
   refine⟨h6,ds.length-(i+1),by omega,rfl,hlt,by simp_all,aA,δ',ys++[y],EC.put (E5.same s6) h6,(((ry.same s25).same s6).to ts).append (.cons (rv.to ts) .nil),?_⟩
   exact aq (ay kz) λrest q xs7 H7 kp7 h7 r7=>q xs7 H7 kp7 h7 (by simp_all)
 ·left
  have e:i=ds.length:=by omega
  subst e
  rw[List.drop_length] at kc
  refine⟨Y.stop (l::O) H2 T,kc xs H2 kp h2 ?_⟩
  simp_all
theorem vc{fr:List (Nat×Str)}{tn:List Str}{wi:TI}(hi:∀{Hr:Hp} (δ:DS) (O:List Addr) (σ:St) (H:Hp) (R:It->Hp->Prop),Ev X.K Hr O H σ δ->ok (GS G Hr) (fi δ) (λds=>∀J H1,aJ H H1->Yl X.K J O H1 ds->R J H1)->wi σ H R)
  {Hr:Hp} (δ:DS) (O:List Addr) (σ:St) (H:Hp) (Q:VK) (E:Ev X.K Hr O H σ δ) (k:ok (GS G Hr) (gz tn.length (fr.map (·.1)) t fi c f δ) (λd=>∀v H',aJ H H'->Rep X.K O H' v d->Q v H')) :
  qf tn.length fr wi (gD X.K t) (cD X.K c) (tD X.K (λ_ _=>False) f) σ H Q :=
 tu hi δ O σ H Q E (aq k λd q ds e l xs H' s hl hx rx=>q _ _ s (e▸.lst (.inl hx) (nin E.oo hl) (rx.to (.less λb hb=>ρ _ hb))))
theorem iO{cl:List (Str×Addr)}{fr:List (Nat×Str)}{tn:List Str}{elt iter tg:Expr}{ifs:List Expr}{scope:Scope}{pos:Pos}(hc:X.calm=true)
  (hkind:scope.kind=.function) (hcell:∀y∈scope.names,y.2≠.cell) (hclos:closureFor scope X.env=pure cl) (hsub:∀y c,cl.lookup y=some c->X.env.cells.lookup y=some c)
  (hhas:∀y∈(relabel scope X.env).names,(y.2=.cell\/y.2=.free)->∃c,cl.lookup y.1=some c) (hfr:∀p∈fr,X.N[p.1]?=some p.2/\X.env.kindOf p.2=some .cell/\(compEnvC scope cl 0 X.env).kindOf p.2=some .cell/\∃c,cl.lookup p.2=some c) (hnames:∀y∈scope.names,y.2=.local->scope.names.lookup y.1=some .local)
  (hi:PDI X G tg iter fi) (hg:∀C s3 H3 fp,PDG (bM X scope cl fr tn C s3 H3 fp) tg t) (hcs:∀C s3 H3 fp,Cu (bM X scope cl fr tn C s3 H3 fp) ifs c) (he:∀C s3 H3 fp,PD (bM X scope cl fr tn C s3 H3 fp) (λ_ _=>False) elt f) (hs:∀x,foldedSetIterable iter X.env x=pure x:=by intro _;rfl) :
  PD X G (.ListComp elt [⟨tg,iter,ifs,0⟩] scope pos) (gz tn.length (fr.map (·.1)) t fi c f):=by
 obtain⟨wi,pi,hi⟩:=hi
 refine⟨_,yZ hc hkind hcell hclos hsub hhas hfr hnames pi (λC s3 H3 fp=>(hg C s3 H3 fp).can) (λC s3 H3 fp=>(hcs C s3 H3 fp).can) (λC s3 H3 fp=>(he C s3 H3 fp).can) hs,λδ O σ H Q E k=>vc hi δ O σ H Q E k⟩
end
section
variable{δ δ':DS}{fi:DS->M (List D)}{c:DS->M Bool}{f:DS->M D}{t:D->DS->Option DS}{fa:DS->M (List D)}{g:DS->M D}{x y d:D}{ds ys xs:List D}{n:Nat}{js:List Nat}{gs gt:DS->M Out}{r:M Out}{z:Str}
theorem gN(h1:fi δ=M.ret ds)(hz:aN ds.length=true)(h3:gQ t (nX c) (nX f) ds (Z5 n .un++js.map (mJ δ))=M.ret ys):gz n js t fi c f δ=M.ret (.list ys):=by
 unfold gz;rw[h1,aR,if_pos hz,h3];rfl
theorem gO(h1:t d δ=some δ')(h2:f δ'=M.ret y)(h3:gQ t (nX kS) (nX f) ds δ'=M.ret ys):gQ t (nX kS) (nX f) (d::ds) δ=M.ret (y::ys):=by
 show(M.lift (t d δ)).thn _=_
 rw[h1,pG,aR]
 show(M.ret true).thn _=_
 show(noX (f δ')).thn _=_
 rw[h2]
 rw[h3]
 rfl
theorem sV{h:D->D}(Q:DS->Prop):∀(ds:List D) (δ:DS),Q δ->(∀d∈ds,∀δ,Q δ->∃δ',t d δ=some δ'/\f δ'=M.ret (h d)/\Q δ')->gQ t (nX kS) (nX f) ds δ=M.ret (ds.map h)
 | [],_,_,_=>rfl
 | d::ds,δ,q,hs=>by
  obtain⟨δ',h1,h2,q'⟩:=hs d υ δ q
  exact gO h1 h2 (sV Q ds δ' q' λe he=>hs e (ρ _ he))
theorem mt{rng:List D->Option (List D)}(h1:fa δ=M.ret xs)(h2:rng xs=some ds):va rng fa δ=M.ret ds:=by unfold va;rw[h1,aR,h2];rfl
theorem Al(h1:fa δ=M.ret [.list xs]):wA fa δ=M.ret (ej 0 xs):=by unfold wA;rw[h1];rfl
theorem ie(h1:fi δ=M.ret ds){r:M Out}(h3:ib (gS t gs) ds δ=r):lQ fi t gs δ=r:=by unfold lQ;rw[h1,aR];exact h3
end
end DL
namespace DL
open PyProof.Rows L2
section
variable{X:Cx}{G:XD->Hp->Prop}{tg iter:Expr}{f:DS->M D}
theorem PI.or{w1 w2:TI}(h1:PI X tg iter w1)(h2:PI X tg iter w2):PI X tg iter (λσ H R=>w1 σ H R\/w2 σ H R):=by
 intro pins s σ H R I h
 rcases h with h | h
 ·exact h1 pins s σ H R I h
 ·exact h2 pins s σ H R I h
noncomputable def anyD:D->Option (List D)
 | .list ds=>some ds
 | .tuple ds=>some ds
 | .str z=>some (dH z)
 | _=>none
noncomputable def jz(f:DS->M D):DS->M (List D):=λδ=>(f δ).thn λd=>M.lift (anyD d)
theorem jf(h:PD X G iter f):PDI X G tg iter (jz f):=by
 obtain⟨w1,p1,h1⟩:=Bz h
 obtain⟨w2,p2,h2⟩:=By h
 refine⟨_,PI.or p1 p2,λδ O σ H R E k=>?_⟩
 have d1:∀d,f δ=some (.ok d)->(∀z,d≠.str z)->AH f δ=jz f δ:=λd e n=>by
  unfold AH jz
  rw[e]
  cases d with
  | str z=>simp_all
  | _=>rfl
 match e:f δ with
 | none=>unfold jz at k;rw[e] at k;exact k.elim
 | some (.error x) =>
  refine .inl (h1 δ O σ H R E ?_)
  have e1:jz f δ=AH f δ:=by unfold jz AH;rw[e];rfl
  simp_all
 | some (.ok d) =>
  match d,e with
  | .str z,e =>
   refine .inr (h2 δ O σ H R E ?_)
   have e1:jz f δ=uZ f δ:=by unfold jz uZ;rw[e];rfl
   simp_all
  | .none,e=>grind
  | .bool b,e=>grind
  | .int b,e=>grind
  | .list b,e=>grind
  | .tuple b,e=>grind
  | .dict b,e=>grind
theorem jO{δ:DS}{x:D}{ds:List D}(h1:f δ=M.ret x)(h2:anyD x=some ds):jz f δ=M.ret ds:=by unfold jz;rw[h1,aR,h2];rfl
end
end DL
namespace DL
open PyProof.Rows L2
section
variable{X:Cx}{G:XD->Hp->Prop}{a b c e:Expr}{es:List Expr}{f:DS->M D}{fa:DS->M (List D)}{pos pos':Pos}{sts:List Stmt}{gs:DS->M Out}
variable{K:ε}{Hr:Hp}{R0:List Addr}{P0:Addr->Prop}{H0 H H':Hp}{O:List Addr}{σ:St}{δ:DS}
theorem EI.newL{i:Nat}{l:Addr}{xs:List V}{ds:List D}(E:EI K Hr R0 P0 H0 O H σ δ)(hl:H l=none)(rx:Reps K O H xs ds):EI K Hr R0 P0 H0 (l::O) (upd H l (.lst xs)) (σ.set i (some (.ref l))) (δ.set i (.ow ds)):=by
 have nO:= nin E.ev.oo hl
 have tO:To O (l::O) H (upd H l (.lst xs)):=To.own hl
 refine⟨⟨λb o h=>by have q:=E.ev.root b o h;rw[upd_ne (aU q hl)];exact q,λa ha=>?_,by rw[Y3,Y3];exact E.ev.len,λj s h=>?_,λj k a ds es hjk h1 h2 h3 h4=>?_⟩,λa ha=>?_,λb o n h=>?_,λa ha=>?_,λj ds a h1 ho h2=>?_,λa ha=>ρ _ (E.sub a ha)⟩
 ·rcases Δ.mp ha with rfl | ha
  ·exact .lst aA
  ·exact(E.ev.oo a ha).new hl
 ·rw[bH] at h ⊢
  by_cases hij:i=j
  ·rw[if_pos hij] at h ⊢
   by_cases hz:i<δ.length
   ·rw[if_pos hz] at h
    rw[if_pos (by rw[E.ev.len];exact hz)]
    cases h
    exact⟨l,xs,rfl,υ,aA,rx.to tO⟩
   simp_all
  ·rw[if_neg hij] at h ⊢
   exact(E.ev.at_ j s h).to tO (hd_new hl) λa xs h1 h2 _ _=>⟨ρ _ h1,by rw[upd_ne (aU h2 hl)];exact h2⟩
 ·rw[bH] at h1 h2 h3 h4
  by_cases hij:i=j
  ·rw[if_pos hij] at h1 h3
   have ha:a=l:=by
    simp_all
   have hik:¬i=k:=λz=>hjk (hij.symm.trans z)
   rw[if_neg hik] at h2 h4
   obtain⟨l',xs,q1,q2,q3,_⟩:=E.ev.at_ k _ h2
   simp_all
  ·rw[if_neg hij] at h1 h3
   by_cases hik:i=k
   ·rw[if_pos hik] at h4
    have ha:a=l:=by
     simp_all
    obtain⟨l',xs,q1,q2,q3,_⟩:=E.ev.at_ j _ h1
    simp_all
   ·rw[if_neg hik] at h2 h4
    exact E.ev.dis j k a ds es hjk h1 h2 h3 h4
 ·rcases Δ.mp ha with rfl | ha
  ·refine .inr ?_
   cases q:Hr a with
   | none=>rfl
   | some o =>
    rw[E.ev.root a o q] at hl
    cases hl
  ·exact E.omr a ha
 ·have q:=E.keep b o n h
  rw[upd_ne (aU q hl)]
  exact q
 ·rcases Δ.mp ha with rfl | ha
  ·by_cases hp:P0 a
   ·simp_all
   ·refine .inr (.inr ?_)
    cases q:H0 a with
    | none=>rfl
    | some o =>
     rw[E.keep a o hp q] at hl
     cases hl
  ·exact E.om a ha
 ·rw[bH] at h1 h2
  by_cases hij:i=j
  ·rw[if_pos hij] at h2
   have ha:a=l:=by
    simp_all
   rw[ha]
   exact λz=>nO (E.sub l z)
  ·rw[if_neg hij] at h1 h2
   exact E.nr1 j ds a h1 ho h2
def PDN(X:Cx)(G:XD->Hp->Prop)(e:Expr)(f:DS->M (List D)):Prop :=
 ∃t,PE X e t/\∀{Hr:Hp} (δ:DS) (O:List Addr) (σ:St) (H:Hp) (Q:VK),Ev X.K Hr O H σ δ->ok (GS G Hr) (f δ) (λds=>∀l xs H1,aJ H H1->H1 l=none->Reps X.K O H1 xs ds->Q (.ref l) (upd H1 l (.lst xs)))->t σ H Q
noncomputable def sJ(fa:DS->M (List D)):DS->M (List D):=λδ=>(fa δ).thn λds=>if aN ds.length then M.ret ds else none
theorem kf(h:PDA X G es fa):PDN X G (.List es pos) (sJ fa):=by
 obtain⟨_,t,p,h⟩:=h
 refine⟨_,ul p,λδ O σ H Q E k=>?_⟩
 refine h δ O σ H _ E (aq (ay k) λds z vs H1 s1 rs=>?_)
 by_cases hz:aN ds.length=true
 ·rw[if_pos hz] at z
  exact⟨by rw[rs.length];exact bj hz,λp hp=>z p vs H1 s1 hp rs⟩
 ·rw[if_neg hz] at z
  exact z.elim
noncomputable def nN(i:Nat)(f:DS->M (List D)):DS->M Out:=λδ=>(f δ).thn λds=>M.ret (.nx (δ.set i (.ow ds)))
theorem mo{i:Nat}{x:Str}{f:DS->M (List D)}(hN:X.N.Nodup)(hi:X.N[i]?=some x)(hx:Loc X.env.scope x)(he:PDN X G e f)(hs:swapsWith e (some (.Name x pos')) pos.line X.env=pure false:=by rfl)(hf:X.fn x=true\/X.env.scope.names.lookup x=some .local:=by first | exact .inl rfl | exact .inr rfl | assumption) :
  PDS X G (.Assign [.Name x pos'] e pos) (nN i f):=by
 obtain⟨t,p,he⟩:=he
 refine⟨_,uh hN hi hx p hs hf,λR0 P0 H0 δ O σ H Dn E k=>?_⟩
 exact he δ O σ H _ E.ev (aq (ay k) λds z l xs H1 s1 hl rx=>z (l::O) _ _ ((E.same s1).newL hl rx))
mutual
noncomputable def e7:D->Bool
 | .tuple ds=>gq ds
 | .list _=>false
 | .dict _=>false
 | _=>true
noncomputable def gq:List D->Bool
 | []=>true
 | d::ds=>e7 d&&gq ds
end
mutual
theorem Rep.flat{O':List Addr}:∀{v:V} {d:D},e7 d=true->Rep K O H v d->Rep K O' H v d
 | _,_,_,.non=>.non
 | _,_,_,.bl b=>.bl b
 | _,_,_,.int i=>.int i
 | _,_,_,.str x=>.str x
 | _,_,h,.tup q r=>.tup q (Reps.flat (by simpa only[e7] using h) r)
 | _,_,h,.lst _ _ _=>by simp [e7] at h
 | _,_,h,.lstK _ _=>by simp [e7] at h
 | _,_,h,.dct _ _ _ _=>by simp [e7] at h
 | _,_,h,.ins _ _ _ _ _=>by simp [e7,nI] at h
theorem Reps.flat{O':List Addr}:∀{vs:List V} {ds:List D},gq ds=true->Reps K O H vs ds->Reps K O' H vs ds
 | _,_,_,.nil=>.nil
 | _,_,h,.cons r rs=>by
  simp only[gq,Ξ] at h
  exact .cons (Rep.flat h.1 r) (Reps.flat h.2 rs)
end
theorem Ev.frz{i:Nat}(E:Ev K Hr O H σ δ):∃O',Ev K Hr O' H σ (DL.frz i δ):=by
 cases q:δ[i]? with
 | none=>exact⟨O,by unfold DL.frz;simp_all⟩
 | some s =>
  cases s with
  | un=>exact⟨O,by unfold DL.frz;simp_all⟩
  | vl d=>exact⟨O,by unfold DL.frz;simp_all⟩
  | ex a=>exact⟨O,by unfold DL.frz;simp_all⟩
  | od es=>exact⟨O,by unfold DL.frz;simp_all⟩
  | ow ds =>
   have e:DL.frz i δ=δ.set i (.vl (.list ds)):=by unfold DL.frz;rw[q]
   rw[e]
   obtain⟨l,xs,h1,h2,h3,r⟩:=E.at_ i _ q
   have hi:= (Z4.mp q).1
   have tl:To O (O.filter (· ≠ l)) H H:=.less λb hb=>(Y5.mp hb).1
   refine⟨O.filter (· ≠ l),E.root,λa ha=>E.oo a (Y5.mp ha).1,by rw[Y3];exact E.len,λj s h=>?_,λj k a es es' hjk k1 k2 k3 k4=>?_⟩
   ·rw[bH] at h
    by_cases hij:i=j
    ·rw[if_pos hij,if_pos hi] at h
     cases h
     rw[<-hij]
     exact⟨.ref l,h1,.lst (.inl h3) (λz=>by simp_all) (r.to tl)⟩
    ·rw[if_neg hij] at h
     refine(E.at_ j s h).to tl (λa kvs g1 g2=>⟨Y5.mpr ⟨g1,by grind⟩,g2⟩) λa ys g1 g2 g3 g4=>⟨?_,g2⟩
     obtain⟨es,rfl⟩:=g4
     refine Y5.mpr ⟨g1,?_⟩
     have hne:a≠l:=λz=>by
      subst z
      exact E.dis i j a ds es hij q h h1 g3
     simp_all
   ·rw[bH] at k1 k2
    by_cases hij:i=j
    ·simp_all
    ·by_cases hik:i=k
     ·simp_all
     ·rw[if_neg hij] at k1
      rw[if_neg hik] at k2
      exact E.dis j k a es es' hjk k1 k2 k3 k4
noncomputable def rf(i:Nat)(f:DS->M Bool):DS->M Bool:=λδ=>f (frz i δ)
theorem zc{fb:DS->M Bool}(i:Nat)(h:PDT X G e fb):PDT X G e (rf i fb):=by
 obtain⟨t,p,h⟩:=h
 refine⟨t,p,λδ O σ H Q E k=>?_⟩
 obtain⟨O',E'⟩:=E.frz
 exact h _ O' σ H Q E' k
end
section
variable{δ:DS}{f:DS->M D}{fb:DS->M Bool}{fn:DS->M (List D)}{d:D}{b:Bool}{ds:List D}{fa:DS->M (List D)}{i:Nat}
theorem sT(h:fb (frz i δ)=M.ret b):rf i fb δ=M.ret b:=h
theorem jo(h:fn δ=M.ret ds):nN i fn δ=M.ret (.nx (δ.set i (.ow ds))):=by unfold nN;rw[h];rfl
theorem jp(h:fa δ=M.ret ds)(hz:aN ds.length=true):sJ fa δ=M.ret ds:=by unfold sJ;rw[h,aR,if_pos hz]
end
end DL
namespace L2
open PyProof.Rows
section
variable{X:Cx}
theorem zD:MtR X "str.zfill" (λx xs H Q=>∃z i,x=.str z/\xs=[.int i]/\PadOk i=true/\Q (.str (Txt.zfill z i)) H):=by
 intro pins s σ H x xs v us Q I rx rs h
 obtain⟨z,i,rfl,rfl,hp,q⟩:=h
 obtain⟨t,rfl⟩:=rx
 obtain⟨u,rfl,t2,rfl⟩:=fu rs
 exact SC.zfill hp λt' k=>⟨.str _,H,I.tok k,⟨t',rfl⟩,q⟩
theorem qL:MtR X "str.partition" (λx xs H Q=>∃z y,x=.str z/\xs=[.str y]/\(y.length==0)=false/\z.length<=sizeLine /\
  ∀p,H p=none->Q (.ref p) (upd H p (.tup [.str (Txt.partition z y).1,.str (Txt.partition z y).2.1,.str (Txt.partition z y).2.2]))):=by
 intro pins s σ H x xs v us Q I rx rs h
 obtain⟨z,y,rfl,rfl,hy,hz,q⟩:=h
 obtain⟨t,rfl⟩:=rx
 obtain⟨u,rfl,t2,rfl⟩:=fu rs
 refine call_meets PySem.F.slot_str_partition (typeIs_str _ _ _) PySem.F.entry_str_partition (PySem.F.args_str_partition_2 _ _) (meets_str_partition z y t t2 hy hz) ?_
 have fin:∀(a b c:Str) (ta tb tc:Tok) (k:Nat),(Txt.partition z y)=(a,b,c)->EP X pins σ Q (.ref s.heap.objs.size) { s with heap:=s.heap.push { cls:=.type "tuple",data:=.seq [.str a ta,.str b tb,.str c tc].toArray },toks:=k }:=λa b c ta tb tc k e=>by
  rw[e] at q
  refine⟨.ref s.heap.objs.size,_,I.laid (o:=.tup [.str a,.str b,.str c]) (λb o e=>Heap.get?_push_of_some _ e) (ο _) ⟨by show 3<=_;rw[sizeLine_eq];omega,_,.cons ⟨ta,rfl⟩ (.cons ⟨tb,rfl⟩ (.cons ⟨tc,rfl⟩ .nil)),⟨_,Heap.get?_push_size _ rfl,rfl,0,rfl⟩⟩,rfl,q _ I.fresh⟩
 have e0:Txt.partition z y=Txt.partition z y:=rfl
 conv at e0=>rhs;unfold Txt.partition
 grind
theorem o6:∀{ts:List Str} {us:List Value},bx (ts.map V.str) us->∃l:List (Str×Tok),us=strValues l/\l.map (·.1)=ts
 | [],_,.nil=>⟨[],rfl,rfl⟩
 | t::ts,_,.cons r rs=>by
  obtain⟨l,rfl,e⟩:=o6 rs
  obtain⟨k,rfl⟩:=r
  exact⟨(t,k)::l,rfl,by simp_all⟩
theorem gX:∀(l:List (Str×Tok)),bx ((l.map (·.1)).map V.str) (strValues l)
 | []=>.nil
 | (x,t)::l=>.cons ⟨t,rfl⟩ (gX l)
theorem BR:MtR X "str.join" (λx xs H Q=>∃z p ts,x=.str z/\xs=[.ref p]/\SqL X.K H p (ts.map V.str)/\JoinOk z ts=true/\Q (.str (Txt.join z ts)) H):=by
 intro pins s σ H x xs v us Q I rx rs h
 obtain⟨z,p,ts,rfl,rfl,hq,hj,q⟩:=h
 obtain⟨t,rfl⟩:=rx
 obtain⟨u,rfl,r1⟩:=fu rs
 cases r1
 obtain⟨its,rv,pl,_⟩:=I.list hq
 obtain⟨l,rfl,e⟩:=o6 rv
 exact SC.join pl.isList e hj λt' k=>⟨.str _,H,I.tok k,⟨t',rfl⟩,q⟩
theorem zE:MtR X "str.split" (λx xs H Q=>∃z y,x=.str z/\xs=[.str y]/\(y.length==0)=false/\z.length<=sizeLine/\(Txt.split z y).length<=sizeLine/\(Builtin.Str.partsBetween z (Builtin.Str.occurrences z y 0 z.length (z.length+1)) y.length).length<=sizeLine /\
  ∀p,H p=none->Q (.ref p) (upd H p (.lst ((Txt.split z y).map V.str)))):=by
 intro pins s σ H x xs v us Q I rx rs h
 obtain⟨z,y,rfl,rfl,hy,hz,hl,hz2,q⟩:=h
 obtain⟨t,rfl⟩:=rx
 obtain⟨u,rfl,t2,rfl⟩:=fu rs
 have fin:∀(l:List (Str×Tok)) (k:Nat),l.map (·.1)=Txt.split z y->EP X pins σ Q (.ref s.heap.objs.size) { s with heap:=s.heap.push { cls:=.type "list",data:=.seq (strValues l).toArray },toks:=k }:=λl k e=>by
  rw[<-e] at q hl
  refine⟨.ref s.heap.objs.size,_,I.laid (o:=.lst ((l.map (·.1)).map V.str)) (λb o e=>Heap.get?_push_of_some _ e) (ο _) ⟨by simp_all,_,0,gX l,Heap.get?_push_size _ rfl⟩,rfl,q _ I.fresh⟩
 cases h1:(decide (z.length<y.length)||decide (Builtin.Str.strKind z<Builtin.Str.strKind y))
 ·cases hf:(Builtin.Str.occurrences z y 0 z.length (z.length+1)).isEmpty
  ·refine call_meets PySem.F.slot_str_split (typeIs_str _ _ _) PySem.F.entry_str_split (PySem.F.args_str_split_2 _ _) (meets_str_split_sep z y t t2 h1 hy hf hz hz2) ?_
   rw[strsFrom_eq]
   exact fin (numbered s.toks _) _ ((numbered_texts _ _).trans ((if_neg (ne_true_of_eq_false h1)).trans (if_neg (ne_true_of_eq_false hf))).symm)
  ·exact call_meets PySem.F.slot_str_split (typeIs_str _ _ _) PySem.F.entry_str_split (PySem.F.args_str_split_2 _ _) (meets_str_split_not_found z y t t2 h1 hy hf)
    (fin [(z,t)] _ ((if_neg (ne_true_of_eq_false h1)).trans (if_pos hf)).symm)
 ·exact call_meets PySem.F.slot_str_split (typeIs_str _ _ _) PySem.F.entry_str_split (PySem.F.args_str_split_2 _ _) (meets_str_split_cannot_occur z y t t2 h1)
   (fin [(z,t)] _ (if_pos h1).symm)
theorem o0:eF X (.type "int") (λxs H Q=>∃z n,xs=[.str z]/\PySem.intText? z=some n/\z.length<=640/\Q (.int n) H):=by
 intro pins s σ H xs us Q I r h
 obtain⟨z,n,rfl,hn,hl,q⟩:=h
 obtain⟨u,rfl,t,rfl⟩:=fu r
 exact PySem.W.KIN.call_text hn hl ⟨.int n,H,I.tok _,⟨_,rfl⟩,q⟩
end
end L2
namespace L2
open PyProof.Rows
section
variable{X:Cx}
theorem xo:OpR X (compareOp .LtE) (λx y H Q=>∃i j,x=.str i/\y=.str j/\Q (.bl (!decide (j.cps.toList<i.cps.toList))) H):=by
 intro pins s σ H x y v u Q I rx ry h
 obtain⟨i,j,rfl,rfl,q⟩:=h
 obtain⟨t,rfl⟩:=rx
 obtain⟨t',rfl⟩:=ry
 exact PySem.P.le_str (uR I q rfl)
theorem sl_str:SlR X (λx lo hi H Q=>∃z,x=.str z/\z.length<=sizeLine/\Q (.str (Txt.slice z lo hi)) H):=by
 intro pins s σ H x v vl vu lo hi sl Q I rx hs pl pu h
 obtain⟨z,rfl,hz,q⟩:=h
 obtain⟨t,rfl⟩:=rx
 refine⟨"str",_,PySem.F.slot_str_getitem.lookup,typeIs_str _ _ _,?_⟩
 obtain⟨l,rfl,rfl⟩:∃l:Option (Int×Tok),vl=partValue l/\lo=l.map (·.1):=by
  cases pl with
  | none=>exact⟨none,rfl,rfl⟩
  | int i t=>exact⟨some (i,t),rfl,rfl⟩
 obtain⟨u,rfl,rfl⟩:∃u:Option (Int×Tok),vu=partValue u/\hi=u.map (·.1):=by
  cases pu with
  | none=>exact⟨none,rfl,rfl⟩
  | int i t=>exact⟨some (i,t),rfl,rfl⟩
 refine wpAny_getItem_str_slice (st:=none) ?_ rfl (post_val_or_str ⟨Y9 (Txt.slice_le z _ _) hz,λt' k=>⟨.str _,H,I.tok k,⟨t',rfl⟩,q⟩⟩)
 assumption
noncomputable def tFV(te:TE):TE:=λσ H Q=>te σ H λx H1=>(∃z,x=.str z/\z.length<=sizeLine/\Q (.str z) H1)\/∃i:Int,x=.int i/\i.natAbs.log2<1920/\Q (.str (Str.ofString (toString i))) H1
theorem yW{e:Expr}{te:TE}{pos:Pos}(he:PE X e te):PE X (.FormattedValue e (-1) none pos) (tFV te):=by
 intro pins s σ H Q I h
 refine FormattedValue_plain (thn (he pins s σ H _ I h) λv s1 ⟨x,H1,I1,r1,q1⟩=>?_)
 rcases q1 with ⟨z,rfl,hz,q⟩ | ⟨i,rfl,hi,q⟩
 ·obtain⟨t,rfl⟩:=r1
  exact PyProof.Rows.formatField_str (λt' tk=>⟨.str z,H1,I1.tok tk,⟨t',rfl⟩,q⟩) hz
 ·obtain⟨t,rfl⟩:=r1
  exact wpAny_formatField_int hi ⟨.str _,H1,I1.tok _,⟨_,rfl⟩,q⟩
noncomputable def rH:List TE->Str->TE
 | [],out=>λσ H Q=>out.length<=sizeLine/\Q (.str out) H
 | t::ts,out=>λσ H Q=>t σ H λx H1=>∃y,x=.str y/\(out++y).length<=sizeLine/\rH ts (out++y) σ H1 Q
inductive PJ(X:Cx):List Expr->List TE->Prop
 | nil:PJ X [] []
 | cons {e:Expr} {es:List Expr} {t:TE} {ts:List TE} (h:PE X e t) (hs:PJ X es ts) (he:evalEach (e::es) X.env=eval e X.env::evalEach es X.env):PJ X (e::es) (t::ts)
theorem BV{es:List Expr}{ts:List TE}(h:PJ X es ts):∀(out:Str) (pins:List (Addr×Obj)) (s:Shared) (σ:St) (H:Hp) (Q:VK),Inv X pins σ H s->rH ts out σ H Q->wpAny (model X.prog X.w) X.A (joinParts out (evalEach es X.env)) (EP X pins σ Q) X.xe s:=by
 induction h with
 | nil =>
  intro out pins s σ H Q I q
  exact joinParts_nil ⟨.str out,H,I.tok _,⟨_,rfl⟩,q.2⟩ q.1
 | cons h hs he ih =>
  intro out pins s σ H Q I q
  refine joinParts_cons (thn (h pins s σ H _ I q) λv s1 ⟨x,H1,I1,r1,y,e,hz,q1⟩=>?_)
  subst e
  obtain⟨t,rfl⟩:=r1
  grind
theorem lm{e1 e2:Expr}{es:List Expr}{ts:List TE}{pos:Pos}(h:PJ X (e1::e2::es) ts):PE X (.JoinedStr (e1::e2::es) pos) (rH ts Str.empty):=by
 intro pins s σ H Q I q
 have:=BV h Str.empty pins s σ H Q I q
 assumption
end
end L2
namespace DL
open PyProof.Rows L2
section
variable{X:Cx}{G:XD->Hp->Prop}{a b c e o:Expr}{es:List Expr}{f g k:DS->M D}{fa:DS->M (List D)}{pos apos cpos:Pos}
def DMt(X:Cx)(id:String)(h:Str->List D->Option D):Prop :=
 ∃r,MtR X id r/\∀(O:List Addr) (H:Hp) (z:Str) (xs:List D) (d:D) (vs:List V) (Q:VK),(∀l∈O,Mu H l)->Reps X.K O H vs xs->h z xs=some d->(∀v' H',aJ H H'->Rep X.K O H' v' d->Q v' H')->r (.str z) vs H Q
noncomputable def dj(h:Str->List D->Option D)(f:DS->M D)(fa:DS->M (List D)):DS->M D:=λδ=>(f δ).thn λd=>match d with
 | .str z=>(fa δ).thn λxs=>M.lift (h z xs)
 | _=>none
theorem bX{id:String}{name:Str}{h:Str->List D->Option D}(slot:Slot "str" name id)(hty:typeOf (.builtin id)=pure (.type "method_descriptor"))(hm:DMt X id h)(ho:PD X G o f)(ha:PDA X G (e::es) fa)
  (hbase:attributeBase o name X.env (eval o X.env)=eval o X.env:=by rfl)
  (hfew:((backTo cpos (starEach (e::es) X.env)).all (λx=>!x.1)&&(backToKw cpos (keywordEach [] X.env)).all (λx=>x.1.isSome)
   && decide ((e::es).length+([]:List Keyword).length+(if ([]:List Keyword).isEmpty then 0 else 1)<30))=true:=by rfl)
  (hline:(apos.endLine==cpos.line)=true:=by rfl) (hs:starEach (e::es) X.env=(false,eval e X.env)::starEach es X.env:=by rfl) (hplain:(backTo cpos (starEach es X.env)).any (·.1)=false:=by rfl) :
  PD X G (.Call (.Attribute o name apos) (e::es) [] cpos) (dj h f fa):=by
 obtain⟨r,hr,hm⟩:=hm
 obtain⟨t,p,ho⟩:=ho
 obtain⟨_,u,q,ha⟩:=ha
 refine⟨_,pe_bm PySem.F.plainAttrs_str slot hty hr p q hbase hfew hline hs hplain,λδ O σ H Q E k=>?_⟩
 refine ho δ O σ H _ E (aq (ay k) λd z v H1 s1 rd=>?_)
 match d,z,rd with
 | .str w,z,rd =>
  rw[rd.str_inv]
  refine⟨rfl,ha δ O σ H1 _ (E.same s1) (aq (ay z) λxs zz vs H2 s2 rs=>?_)⟩
  obtain⟨y,hy,zz⟩:=cN zz
  exact hm O H2 w xs y vs Q (E.same (s1.trans s2)).oo rs hy λv' H3 s3 r3=>zz v' H3 ((s1.trans s2).trans s3) r3
noncomputable def eJ(z:Str):List D->Option D
 | [.int i]=>if PadOk i then some (.str (Txt.zfill z i)) else none
 | _=>none
theorem d5:DMt X "str.zfill" eJ:=by
 refine⟨_,zD,λO H z xs d vs Q oo rs e k=>?_⟩
 unfold eJ at e
 split at e
 ·rename_i i
  by_cases hp:PadOk i=true
  ·rw[if_pos hp] at e
   cases e
   obtain⟨v,rfl,r⟩:=d8 rs
   exact⟨z,i,rfl,by rw[r.int_inv],hp,k _ H (aJ.refl H) (.str _)⟩
  simp_all
 simp_all
noncomputable def cr(z:Str):List D->Option D
 | [.str y]=>if ((y.length==0)==false&&aN z.length)=true then some (.tuple [.str (Txt.partition z y).1,.str (Txt.partition z y).2.1,.str (Txt.partition z y).2.2]) else none
 | _=>none
theorem eY:DMt X "str.partition" cr:=by
 refine⟨_,qL,λO H z xs d vs Q oo rs e k=>?_⟩
 unfold cr at e
 split at e
 ·rename_i y
  by_cases hp:((y.length==0)==false&&aN z.length)=true
  ·rw[if_pos hp] at e
   cases e
   obtain⟨h1,h2⟩:=X6.mp hp
   obtain⟨v,rfl,r⟩:=d8 rs
   exact⟨z,y,rfl,by rw[r.str_inv],by simp_all,bj h2,λp hp=>k _ _ (bn hp) (fH hp (.cons (.str _) (.cons (.str _) (.cons (.str _) .nil))))⟩
  simp_all
 simp_all
noncomputable def iG:List D->Option (List Str)
 | []=>some []
 | .str z::r=>(iG r).map (z :: ·)
 | _=>none
theorem mG:∀{ds:List D} {ts:List Str},iG ds=some ts->ds=ts.map W1
 | [],ts,h=>by cases h;rfl
 | .str z::r,ts,h=>by
  have h:(iG r).map (z :: ·)=some ts:=h
  cases e:iG r with
  | none=>simp_all
  | some cs=>rw[e] at h;cases h;rw[mG e];rfl
theorem px{K:ε}{O:List Addr}{H:Hp}:∀{ts:List Str} {vs:List V},Reps K O H vs (ts.map W1)->vs=ts.map V.str
 | [],_,.nil=>rfl
 | t::ts,_,.cons r rs=>by rw[r.str_inv,px rs];rfl
theorem hJ{K:ε}{O:List Addr}{H:Hp}:∀(ts:List Str),Reps K O H (ts.map V.str) (ts.map W1)
 | []=>.nil
 | t::ts=>.cons (.str t) (hJ ts)
noncomputable def pq(z:Str):List D->Option D
 | [.list ds]=>match iG ds with
  | some ts=>if JoinOk z ts then some (.str (Txt.join z ts)) else none
  | none=>none
 | _=>none
theorem n6:DMt X "str.join" pq:=by
 refine⟨_,BR,λO H z xs d vs Q oo rs e k=>?_⟩
 unfold pq at e
 split at e
 ·split at e
  ·rename_i ts hts
   by_cases hp:JoinOk z ts=true
   ·rw[if_pos hp] at e
    cases e
    obtain⟨v,rfl,r⟩:=d8 rs
    obtain⟨p,us,rfl,h1,rx⟩:=r.lst_inv
    rw[mG hts] at rx
    rw[px rx] at h1
    exact⟨z,p,ts,rfl,rfl,h1,hp,k _ H (aJ.refl H) (.str _)⟩
   simp_all
  simp_all
 simp_all
noncomputable def j0(z y:Str):Bool:=(y.length==0)==false&&aN z.length&&aN (Txt.split z y).length&&aN (Builtin.Str.partsBetween z (Builtin.Str.occurrences z y 0 z.length (z.length+1)) y.length).length
noncomputable def jH(z:Str):List D->Option D
 | [.str y]=>if j0 z y then some (.list ((Txt.split z y).map W1)) else none
 | _=>none
theorem jr:DMt X "str.split" jH:=by
 refine⟨_,zE,λO H z xs d vs Q oo rs e k=>?_⟩
 unfold jH at e
 split at e
 ·rename_i y
  by_cases hp:j0 z y=true
  ·rw[if_pos hp] at e
   cases e
   obtain⟨hp,h4⟩:=X6.mp hp
   obtain⟨hp,h3⟩:=X6.mp hp
   obtain⟨h1,h2⟩:=X6.mp hp
   obtain⟨v,rfl,r⟩:=d8 rs
   exact⟨z,y,rfl,by rw[r.str_inv],by simp_all,bj h2,bj h3,bj h4,λp hp=>k _ _ (bn hp) (iL oo hp (hJ _))⟩
  simp_all
 simp_all
noncomputable def iS:List D->Option D
 | [.str z]=>match PySem.intText? z with
  | some n=>if z.length<=640 then some (.int n) else none
  | none=>none
 | ds=>oInt ds
theorem eO:lT X (.type "int") iS:=by
 refine⟨_,o0.or xT,λO H ds d vs Q oo rs e k=>?_⟩
 unfold iS at e
 split at e
 ·rename_i z
  split at e
  ·rename_i n hn
   by_cases hl:z.length<=640
   ·rw[if_pos hl] at e
    cases e
    obtain⟨v,rfl,r⟩:=d8 rs
    exact .inl ⟨z,n,by rw[r.str_inv],hn,hl,k _ H (aJ.refl H) (.int _)⟩
   simp_all
  simp_all
 ·unfold oInt at e
  split at e
  ·cases e
   obtain⟨v,rfl,r⟩:=d8 rs
   exact .inr (.inl ⟨_,by rw[r.int_inv],k _ H (aJ.refl H) (.int _)⟩)
  ·cases e
   obtain⟨v,rfl,r⟩:=d8 rs
   exact .inr (.inr ⟨_,by rw[r.bool_inv],k _ H (aJ.refl H) (.int _)⟩)
  simp_all
noncomputable def fk:D->D->Option D
 | .int i,.int j=>some (.bool (decide (i<=j)))
 | .str i,.str j=>some (.bool (!decide (j.cps.toList<i.cps.toList)))
 | _,_=>none
theorem el:DOp X (compareOp .LtE) fk:=by
 refine⟨_,op_le.or xo,λO H x y d v u Q oo rx ry e k=>?_⟩
 unfold fk at e
 split at e
 ·cases e
  exact .inl ⟨_,_,rx.int_inv,ry.int_inv,k _ H (aJ.refl H) (.bl _)⟩
 ·cases e
  exact .inr ⟨_,_,rx.str_inv,ry.str_inv,k _ H (aJ.refl H) (.bl _)⟩
 simp_all
noncomputable def zv:D->D->Option D
 | .str i,.str j=>some (.bool (!(Builtin.Str.occurrences j i 0 j.length 1).isEmpty))
 | _,_=>none
theorem Cl:DOp X (compareOp .In) zv:=by
 refine⟨_,xq,λO H x y d v u Q oo rx ry e k=>?_⟩
 unfold zv at e
 split at e
 ·cases e
  exact⟨_,_,rx.str_inv,ry.str_inv,k _ H (aJ.refl H) (.bl _)⟩
 simp_all
noncomputable def dX(h h':D->D->Option D)(f g k:DS->M D):DS->M D:=λδ=>(f δ).thn λx=>(g δ).thn λy=>(M.lift (h x y)).thn λz=>match z with
 | .bool true=>(k δ).thn λw=>M.lift (h' y w)
 | .bool false=>M.ret (.bool false)
 | _=>none
theorem p6{h h':D->D->Option D}{r r':R2}{ta tb tc:TE}
  (ho:∀(O:List Addr) (H:Hp) (x y d:D) (v u:V) (Q:VK),(∀l∈O,Mu H l)->Rep X.K O H v x->Rep X.K O H u y->h x y=some d->(∀v' H',aJ H H'->Rep X.K O H' v' d->Q v' H')->r v u H Q)
  (ho':∀(O:List Addr) (H:Hp) (x y d:D) (v u:V) (Q:VK),(∀l∈O,Mu H l)->Rep X.K O H v x->Rep X.K O H u y->h' x y=some d->(∀v' H',aJ H H'->Rep X.K O H' v' d->Q v' H')->r' v u H Q)
  (ha:∀{Hr:Hp} (δ:DS) (O:List Addr) (σ:St) (H:Hp) (Q:VK),Ev X.K Hr O H σ δ->ok (GS G Hr) (f δ) (λd=>∀v H',aJ H H'->Rep X.K O H' v d->Q v H')->ta σ H Q)
  (hb:∀{Hr:Hp} (δ:DS) (O:List Addr) (σ:St) (H:Hp) (Q:VK),Ev X.K Hr O H σ δ->ok (GS G Hr) (g δ) (λd=>∀v H',aJ H H'->Rep X.K O H' v d->Q v H')->tb σ H Q)
  (hc:∀{Hr:Hp} (δ:DS) (O:List Addr) (σ:St) (H:Hp) (Q:VK),Ev X.K Hr O H σ δ->ok (GS G Hr) (k δ) (λd=>∀v H',aJ H H'->Rep X.K O H' v d->Q v H')->tc σ H Q)
  {Hr:Hp} (δ:DS) (O:List Addr) (σ:St) (H:Hp) (Q:VK) (E:Ev X.K Hr O H σ δ) (q:ok (GS G Hr) (dX h h' f g k δ) (λd=>∀v H',aJ H H'->Rep X.K O H' v d->Q v H')):tR r r' ta tb tc σ H Q:=by
 refine ha δ O σ H _ E (aq (ay q) λx kx v H1 s1 rx=>?_)
 refine hb δ O σ H1 _ (E.same s1) (aq (ay kx) λy ky u H2 s2 ry=>?_)
 obtain⟨d,hd,kd⟩:=cN (ay ky)
 have s12:=s1.trans s2
 refine ho O H2 x y d v u _ (E.same s12).oo (rx.same s2) ry hd λv' H3 s3 r3=>?_
 match d,kd,r3 with
 | .bool true,kd,r3 =>
  refine⟨true,r3.bool_inv,?_⟩
  refine hc δ O σ H3 _ (E.same (s12.trans s3)) (aq (ay kd) λw kw v2 H4 s4 rw'=>?_)
  obtain⟨d2,hd2,kd2⟩:=cN kw
  exact ho' O H4 y w d2 u v2 Q (E.same ((s12.trans s3).trans s4)).oo ((ry.same s3).same s4) rw' hd2 λv3 H5 s5 r5=>kd2 v3 H5 (((s12.trans s3).trans s4).trans s5) r5
 | .bool false,kd,r3 =>
  refine⟨false,r3.bool_inv,?_⟩
  exact kd _ H3 (s12.trans s3) (.bl false)
theorem iP{op op':CmpOp}{h h':D->D->Option D}(ho:DOp X (compareOp op) h)(ho':DOp X (compareOp op') h')(ha:PD X G a f)(hb:PD X G b g)(hc:PD X G c k)(hm:lastMarks [op,op'] [b,c]=false:=by with_unfolding_all rfl) :
  PD X G (.Compare a [op,op'] [b,c] pos) (dX h h' f g k):=by
 obtain⟨r,hr,ho⟩:=ho
 obtain⟨r',hr',ho'⟩:=ho'
 obtain⟨ta,pa,ha⟩:=ha
 obtain⟨tb,pb,hb⟩:=hb
 obtain⟨tc,pc,hc⟩:=hc
 exact⟨_,y0 hr hr' pa pb pc hm,p6 ho ho' ha hb hc⟩
theorem xj{op op':CmpOp}{h h':D->D->Option D}(ho:DOp X (compareOp op) h)(ho':DOp X (compareOp op') h')(ha:PD X G a f)(hb:PD X G b g)(hc:PD X G c k)(hm:lastMarks [op,op'] [b,c]=false:=by with_unfolding_all rfl) :
  PDT X G (.Compare a [op,op'] [b,c] pos) (dB (dX h h' f g k)):=by
 obtain⟨r,hr,ho⟩:=ho
 obtain⟨r',hr',ho'⟩:=ho'
 obtain⟨ta,pa,ha⟩:=ha
 obtain⟨tb,pb,hb⟩:=hb
 obtain⟨tc,pc,hc⟩:=hc
 refine⟨_,yK hr hr' pa pb pc hm,λδ O σ H Q E q=>?_⟩
 refine p6 ho ho' ha hb hc δ O σ H _ E (aq (pA q) λd z v H' s r=>?_)
 obtain⟨b,rfl,z⟩:=z
 exact⟨b,r.bool_inv,z H' s⟩
variable{lo hi:Option Expr}{fl fh:DS->M (Option Int)}{p2:Pos}
noncomputable def zw(lo hi:Option Int):D->Option D
 | .str z=>if aN z.length then some (.str (Txt.slice z lo hi)) else none
 | d=>oCut lo hi d
noncomputable def tj(f:DS->M D)(fl fh:DS->M (Option Int)):DS->M D:=λδ=>(f δ).thn λx=>(fl δ).thn λl=>(fh δ).thn λu=>M.lift (zw l u x)
theorem vM(he:PD X G e f)(hl:PDO X G lo fl)(hh:PDO X G hi fh):PD X G (.Subscript e (.Slice lo hi none p2) pos) (tj f fl fh):=by
 obtain⟨t,p,he⟩:=he
 obtain⟨tl,pl,hl⟩:=hl
 obtain⟨th,ph,hh⟩:=hh
 refine⟨_,yR (sl_str.or (Bb.or sl_tup)) p pl ph,λδ O σ H Q E k=>?_⟩
 refine he δ O σ H _ E (aq (ay k) λd z v H1 s1 r=>?_)
 refine hl δ O σ H1 _ (E.same s1) (aq (ay z) λl z H2 s2=>?_)
 refine hh δ O σ H2 _ (E.same (s1.trans s2)) (aq (ay z) λu z H3 s3=>?_)
 obtain⟨y,hy,z⟩:=cN z
 have r3:=(r.same s2).same s3
 have s03:=(s1.trans s2).trans s3
 have E3:=E.same s03
 cases d with
 | str w =>
  have hy:(if aN w.length=true then some (W1 (Txt.slice w l u)) else none)=some y:=hy
  by_cases hw:aN w.length=true
  ·rw[if_pos hw] at hy
   cases hy
   exact .inl ⟨w,r3.str_inv,bj hw,z _ _ s03 (.str _)⟩
  simp_all
 | list ds =>
  obtain⟨a,xs,rfl,h1,rs⟩:=r3.lst_inv
  exact .inr (.inl ⟨a,xs,rfl,h1,λp hp=>z _ _ (s03.trans (bn hp)) (iL E3.oo hp (rs.cut l u))⟩)
 | tuple ds =>
  have hy:(if HT.sIx ds.length 0 l=0/\HT.sIx ds.length ds.length u=ds.length then none else some (V4 (jT ds l u)))=some y:=hy
  by_cases hw:HT.sIx ds.length 0 l=0/\HT.sIx ds.length ds.length u=ds.length
  ·simp_all
  ·rw[if_neg hw] at hy
   cases hy
   obtain⟨a,xs,rfl,h1,rs⟩:=r3.tup_inv
   exact .inr (.inr ⟨a,xs,rfl,h1,by rw[rs.length];exact hw,λp hp=>z _ _ (s03.trans (bn hp)) (fH hp (rs.cut l u))⟩)
 | _=>cases hy
noncomputable def rF:D->Option Str
 | .str z=>if aN z.length then some z else none
 | .int i=>if i.natAbs.log2<1920 then some (Str.ofString (toString i)) else none
 | _=>none
noncomputable def dFV(f:DS->M D):DS->M D:=λδ=>(f δ).thn λd=>match rF d with
 | some z=>M.ret (.str z)
 | none=>none
theorem sv(h:PD X G e f):PD X G (.FormattedValue e (-1) none pos) (dFV f):=by
 obtain⟨t,p,h⟩:=h
 refine⟨_,yW p,λδ O σ H Q E k=>?_⟩
 refine h δ O σ H _ E (aq (ay k) λd z v H1 s1 r=>?_)
 cases ht:rF d with
 | none=>rw[ht] at z;exact z.elim
 | some w =>
  rw[ht] at z
  unfold rF at ht
  split at ht
  ·rename_i y
   by_cases hw:aN y.length=true
   ·rw[if_pos hw] at ht
    cases ht
    exact .inl ⟨_,r.str_inv,bj hw,z _ H1 s1 (.str _)⟩
   simp_all
  ·rename_i i
   by_cases hw:i.natAbs.log2<1920
   ·rw[if_pos hw] at ht
    cases ht
    exact .inr ⟨i,r.int_inv,hw,z _ H1 s1 (.str _)⟩
   simp_all
  simp_all
noncomputable def kD:List (DS->M D)->Str->DS->M D
 | [],out=>λ_=>if aN out.length then M.ret (.str out) else none
 | f::fs,out=>λδ=>(f δ).thn λd=>match d with
  | .str y=>if aN (out++y).length then kD fs (out++y) δ else none
  | _=>none
inductive PDJ(X:Cx)(G:XD->Hp->Prop):List Expr->List (DS->M D)->Prop
 | nil:PDJ X G [] []
 | cons {e:Expr} {es:List Expr} {f:DS->M D} {fs:List (DS->M D)} (h:PD X G e f) (hs:PDJ X G es fs) (he:evalEach (e::es) X.env=eval e X.env::evalEach es X.env:=by rfl):PDJ X G (e::es) (f::fs)
theorem Bx{es:List Expr}{fs:List (DS->M D)}(h:PDJ X G es fs):∃ts,PJ X es ts/\∀(out:Str) {Hr:Hp} (δ:DS) (O:List Addr) (σ:St) (H:Hp) (Q:VK),Ev X.K Hr O H σ δ->ok (GS G Hr) (kD fs out δ) (λd=>∀v H',aJ H H'->Rep X.K O H' v d->Q v H')->rH ts out σ H Q:=by
 induction h with
 | nil =>
  refine⟨[],.nil,λout Hr δ O σ H Q E k=>?_⟩
  unfold kD at k
  by_cases hw:aN out.length=true
  ·rw[if_pos hw] at k
   exact⟨bj hw,k _ H (aJ.refl H) (.str _)⟩
  ·rw[if_neg hw] at k;exact k.elim
 | cons h hs he ih =>
  obtain⟨ts,p,ih⟩:=ih
  obtain⟨t,q,h⟩:=h
  refine⟨t::ts,.cons q p he,λout Hr δ O σ H Q E k=>?_⟩
  refine h δ O σ H _ E (aq (ay k) λd z v H1 s1 r=>?_)
  match d,z,r with
  | .str y,z,r =>
   by_cases hw:aN (out++y).length=true
   ·have z:ok _ (if aN (out++y).length=true then _ else none) _:=z
    rw[if_pos hw] at z
    refine⟨y,r.str_inv,bj hw,ih (out++y) δ O σ H1 Q (E.same s1) (aq z λd q v H2 s2=>q v H2 (s1.trans s2))⟩
   ·have z:ok _ (if aN (out++y).length=true then _ else none) _:=z
    rw[if_neg hw] at z
    exact z.elim
theorem xm{e1 e2:Expr}{es:List Expr}{fs:List (DS->M D)}(h:PDJ X G (e1::e2::es) fs):PD X G (.JoinedStr (e1::e2::es) pos) (kD fs Str.empty):=by
 obtain⟨ts,p,h⟩:=Bx h
 exact⟨_,lm p,h Str.empty⟩
theorem zi{x z:Str}{t:Tok}(hg:Gl X x)(hm:X.mg x=some (.str z t))(hd:(x==("__debug__" : Str))=false:=by decide):PD X G (.Name x pos) (dC (.str z)) :=
 ⟨_,je (v:=.str z) hg hm ⟨t,rfl⟩ hd,λ_ _ _ H Q _ k=>k _ H (aJ.refl H) (.str z)⟩
theorem zj{x:Str}{i:Int}{t:Tok}(hg:Gl X x)(hm:X.mg x=some (.int i t))(hd:(x==("__debug__" : Str))=false:=by decide):PD X G (.Name x pos) (dC (.int i)) :=
 ⟨_,je (v:=.int i) hg hm ⟨t,rfl⟩ hd,λ_ _ _ H Q _ k=>k _ H (aJ.refl H) (.int i)⟩
end
end DL
namespace L2
open PyProof.Rows
section
variable{X:Cx}
end
end L2
namespace DL
open PyProof.Rows L2
section
variable{X:Cx}{G:XD->Hp->Prop}{fi:DS->M (List D)}{c:DS->M Bool}{f:DS->M D}{t:D->DS->Option DS}
end
end DL
namespace L2
open PyProof.Rows
section
variable{prog:Program}{w:World}{A:Around}{E:Value->Shared->Prop}{s:Shared}
end
section
variable{X:Cx}
end
end L2
namespace DL
open PyProof.Rows L2
section
variable{X:Cx}
end
end DL
namespace L2
open PyProof.Rows
section
variable{X:Cx}
end
end L2
namespace DL
open PyProof.Rows L2
section
variable{X:Cx}
end
end DL
namespace L2
open PyProof.Rows
section
variable{X:Cx}
end
end L2
namespace DL
open PyProof.Rows L2
section
variable{X:Cx}
end
end DL
namespace DL
open PyProof.Rows L2
section
variable{X:Cx}{G:XD->Hp->Prop}{e:Expr}{es:List Expr}{f:DS->M D}{fa:DS->M (List D)}{gt:DS->M Out}{sts:List Stmt}{pos:Pos}
end
section
variable{X:Cx}{G:XD->Hp->Prop}{e:Expr}{es:List Expr}{f:DS->M D}{fa:DS->M (List D)}{pos:Pos}
end
section
variable{P:Program}{w:World}{K:ε}{mg:Str->Option Value}{base:Heap}
end
end DL
namespace L2
open PyProof.Rows
section
variable{X:Cx}
end
end L2
namespace DL
open PyProof.Rows L2
section
variable{X:Cx}
end
section
variable{X:Cx}{G:XD->Hp->Prop}{e:Expr}{es:List Expr}{f:DS->M D}{fa:DS->M (List D)}{gs gt:DS->M Out}{st:Stmt}{sts:List Stmt}{pos:Pos}
mutual
theorem Rep.flatTo{K:ε}{O O':List Addr}{H H':Hp}(t:∀b xs,Rd H b (.tup xs)->Rd H' b (.tup xs)):∀{v:V} {d:D},e7 d=true->Rep K O H v d->Rep K O' H' v d
 | _,_,_,.non=>.non
 | _,_,_,.bl b=>.bl b
 | _,_,_,.int i=>.int i
 | _,_,_,.str x=>.str x
 | _,_,h,.tup q r=>.tup (by rcases q with q | q;exact .inl (t _ _ q);exact .inr q) (Reps.flatTo t (by simpa only[e7] using h) r)
 | _,_,h,.lst _ _ _=>by simp [e7] at h
 | _,_,h,.lstK _ _=>by simp [e7] at h
 | _,_,h,.dct _ _ _ _=>by simp [e7] at h
 | _,_,h,.ins _ _ _ _ _=>by simp [e7,nI] at h
theorem Reps.flatTo{K:ε}{O O':List Addr}{H H':Hp}(t:∀b xs,Rd H b (.tup xs)->Rd H' b (.tup xs)):∀{vs:List V} {ds:List D},gq ds=true->Reps K O H vs ds->Reps K O' H' vs ds
 | _,_,_,.nil=>.nil
 | _,_,h,.cons r rs=>by
  simp only[gq,Ξ] at h
  exact .cons (Rep.flatTo t h.1 r) (Reps.flatTo t h.2 rs)
end
end
end DL
namespace DL
open PyProof.Rows L2
section
variable{X:Cx}{G:XD->Hp->Prop}{c e:Expr}{fb:DS->M Bool}{f:DS->M D}{gs gt:DS->M Out}{st1 body sts:List Stmt}{st:Stmt}{pos:Pos}
end
end DL
namespace L2
open PyProof.Rows
section
variable{X:Cx}
end
end L2
namespace DL
open PyProof.Rows L2
section
variable{X:Cx}{G:XD->Hp->Prop}{a b c e ix:Expr}{es:List Expr}{f g fi:DS->M D}{fa:DS->M (List D)}{fn:DS->M (List D)}{pos tpos:Pos}
end
end DL
namespace L2
open PyProof.Rows
end L2
namespace DL
open PyProof.Rows L2
section
variable{X:Cx}
end
end DL
namespace DL
open PyProof.Rows L2
section
variable{X:Cx}
noncomputable def BO:List D->Option D
 | [.str x]=>if x.length=1 then some (.int ((x.cps.getD 0 0:Nat):Int)) else none
 | _=>none
theorem xN:lT X (.builtin "ord") BO:=by
 refine⟨_,AN,λO H ds d vs Q oo rs e k=>?_⟩
 unfold BO at e
 split at e
 ·rename_i x
  by_cases h:x.length=1
  ·rw[if_pos h] at e
   cases e
   obtain⟨v,rfl,r⟩:=d8 rs
   exact⟨x,by rw[r.str_inv],h,k _ H (aJ.refl H) (.int _)⟩
  ·rw[if_neg h] at e;cases e
 ·cases e
end
end DL
namespace L2
open PyProof.Rows
section
variable{pr:Program}{wo:World}{Ar:Around}{Er:Value->Shared->Prop}{st:Shared}
end
section
variable{X:Cx}{x y:Str}{p p' pos pos':Pos}{e:Expr}{t:TA}{id T U:String}{r:List V->Hp->VK->Prop}
end
end L2
namespace DL
open PyProof.Rows L2
section
variable{X:Cx}{G:XD->Hp->Prop}{e:Expr}{fa:DS->M (List D)}{pos pos' p p':Pos}{x y:Str}{id T U:String}
end
end DL
namespace DL
open PyProof.Rows L2
section
variable{X:Cx}{G:XD->Hp->Prop}{e:Expr}{f:DS->M D}{pos pos':Pos}
end
end DL
namespace L2
open PyProof.Rows
section
variable{pr:Program}{wo:World}{Ar:Around}{R:Result->Shared->Prop}{T:Addr}{fp wr:List Addr}{n:Nat}{P:Nat->Value->Prop}{St:Nat->Heap->Prop}
end
section
variable{pr:Program}{wo:World}{Ar:Around}{Er:Value->Shared->Prop}{st:Shared}
end
section
variable{X:Cx}{x:Str}{p pos kpos:Pos}{e d:Expr}{t:TA}{tk:TE}
end
end L2
namespace DL
open PyProof.Rows L2
section
variable{X:Cx}{G:XD->Hp->Prop}{e d:Expr}{fa:DS->M (List D)}{g:DS->M D}{pos p kpos:Pos}{x:Str}
end
end DL
namespace DL
open PyProof.Rows L2
section
variable{X:Cx}
end
end DL
namespace L2
open PyProof.Rows
section
variable{κ:Type}[DecidableEq κ]
noncomputable def iB(kvs:List (κ×V))(k:κ):Option V:=(kvs.find? λkv=>decide (kv.1=k)).map (·.2)
noncomputable def j8(kvs:List (κ×V))(k:κ)(v:V):List (κ×V) :=
 if (kvs.any λkv=>decide (kv.1=k))=true then kvs.map (λkv=>if kv.1=k then (kv.1,v) else kv) else kvs++[(k,v)]
noncomputable def kQ(kvs:List (κ×V))(k:κ):List (κ×V):=kvs.filter λkv=>decide (kv.1≠k)
theorem iE{p:κ×V}{r:List (κ×V)}{k:κ}(e:p.1=k):iB (p::r) k=some p.2:=by simp [iB,X7,e]
theorem gA{p:κ×V}{r:List (κ×V)}{k:κ}(e:¬p.1=k):iB (p::r) k=iB r k:=by simp [iB,X7,e]
theorem mC(k:κ):∀kvs:List (κ×V),(kvs.any λkv=>decide (kv.1=k))=(iB kvs k).isSome
 | []=>rfl
 | p::r=>by
  rw[List.any_cons]
  by_cases e:p.1=k
  ·simp only[iE e,decide_eq_true e,Bool.true_or,Option.isSome_some]
  ·rw[gA e,decide_eq_false e,Bool.false_or];exact mC k r
theorem lM(kvs:List (κ×V))(k:κ)(v:V):(j8 kvs k v).length<=kvs.length+1:=by
 unfold j8
 grind
theorem iC.isSome_eq{o:Option V}{u:Option Value}(r:iC o u):o.isSome=u.isSome:=by
 cases o with
 | none=>cases u with
  | none=>rfl
  | some _=>exact(show False from r).elim
 | some _=>cases u with
  | none=>exact(show False from r).elim
  | some _=>rfl
theorem iC.getD{o:Option V}{u:Option Value}{d:V}{d':Value}(r:iC o u)(rd:bC d d'):bC (o.getD d) (u.getD d'):=by
 cases o with
 | none=>cases u with
  | none=>exact rd
  | some _=>exact(show False from r).elim
 | some _=>cases u with
  | none=>exact(show False from r).elim
  | some _=>exact r
theorem KV.val{kvs:List (κ×V)}{vs:List (κ×Value)}(r:KV kvs vs)(k:κ):iC (iB kvs k) (valueAt vs k):=by
 induction r with
 | nil=>exact True.intro
 | @cons p q ps qs h t ih =>
  obtain⟨h1,h2⟩:=h
  by_cases e:p.1=k
  ·have e':= h1.symm.trans e
   have b:valueAt (q::qs) k=some q.2:=by simp [valueAt,X7,e']
   rw[iE e,b];exact h2
  ·have e':¬q.1=k:=λz=>e (h1.trans z)
   have b:valueAt (q::qs) k=valueAt qs k:=by simp [valueAt,X7,e']
   rw[gA e,b];exact ih
theorem KV.any{kvs:List (κ×V)}{vs:List (κ×Value)}(r:KV kvs vs)(k:κ):(kvs.any λkv=>decide (kv.1=k))=vs.any λkv=>decide (kv.1=k):=by
 induction r with
 | nil=>rfl
 | cons h t ih=>simp_all
theorem KV.repl{kvs:List (κ×V)}{vs:List (κ×Value)}(r:KV kvs vs)(k:κ){y:V}{u:Value}(ry:bC y u) :
  KV (kvs.map λkv=>if kv.1=k then (kv.1,y) else kv) (vs.map λkv=>if kv.1=k then (kv.1,u) else kv):=by
 induction r with
 | nil=>exact .nil
 | @cons p q ps qs h t ih =>
  rw[Z2,Z2]
  refine .cons ?_ ih
  grind
theorem KV.put{kvs:List (κ×V)}{vs:List (κ×Value)}(r:KV kvs vs)(k:κ){y:V}{u:Value}(ry:bC y u):KV (j8 kvs k y) (stored vs k u):=by
 unfold j8 stored
 rw[r.any k]
 by_cases e:(vs.any λkv=>decide (kv.1=k))=true
 ·rw[if_pos e,if_pos e];exact r.repl k ry
 ·rw[if_neg e,if_neg e];exact Paired.snoc r ⟨rfl,ry⟩
theorem KV.drop{kvs:List (κ×V)}{vs:List (κ×Value)}(r:KV kvs vs)(k:κ):KV (kQ kvs k) (without vs k):=by
 unfold kQ without
 induction r with
 | nil=>exact .nil
 | @cons p q ps qs h t ih =>
  obtain⟨h1,h2⟩:=h
  rw[List.filter_cons,List.filter_cons]
  by_cases e:p.1=k
  ·simp_all
  ·have e':¬q.1=k:=λz=>e (h1.trans z)
   have a:decide (p.1≠k)=true:=by simp [e]
   have b:decide (q.1≠k)=true:=by simp [e']
   rw[if_pos a,if_pos b];exact .cons ⟨h1,h2⟩ ih
theorem KV.length{kvs:List (κ×V)}{vs:List (κ×Value)}(r:KV kvs vs):kvs.length=vs.length:=Paired.length r
theorem AD(kvs:List (κ×V))(k:κ):(kQ kvs k).length<=kvs.length:=List.length_filter_le _ _
end
theorem nB{P:Program}{w:World}{k:Key}{u:Value}(r:bC (kV k) u):(bZ P w).is k u=true:=by
 cases k with
 | inl i=>obtain⟨t,e⟩:=(show ∃t,u=Value.int i t from r);subst e;exact sK P w i t
 | inr x=>obtain⟨t,e⟩:=(show ∃t,u=Value.str x t from r);subst e;exact iV P w x t
theorem pL{P:Program}{w:World}:∀{ks:List Key} {us:List Value},bx (ks.map kV) us->ItemsAre (bZ P w) ks us
 | [],_,r=>by cases r;exact .nil
 | k::ks,_,r=>by
  cases r with
  | cons h t=>exact .cons (nB h) (pL t)
abbrev KT(H:Hp):List (List Key×V)->List (List Key×Addr×Value)->Prop:=Paired λp q=>p.1=q.1/\H q.2.1=some (.tup (p.1.map kV))/\bC p.2 q.2.2
theorem KT.val{H:Hp}{kvs:List (List Key×V)}{xs:List (List Key×Addr×Value)}(r:KT H kvs xs)(k:List Key):iC (iB kvs k) ((atKey xs k).map (·.2)):=by
 induction r with
 | nil=>exact True.intro
 | @cons p q ps qs h t ih =>
  obtain⟨h1,_,h2⟩:=h
  by_cases e:p.1=k
  ·have e':= h1.symm.trans e
   have b:atKey (q::qs) k=some q.2:=by simp [atKey,X7,e']
   rw[iE e,b];exact h2
  ·have e':¬q.1=k:=λz=>e (h1.trans z)
   have b:atKey (q::qs) k=atKey qs k:=by simp [atKey,X7,e']
   rw[gA e,b];exact ih
theorem KT.repl{H:Hp}{kvs:List (List Key×V)}{xs:List (List Key×Addr×Value)}(r:KT H kvs xs)(k:List Key){y:V}{u:Value}(ry:bC y u) :
  KT H (kvs.map λkv=>if kv.1=k then (kv.1,y) else kv) (xs.map (putAt k u)):=by
 induction r with
 | nil=>exact .nil
 | @cons p q ps qs h t ih =>
  rw[Z2,Z2]
  refine .cons ?_ ih
  obtain⟨h1,h2,h3⟩:=h
  unfold putAt
  grind
theorem KT.put{H:Hp}{kvs:List (List Key×V)}{xs:List (List Key×Addr×Value)}(r:KT H kvs xs)(k:List Key){b:Addr}{y:V}{u:Value}(hb:H b=some (.tup (k.map kV)))(ry:bC y u) :
  KT H (j8 kvs k y) (storedH xs k b u):=by
 have e:(kvs.any λkv=>decide (kv.1=k))=(atKey xs k).isSome:=by
  rw[mC,(r.val k).isSome_eq,Option.isSome_map]
 unfold j8 storedH
 rw[e]
 by_cases q:(atKey xs k).isSome=true
 ·rw[if_pos q,if_pos q];exact r.repl k ry
 ·rw[if_neg q,if_neg q];exact Paired.snoc r ⟨rfl,hb,ry⟩
theorem KT.keeps{H H':Hp}{kvs:List (List Key×V)}{xs:List (List Key×Addr×Value)}(r:KT H kvs xs)(ht:∀b ys,H b=some (.tup ys)->H' b=some (.tup ys)):KT H' kvs xs :=
 Paired.mapP r λ_ _ z=>⟨z.1,ht _ _ z.2.1,z.2.2⟩
section
variable{P:Program}{w:World}{H:Hp}{h:Heap}{a:Addr}
theorem rd_of{u:HO}(ok:HOk P w H h)(e:Rd H a u):cy P w H h a u:=e.ok ok
theorem p4{kvs:List (Key×V)}(ok:HOk P w H h)(e:Rd H a (.dK kvs)):kvs.length<=sizeLine/\(a==sysModules)=false/\∃vs,KV kvs vs/\h.DictOf (bZ P w) a vs :=
 show cy P w H h a (.dK kvs) from rd_of ok e
theorem dk_of{kvs:List (Key×V)}(ok:HOk P w H h)(e:H a=some (.dK kvs)):kvs.length<=sizeLine/\(a==sysModules)=false/\∃vs,KV kvs vs/\h.DictOf (bZ P w) a vs:=p4 ok (.inl e)
theorem nz{ks:List Key}(ok:HOk P w H h)(e:H a=some (.tup (ks.map kV))):(tupleKind (bZ P w)).is h ks a:=by
 obtain⟨_,its,r,o,h1,h2,n,h3⟩:=(show cy P w H h a (.tup (ks.map kV)) from ok a _ e)
 exact⟨o,its.toArray,n,h1,h2,h3,by simpa using pL r⟩
theorem p0{kvs:List (List Key×V)}(ok:HOk P w H h)(e:Rd H a (.dT kvs)):kvs.length<=sizeLine/\(a==sysModules)=false /\
  ∃xs,KT H kvs xs/\h.DictOfH (tupleKind (bZ P w)) a xs:=by
 obtain⟨z,y,xs,r,o,es,ep,h1,h2,h3,h4,h5⟩:=(show cy P w H h a (.dT kvs) from rd_of ok e)
 refine⟨z,y,xs,r,o,es,ep,h1,h2,h3,h4,λx hx=>?_,h5⟩
 have all:∀{l:List (List Key×V)} {m:List (List Key×Addr×Value)},KT H l m->∀x∈m,(tupleKind (bZ P w)).is h x.1 x.2.1:=by
  intro l m q
  induction q with
  | nil=>simp
  | @cons p q ps qs hq t ih =>
   intro x hx
   rcases Δ.mp hx with e | hx
   ·subst e
    exact nz ok (by simp_all)
   grind
 grind
theorem dt_of{kvs:List (List Key×V)}(ok:HOk P w H h)(e:H a=some (.dT kvs)):kvs.length<=sizeLine/\(a==sysModules)=false /\
  ∃xs,KT H kvs xs/\h.DictOfH (tupleKind (bZ P w)) a xs:=p0 ok (.inl e)
end
def tK(H:Hp)(a:Addr)(y:V)(r:Option V):Prop :=
 (∃kvs k,Rd H a (.dK kvs)/\y=kV k/\r=iB kvs k)\/∃kvs k b,Rd H a (.dT kvs)/\y=.ref b/\H b=some (.tup (k.map kV))/\r=iB kvs k
def DPut(H:Hp)(a:Addr)(y v:V)(H':Hp):Prop :=
 (∃kvs k,H a=some (.dK kvs)/\y=kV k/\kvs.length<sizeLine/\H'=upd H a (.dK (j8 kvs k v))) \/
 ∃kvs k b,H a=some (.dT kvs)/\y=.ref b/\H b=some (.tup (k.map kV))/\kvs.length<sizeLine/\H'=upd H a (.dT (j8 kvs k v))
section
variable{X:Cx}{pins:List (Addr×Obj)}{σ:St}{H:Hp}{s:Shared}{a:Addr}{y v:V}{u r:Value}{o:Option V}{A:Around}{E:Value->Shared->Prop}
theorem Inv.big(I:Inv X pins σ H s):sysModules<s.heap.objs.size:=by
 have h:= (I.mod.glob.keeps I.bk).lt
 exact Nat.lt_trans (by decide) h
theorem xP{Q:Value->Shared->Prop}(hu:A.units+1<cLine)(I:Inv X pins σ H s)(g:tK H a y (some v))(ry:bC y u)(h:∀w' s',Inv X pins σ H s'->bC v w'->Q w' s') :
  wpAny (model X.prog X.w) A (getItem (.ref a) u) Q E s:=by
 rcases g with ⟨kvs,k,e,ey,l⟩ | ⟨kvs,k,b,e,ey,eb,l⟩
 ·subst ey
  obtain⟨z,hd,vs,rel,dd⟩:=p4 I.hok e
  obtain⟨w',hw,rw'⟩:=iC.some_of (by rw[l];exact rel.val k)
  exact wpAny_getItem_of (nB ry) dd.mapOf hw (h w' _ (I.tok _) rw')
 ·subst ey
  cases (show u=Value.ref b from ry)
  obtain⟨z,hd,xs,rel,dd⟩:=p0 I.hok e
  obtain⟨w',hw,rw'⟩:=iC.some_of (by rw[l];exact rel.val k)
  obtain⟨p,hp,hp2⟩:=Option.map_eq_some_iff.mp hw
  refine wpAny_getItem_heap (tupleKind_room_in1 hu) (nz I.hok eb) dd hp ?_
  rw[hp2]
  exact h w' _ (I.tok _) rw'
theorem d_in{Q:Value->Shared->Prop}(hu:A.units+1<cLine)(I:Inv X pins σ H s)(g:tK H a y o)(ry:bC y u)(h:∀s',Inv X pins σ H s'->Q (.bool o.isSome) s') :
  wpAny (model X.prog X.w) A (compareOp .In u (.ref a)) Q E s:=by
 rcases g with ⟨kvs,k,e,ey,l⟩ | ⟨kvs,k,b,e,ey,eb,l⟩
 ·subst ey
  obtain⟨z,hd,vs,rel,dd⟩:=p4 I.hok e
  refine wpAny_in_of (nB ry) hd dd.mapOf ?_
  rw[<-(rel.val k).isSome_eq,<-l]
  exact h _ (I.tok _)
 ·subst ey
  cases (show u=Value.ref b from ry)
  obtain⟨z,hd,xs,rel,dd⟩:=p0 I.hok e
  refine wpAny_in_heap (tupleKind_room_in1 hu) (nz I.hok eb) hd dd ?_
  have q:=(rel.val k).isSome_eq
  rw[Option.isSome_map] at q
  rw[<-q,<-l]
  exact h _ (I.tok _)
theorem Cm{Q:Value->Shared->Prop}(hu:A.units+1<cLine)(I:Inv X pins σ H s)(g:tK H a y o)(ry:bC y u)(h:∀s',Inv X pins σ H s'->Q (.bool (!o.isSome)) s') :
  wpAny (model X.prog X.w) A (compareOp .NotIn u (.ref a)) Q E s:=by
 rcases g with ⟨kvs,k,e,ey,l⟩ | ⟨kvs,k,b,e,ey,eb,l⟩
 ·subst ey
  obtain⟨z,hd,vs,rel,dd⟩:=p4 I.hok e
  refine wpAny_notIn_of (nB ry) hd dd.mapOf ?_
  rw[<-(rel.val k).isSome_eq,<-l]
  exact h _ (I.tok _)
 ·subst ey
  cases (show u=Value.ref b from ry)
  obtain⟨z,hd,xs,rel,dd⟩:=p0 I.hok e
  refine wpAny_notIn_heap (tupleKind_room_in1 hu) (nz I.hok eb) hd dd ?_
  have q:=(rel.val k).isSome_eq
  rw[Option.isSome_map] at q
  rw[<-q,<-l]
  exact h _ (I.tok _)
theorem re{h':Heap}{t':Nat}{ob:HO}(I:Inv X pins σ H s)(mu:Mut (H a))(hs:Heap.SameBut a s.heap h')(he:∃q,h'.get? a=some q)(new:cy X.prog X.w (upd H a ob) h' a ob) :
  Inv X pins σ (upd H a ob) { s with heap:=h',toks:=t' } :=
 I.write (x:=a) (e:=a) mu (.inl rfl) (λb q hb z=>(hs.2 b hb).trans z) he new
theorem uY{P:Program}{w:World}{H':Hp}{h':Heap}{kvs:List (Key×V)}{vs:List (Key×Value)}(z:kvs.length<=sizeLine)(hd:(a==sysModules)=false)(rel:KV kvs vs)(dd:h'.DictOf (bZ P w) a vs) :
  cy P w H' h' a (.dK kvs):=⟨z,hd,vs,rel,dd⟩
theorem xO{H':Hp}{Q:Unit->Shared->Prop}(hu:A.units+1<cLine)(I:Inv X pins σ H s)(g:DPut H a y v H')(ry:bC y u)(rv:bC v r)(h:∀s',Inv X pins σ H' s'->Q () s') :
  wpAny (model X.prog X.w) A (setItem (.ref a) u r) Q E s:=by
 rcases g with ⟨kvs,k,e,ey,l,eH⟩ | ⟨kvs,k,b,e,ey,eb,l,eH⟩
 ·subst ey eH
  obtain⟨z,hd,vs,rel,dd⟩:=dk_of I.hok e
  have hz:vs.length<=sizeLine:=by rw[<-rel.length];exact z
  have hl:(j8 kvs k v).length<=sizeLine:=by have:=lM kvs k v;omega
  refine wpAny_setItem_pairs (nB ry) dd λh' dd' hs=>h _ ?_
  have he:∃q,h'.get? a=some q:=let ⟨q,_,_,hq,_⟩:=dd';⟨q,hq⟩
  exact re I (by rw[e];exact True.intro) hs he (uY hl hd (rel.put k rv) dd')
 ·subst ey eH
  cases (show u=Value.ref b from ry)
  obtain⟨z,hd,xs,rel,dd⟩:=dt_of I.hok e
  have hz:xs.length<=sizeLine:=by rw[<-Paired.length rel];exact z
  have hl:(j8 kvs k v).length<=sizeLine:=by have:=lM kvs k v;omega
  refine wpAny_setItem_heap (tupleKind_room_in1 hu) (nz I.hok eb) dd λh' dd' hs=>h _ ?_
  obtain⟨q,es,ep,hq,h2,h3,h4,_,h5⟩:=dd'
  refine re I (by rw[e];exact True.intro) hs ⟨q,hq⟩ ⟨hl,hd,_,(rel.put k eb rv).keeps λc ys ec=>?_,q,es,ep,hq,h2,h3,h4,h5⟩
  rw[upd_ne (zA ec e (λz=>nomatch z))]
  exact ec
end
section
variable{X:Cx}{pins:List (Addr×Obj)}{σ:St}{H:Hp}{s:Shared}{a:Addr}{kvs:List (Key×V)}{k:Key}{u:Value}{A:Around}{E:Value->Shared->Prop}
theorem d_pop{v:V}{more:List Value}{Q:Value->Shared->Prop}(I:Inv X pins σ H s)(e:H a=some (.dK kvs))(ry:bC (kV k) u)(l:iB kvs k=some v)(hm:more=[]\/∃x,more=[x])
  (h:∀w' s',Inv X pins σ (upd H a (.dK (kQ kvs k))) s'->bC v w'->Q w' s'):wpAny (model X.prog X.w) A (call (.builtin "dict.pop") (.ref a::u::more)) Q E s:=by
 obtain⟨z,hd,vs,rel,dd⟩:=dk_of I.hok e
 obtain⟨w',hw,rw'⟩:=iC.some_of (by rw[<-l];exact rel.val k)
 have hp:(keyPart u).isSome=true:=by
  cases k with
  | inl i=>obtain⟨t,q⟩:=(show ∃t,u=Value.int i t from ry);subst q;rfl
  | inr x=>obtain⟨t,q⟩:=(show ∃t,u=Value.str x t from ry);subst q;rfl
 have ha:argsOk "dict.pop" ⟨.ref a::u::more,[]⟩:=by
  rcases hm with q | ⟨x,q⟩
  ·subst q;rfl
  ·subst q;rfl
 refine call_meetsIn PySem.F.slot_dict_pop dd.typeIs PySem.F.entry_dict_pop ha (meets_dict_pop_there (bZ X.prog X.w) a (nB ry) more hm hp)
  ⟨vs,w',dd,by rw[<-rel.length];exact z,hw,λh' dd' hs=>h w' _ ?_ rw'⟩
 have he:∃q,h'.get? a=some q:=let ⟨q,_,_,hq,_⟩:=dd';⟨q,hq⟩
 exact re I (by rw[e];exact True.intro) hs he (uY (Y9 (AD kvs k) z) hd (rel.drop k) dd')
end
def NoSl(i:Expr):Prop:=∀ov iv,subscripted i false ov iv=operate [ov,iv] (getItem ov iv)
theorem A8{prog:Program}{w:World}{A:Around}{E:Value->Shared->Prop}{s:Shared}{env:Env}{value slice:Expr}{pos:Pos}{T id:String}{Q:Value->Shared->Prop}
  (hl:typeLookup (.type T) "__getitem__" = pure (some (.builtin id))) (hs:NoSl slice)
  (h:wpAny (model prog w) A (eval value env) (λo s₁=>wpAny (model prog w) A (eval slice env) (λi s₂=>s₂.TypeIs o T/\wpAny (model prog w) A (getItem o i) Q E s₂) E s₁) E s) :
  wpAny (model prog w) A (eval (.Subscript value slice pos) env) Q E s:=by
 refine Subscript_ (wpAny_mono h (λo s₁ h₁=>wpAny_mono h₁ (λi s₂ h₂=>?_) λ_ _ x=>x) λ_ _ x=>x)
 obtain⟨hT,h₂⟩:=h₂
 refine wpAny_bind ?_
 refine wpAny_bind (wpAny_specialOf hT hl ?_)
 have fin:wpAny (model prog w) A (subscripted slice false o i) (λr s₃=>wpAny (model prog w) A (letTemporaryGo value o r >>= λ_=>pure r) Q E s₃) E s₂:=by
  rw[hs o i]
  exact wpAny_operating (wpAny_mono h₂ (λr s₃ h₃=>wpAny_bind (wpAny_letTemporaryGo (wpAny_pure h₃))) λ_ _ x=>x)
 first
  | exact wpAny_pure (wpAny_bind fin)
  | exact wpAny_bind (wpAny_pure (wpAny_bind fin))
  | exact wpAny_bind fin
theorem sY{X:Cx}{pins:List (Addr×Obj)}{σ:St}{H:Hp}{s:Shared}{a:Addr}{y:V}{o:Option V}(I:Inv X pins σ H s)(g:tK H a y o):s.TypeIs (.ref a) "dict" := by
 rcases g with ⟨kvs,k,e,_,_⟩ | ⟨kvs,k,b,e,_,_,_⟩
 ·obtain⟨_,_,vs,_,dd⟩:=p4 I.hok e
  exact dd.typeIs
 ·obtain⟨_,_,xs,_,dd⟩:=p0 I.hok e
  exact dd.typeIs
noncomputable def tDGet(td ty:TE):TE:=λσ H Q=>td σ H λx H1=>ty σ H1 λy H2=>∃a v,x=.ref a/\tK H2 a y (some v)/\Q v H2
noncomputable def sDPut(td ty tv:TE):TS:=λD σ H=>tv σ H λv H1=>td σ H1 λx H2=>ty σ H2 λy H3=>∃a H4,x=.ref a/\DPut H3 a y v H4/\D.nx σ H4
section
variable{X:Cx}{o i e value:Expr}{pos pos' tpos:Pos}{td ty tv:TE}
theorem Bu(hu:X.A.units+1<cLine)(ho:PE X o td)(hi:PE X i ty)(hs:NoSl i):PE X (.Subscript o i pos) (tDGet td ty):=by
 intro pins s σ H Q I h
 refine A8 PySem.F.slot_dict_getitem.lookup hs (thn (ho pins s σ H _ I h) λu s1 ⟨x,H1,I1,rx,q1⟩=>thn (hi pins s1 σ H1 _ I1 q1) λiv s2 ⟨y,H2,I2,ry,a,v,ex,g,q2⟩=>?_)
 subst ex
 obtain rfl:u=Value.ref a:=rx
 exact⟨sY I2 g,xP hu I2 g ry λw' s3 I3 rw'=>⟨v,H2,I3,rw',q2⟩⟩
theorem Bm(hu:X.A.units+1<cLine)(ho:PE X o td)(hi:PE X i ty)(hv:PE X value tv)(hs:swapsWith value (some (.Subscript o i pos')) pos.line X.env=pure false) :
  PS X (.Assign [.Subscript o i pos'] value pos) (sDPut td ty tv):=by
 intro pins s σ H D I h
 refine wpAny_Assign_Subscript (thn (hv pins s σ H _ I h) λr s1 ⟨v,H1,I1,rv,q1⟩=>thn (ho pins s1 σ H1 _ I1 q1) λu s2 ⟨x,H2,I2,rx,q2⟩=>thn (hi pins s2 σ H2 _ I2 q2) λiv s3 ⟨y,H3,I3,ry,a,H4,ex,g,q3⟩=>?_) hs
 subst ex
 obtain rfl:u=Value.ref a:=rx
 exact xO hu I3 g ry rv λs4 I4=>⟨σ,H4,I4,q3⟩
end
theorem AF{P:Program}{w:World}{H:Hp}(h:Heap)(hb:sysModules<h.objs.size):cy P w H (h.push { cls:=.type "dict",data:=.dict #[] }) h.objs.size (.dK []) :=
 ⟨W4 _,beq_eq_false_iff_ne.mpr (Ne.symm (Z9 hb)),[],.nil,Heap.DictOf.new h⟩
noncomputable def tDNewK:TE:=λ_ H Q=>∀p,H p=none->Q (.ref p) (upd H p (.dK []))
section
variable{X:Cx}{pos:Pos}
theorem yY:PE X (.Dict [] [] pos) tDNewK:=λpins s σ H Q I h =>
 wpAny_Dict_empty ⟨.ref s.heap.objs.size,_,I.laid (a:=s.heap.objs.size) (o:=.dK []) (t':=s.toks) (λ_ _ q=>Heap.get?_push_of_some _ q) (ο _) (AF s.heap I.big),rfl,h _ (I.hok.fresh (ο _))⟩
end
structure M1(X:Cx)(o:Expr)(m:Str)(apos:Pos)(e:Expr)(cpos:Pos):Prop where
 base:attributeBase o m X.env (eval o X.env)=eval o X.env
 few:((backTo cpos (starEach [e] X.env)).all (λx=>!x.1)&&(backToKw cpos (keywordEach [] X.env)).all (λx=>x.1.isSome)
  && decide (([e]:List Expr).length+([]:List Keyword).length+(if ([]:List Keyword).isEmpty then 0 else 1)<30))=true
 line:(apos.endLine==cpos.line)=true
 trees:backTo cpos (starEach [e] X.env)=[(false,eval e X.env)]
def IsD(H:Hp)(a:Addr):Prop:=(∃kvs,Rd H a (.dK kvs))\/∃kvs,Rd H a (.dT kvs)
theorem isD_at{X:Cx}{pins:List (Addr×Obj)}{σ:St}{H:Hp}{s:Shared}{a:Addr}(I:Inv X pins σ H s)(d:IsD H a) :
  s.TypeIs (.ref a) "dict" /\ (∀b,Value.ref a=.ref b->∃ob,s.heap.get? b=some ob/\ob.dict=none)/\(a==sysModules)=false:=by
 rcases d with ⟨kvs,e⟩ | ⟨kvs,e⟩
 ·obtain⟨_,hd,vs,_,dd⟩:=p4 I.hok e
  refine⟨dd.typeIs,λb q=>?_,hd⟩
  cases q
  obtain⟨ob,_,_,h1,h2,_⟩:=dd
  exact⟨ob,h1,h2.2.1⟩
 ·obtain⟨_,hd,xs,_,dd⟩:=p0 I.hok e
  refine⟨dd.typeIs,λb q=>?_,hd⟩
  cases q
  obtain⟨ob,_,_,h1,h2,_⟩:=dd
  exact⟨ob,h1,h2.2.1⟩
section
variable{X:Cx}{pins:List (Addr×Obj)}{σ:St}{H:Hp}{s:Shared}{a:Addr}{y d:V}{u r:Value}{o:Option V}{A:Around}{E:Value->Shared->Prop}
end
noncomputable def tDPop1(td ty:TE):TE:=λσ H Q=>td σ H λx H1=>∃a,x=.ref a/\IsD H1 a/\ty σ H1 λy H2=>∃kvs k v,H2 a=some (.dK kvs)/\y=kV k/\iB kvs k=some v/\Q v (upd H2 a (.dK (kQ kvs k)))
section
variable{X:Cx}{o e f:Expr}{apos cpos:Pos}{td ty tx:TE}
theorem yX(ho:PE X o td)(he:PE X e ty)(m:M1 X o "pop" apos e cpos):PE X (.Call (.Attribute o "pop" apos) [e] [] cpos) (tDPop1 td ty):=by
 intro pins s σ H Q I h
 refine wpAny_Call_method m.base m.few m.line PySem.F.plainAttrs_dict PySem.F.slot_dict_pop PySem.F.type_dict_pop (thn (ho pins s σ H _ I h) λu s1 ⟨x,H1,I1,rx,a,ex,d,q1⟩=>?_)
 subst ex
 obtain rfl:u=Value.ref a:=rx
 obtain⟨t1,t2,_⟩:=isD_at I1 d
 refine⟨t1,t2,?_⟩
 rw[m.trees]
 refine Calls.callWith_builtin rfl (Calls.evalArgs_plain (Calls.spliced_cons (thn (he pins s1 σ H1 _ I1 q1) λiv s2 ⟨y,H2,I2,ry,kvs,k,v,ea,ey,l,q2⟩=>Calls.spliced_nil ?_)))
 subst ey
 exact d_pop I2 ea ry l (.inl rfl) λw' s3 I3 rw'=>⟨v,_,I3,rw',q2⟩
end
section
variable{X:Cx}{pins:List (Addr×Obj)}{σ:St}{H:Hp}{s:Shared}{a:Addr}{kvs:List (Key×V)}{A:Around}{E:Value->Shared->Prop}
end
section
variable{X:Cx}{pins:List (Addr×Obj)}{σ:St}{H:Hp}{s:Shared}{a:Addr}{y:V}{u:Value}{A:Around}{E:Value->Shared->Prop}
end
end L2
namespace DL
open PyProof.Rows L2
noncomputable def iz:D->Option Key
 | .int i=>some (.inl i)
 | .str x=>some (.inr x)
 | _=>none
theorem xB{d:D}{k:Key}(h:iz d=some k):d=zQ k:=by
 cases d<;>cases h<;>rfl
noncomputable def iF(es:List (Key×D))(k:Key):Option D:=(es.find? λe=>decide (e.1=k)).map (·.2)
section
variable{K:ε}{O:List Addr}{H:Hp}
theorem vq:∀{kvs:List (Key×V)} {es:List (Key×D)} {k:Key} {d:D},kvs.map (·.1)=es.map (·.1)->Reps K O H (kvs.map (·.2)) (es.map (·.2))->iF es k=some d->∃v,iB kvs k=some v/\Rep K O H v d
 | [],[],_,_,_,_,h=>by cases h
 | [],_::_,_,_,hk,_,_=>by cases hk
 | _::_,[],_,_,hk,_,_=>by cases hk
 | p::kvs,e::es,k,d,hk,r,h=>by
  simp only[Z2,List.cons.injEq] at hk
  cases r with
  | cons r1 rs =>
   by_cases c:e.1=k
   ·have h2:e.2=d:=by
     have:iF (e::es) k=some e.2:=by simp [iF,X7,c]
     simp_all
    rw[<-h2]
    exact⟨p.2,iE (by simp_all),r1⟩
   ·have:iF (e::es) k=iF es k:=by simp [iF,X7,c]
    rw[this] at h
    obtain⟨v,h1,h2⟩:=vq hk.2 rs h
    exact⟨v,by rw[gA (by simp_all)];exact h1,h2⟩
theorem oE{α β:Type}:∀{l:List (Key×α)} {m:List (Key×β)} (k:Key),l.map (·.1)=m.map (·.1)->(l.any λe=>decide (e.1=k))=m.any λe=>decide (e.1=k)
 | [],[],_,_=>rfl
 | [],_::_,_,h=>by cases h
 | _::_,[],_,h=>by cases h
 | p::l,q::m,k,h=>by
  simp only[Z2,List.cons.injEq] at h
  rw[List.any_cons,List.any_cons,h.1,oE k h.2]
end
section
variable{X:Cx}{G:XD->Hp->Prop}{a b o i e:Expr}{f g:DS->M D}{pos pos' lp:Pos}
end
section
variable{K:ε}{Hr:Hp}{R0:List Addr}{P0:Addr->Prop}{H0 H H':Hp}{O:List Addr}{σ:St}{δ:DS}
theorem Mu.dct{H:Hp}{l:Addr}{xs:List (Key×V)}(h:H l=Option.some (HO.dK xs)):Mu H l:=.inr (.inl ⟨xs,h⟩)
end
section
variable{X:Cx}{G:XD->Hp->Prop}{a b o ix e:Expr}{f g:DS->M D}{pos pos' lp tpos:Pos}
end
end DL
namespace DL
open PyProof.Rows L2
section
variable{X:Cx}{G:XD->Hp->Prop}{a b c o i e:Expr}{f g:DS->M D}{fb:DS->M Bool}{fn:DS->M (List D)}{gs gt:DS->M Out}{st1 sts:List Stmt}{pos pos' lp:Pos}
end
section
variable{X:Cx}{G:XD->Hp->Prop}{k v:Expr}{ks:List (Option Expr)}{vs:List Expr}{f g:DS->M D}{fp:DS->M (List (Key×D))}{pos pos' lp:Pos}
end
section
variable{P:Program}{w:World}{K:ε}{mg:Str->Option Value}{base:Heap}
end
end DL
namespace DL
open PyProof.Rows L2
section
variable{X:Cx}{G:XD->Hp->Prop}{e:Expr}{es:List Expr}{fa:DS->M (List D)}{pos:Pos}
end
section
variable{P:Program}{w:World}{K:ε}{mg:Str->Option Value}{base:Heap}
end
end DL
namespace L2
open PyProof.Rows
section
variable{X:Cx}
end
section
variable{X:Cx}{tg:Expr}
end
end L2
namespace DL
open PyProof.Rows L2
section
variable{X:Cx}{G:XD->Hp->Prop}{tg a b c:Expr}{fa:DS->M (List D)}{p pos:Pos}{K:ε}{O:List Addr}{H1:Hp}
end
end DL
namespace SL
open PyProof.Rows L2 DL
inductive Val where
 | d (x:D)
 | h (k:Nat)
 | t (xs:List Val)
inductive Ob where
 | lst (xs:List Val)
 | dct (es:List (Key×Val))
 | ins (c:Str) (fs:List (Str×Val))
 | gone
abbrev ar:=List (Option Val)
abbrev Sto:=List Ob
abbrev R(β:Type):=Option (Except (XD×Sto) β)
section
variable{β γ:Type}
noncomputable def R.ret(b:β):R β:=some (.ok b)
noncomputable def R.thn(r:R β)(f:β->R γ):R γ:=match r with
 | none=>none
 | some (.ok a)=>f a
 | some (.error x)=>some (.error x)
def okR(G:XD->Sto->Prop)(r:R β)(k:β->Prop):Prop:=match r with
 | none=>False
 | some (.ok a)=>k a
 | some (.error x)=>G x.1 x.2
theorem aD{G:XD->Sto->Prop}{r:R β}{k k':β->Prop}(h:okR G r k)(f:∀a,k a->k' a):okR G r k':=by
 match r,h with
 | some (.ok a),h=>exact f a h
 | some (.error x),h=>exact h
theorem bG{G G':XD->Sto->Prop}{r:R β}{k:β->Prop}(h:okR G r k)(f:∀x μ,G x μ->G' x μ):okR G' r k:=by
 match r,h with
 | some (.ok a),h=>exact h
 | some (.error x),h=>exact f _ _ h
theorem aI{G:XD->Sto->Prop}{r:R β}{f:β->R γ}{k:γ->Prop}(h:okR G (r.thn f) k):okR G r (λa=>okR G (f a) k):=by
 match r,h with
 | some (.ok a),h=>exact h
 | some (.error x),h=>exact h
theorem bf(a:β)(f:β->R γ):(R.ret a).thn f=f a:=rfl
end
noncomputable def ofM{β:Type}(r:M β)(μ:Sto):R β:=match r with
 | none=>none
 | some (.ok a)=>some (.ok a)
 | some (.error x)=>some (.error (x,μ))
mutual
inductive VR(K:ε)(O:List Addr)(α:List (Option Addr))(H:Hp):V->Val->Prop
 | d {v:V} {x:D} (r:Rep K O H v x):VR K O α H v (.d x)
 | h {k:Nat} {a:Addr} (e:α[k]?=some (some a)):VR K O α H (.ref a) (.h k)
 | t {a:Addr} {vs:List V} {xs:List Val} (s:SqT K H a vs) (rs:VRs K O α H vs xs):VR K O α H (.ref a) (.t xs)
inductive VRs(K:ε)(O:List Addr)(α:List (Option Addr))(H:Hp):List V->List Val->Prop
 | nil:VRs K O α H [] []
 | cons {v:V} {x:Val} {vs:List V} {xs:List Val} (r:VR K O α H v x) (rs:VRs K O α H vs xs):VRs K O α H (v::vs) (x::xs)
end
theorem VR.dinv{K:ε}{O:List Addr}{α:List (Option Addr)}{H:Hp}{v:V}{x:D}(r:VR K O α H v (.d x)):Rep K O H v x:=by cases r;omega
theorem VR.hinv{K:ε}{O:List Addr}{α:List (Option Addr)}{H:Hp}{v:V}{k:Nat}(r:VR K O α H v (.h k)):∃a,α[k]?=some (some a)/\v=.ref a:=by
 cases r with
 | h e=>simp_all
theorem VR.tinv{K:ε}{O:List Addr}{α:List (Option Addr)}{H:Hp}{v:V}{xs:List Val}(r:VR K O α H v (.t xs)):∃a vs,v=.ref a/\SqT K H a vs/\VRs K O α H vs xs:=by
 cases r with
 | t s rs=>grind
def OR(K:ε)(mg:Str->Option Value)(R0 O:List Addr)(α:List (Option Addr))(H:Hp)(a:Addr):Ob->Prop
 | .lst xs=>a∈O/\a∉R0/\∃vs,H a=some (.lst vs)/\VRs K O α H vs xs
 | .dct es=>a∈O/\a∉R0/\∃kvs,H a=some (.dK kvs)/\kvs.map (·.1)=es.map (·.1)/\VRs K O α H (kvs.map (·.2)) (es.map (·.2))
 | .ins c fs=>a∈O/\a∉R0/\∃C dx vfs,η K mainGlobals c=some (some (.ref C))/\H a=some (.ins C dx vfs)/\vfs.map (·.1)=fs.map (·.1)/\VRs K O α H (vfs.map (·.2)) (fs.map (·.2))
 | .gone=>False
structure SR(K:ε)(mg:Str->Option Value)(R0 O:List Addr)(α:List (Option Addr))(H:Hp)(μ:Sto):Prop where
 len:α.length=μ.length
 nd:∀(i j:Nat) (a:Addr),α[i]?=some (some a)->α[j]?=some (some a)->i=j
 oo:∀l∈O,Mu H l
 sub:∀l∈R0,l∈O
 at_:∀(k:Nat) (a:Addr),α[k]?=some (some a)->∃ob,μ[k]?=some ob/\OR K mg R0 O α H a ob
structure Go(O0:List Addr)(α0:List (Option Addr))(H0:Hp)(O:List Addr)(α:List (Option Addr))(H:Hp):Prop where
 keep:∀b o,(∀k:Nat,α0[k]? ≠ some (some b))->H0 b=some o->H b=some o
 ex:∀(k:Nat) (a:Addr),α0[k]?=some (some a)->α[k]?=some (some a)
 len:α0.length<=α.length
 new:∀(k:Nat) (b:Addr),α[k]?=some (some b)->(α0[k]?=some (some b))\/H0 b=none
 ol:∀l∈O,l∈O0\/H0 l=none
 live:∀b,H b=none->H0 b=none
section
variable{K:ε}{mg:Str->Option Value}{R0 O O' O1:List Addr}{α α' α1:List (Option Addr)}{H H' H1:Hp}{μ μ':Sto}
theorem Go.refl:Go O α H O α H:=⟨λ_ _ _ h=>h,λ_ _ h=>h,ο _,λ_ _ h=>.inl h,λ_ h=>.inl h,λ_ h=>h⟩
theorem xt(s:aJ H H'){b:Addr}(h:H' b=none):H b=none:=by
 cases q:H b with
 | none=>rfl
 | some o=>rw[s b o q] at h;cases h
theorem Go.same(s:aJ H H'):Go O α H O α H':=⟨λb o _ h=>s b o h,λ_ _ h=>h,ο _,λ_ _ h=>.inl h,λ_ h=>.inl h,λ_ h=>xt s h⟩
theorem SR.tracked(S:SR K mg R0 O α H μ){k:Nat}{a:Addr}(h:α[k]?=some (some a)):∃o,H a=some o/\(∀xs,o≠.tup xs)/\(∀u xs,o≠.frz u (.tup xs))/\(∀u xs,o≠.frz u (.lst xs))/\(∀u xs,o≠.frz u (.dK xs))/\(((∃xs,o=.lst xs)\/(∃xs,o=.dK xs)\/∃C dx fs,o=.ins C dx fs)->a∈O):=by
 obtain⟨ob,_,h⟩:=S.at_ k a h
 cases ob with
 | lst xs =>
  obtain⟨h1,_,vs,h2,_⟩:=h
  simp_all
 | dct es =>
  obtain⟨h1,_,vs,h2,_⟩:=h
  simp_all
 | ins c fs =>
  obtain⟨h1,_,C,dx,vfs,_,h2,_⟩:=h
  simp_all
 | gone=>exact h.elim
theorem Go.to(S:SR K mg R0 O α H μ)(T:Go O α H O' α' H'):To O O' H H':=by
 have tr:∀{b:Addr} {u:HO},(Rd H b u)->((∃xs,u=.tup xs)\/(((∃xs,u=.lst xs)\/(∃xs,u=.dK xs))/\b∉O))->∀k:Nat,α[k]? ≠ some (some b):=λ{b u} h hu k e=>by
  obtain⟨o,h1,h2,h3,h4,h5,h6⟩:=S.tracked e
  rcases h with h | ⟨w,h⟩
  all_goals grind
 have mv:∀{b:Addr} {u:HO},Rd H b u->(∀k:Nat,α[k]? ≠ some (some b))->Rd H' b u:=λ{b u} h n=>by
  rcases h with h | ⟨w,h⟩
  ·exact .inl (T.keep _ _ n h)
  ·exact .inr ⟨w,T.keep _ _ n h⟩
 have no:∀{b:Addr} {u:HO},Rd H b u->b∉O->b∉O':=λ{b u} h n z=>by
  rcases T.ol b z with z | z
  ·exact n z
  ·rcases h with h | ⟨w,h⟩<;>(rw[z] at h;cases h)
 refine⟨λb xs h=>mv h (tr h (.inl ⟨xs,rfl⟩)),λb xs n h=>⟨no h n,mv h (tr h (.inr ⟨.inl ⟨xs,rfl⟩,n⟩))⟩,λb xs n h=>⟨no h n,mv h (tr h (.inr ⟨.inr ⟨xs,rfl⟩,n⟩))⟩,λb C dx fs n h=>⟨no (.inl h) n,T.keep _ _ (λk e=>?_) h⟩⟩
 obtain⟨o,h1,_,_,_,_,h6⟩:=S.tracked e
 simp_all
theorem Go.trans(T:Go O α H O1 α1 H1)(U:Go O1 α1 H1 O' α' H'):Go O α H O' α' H':=by
 refine⟨λb o n h=>U.keep b o (λk e=>?_) (T.keep b o n h),λk a h=>U.ex k a (T.ex k a h),Y9 T.len U.len,λk b h=>?_,λl hl=>?_,λb h=>T.live b (U.live b h)⟩
 ·rcases T.new k b e with z | z
  all_goals simp_all
 ·rcases U.new k b h with z | z
  ·exact T.new k b z
  ·exact .inr (T.live b z)
 ·rcases U.ol l hl with z | z
  ·exact T.ol l z
  ·exact .inr (T.live l z)
mutual
theorem VR.to(T:To O O' H H')(e:∀(k:Nat) (a:Addr),α[k]?=some (some a)->α'[k]?=some (some a)):∀{v:V} {x:Val},VR K O α H v x->VR K O' α' H' v x
 | _,_,.d r=>.d (Rep.to T r)
 | _,_,.h h=>.h (e _ _ h)
 | _,_,.t s rs=>.t (T.sqT s) (VRs.to T e rs)
theorem VRs.to(T:To O O' H H')(e:∀(k:Nat) (a:Addr),α[k]?=some (some a)->α'[k]?=some (some a)):∀{vs:List V} {xs:List Val},VRs K O α H vs xs->VRs K O' α' H' vs xs
 | _,_,.nil=>.nil
 | _,_,.cons r rs=>.cons (VR.to T e r) (VRs.to T e rs)
end
theorem VRs.length:∀{vs:List V} {xs:List Val},VRs K O α H vs xs->vs.length=xs.length
 | _,_,.nil=>rfl
 | _,_,.cons _ rs=>congrArg (· + 1) (VRs.length rs)
theorem VRs.get:∀{vs:List V} {xs:List Val} {i:Nat} {x:Val},VRs K O α H vs xs->xs[i]?=some x->∃v,vs[i]?=some v/\VR K O α H v x
 | _,_,_,_,.nil,e=>by simp at e
 | _,_,0,_,.cons r _,e=>by simp_all
 | _,_,i+1,x,.cons _ rs,e=>by
  obtain⟨u,h1,h2⟩:=VRs.get rs (by assumption)
  simp_all
theorem VRs.append:∀{vs us:List V} {xs ys:List Val},VRs K O α H vs xs->VRs K O α H us ys->VRs K O α H (vs++us) (xs++ys)
 | _,_,_,_,.nil,s=>s
 | _,_,_,_,.cons r t,s=>.cons r (VRs.append t s)
theorem VRs.data:∀{vs:List V} {ds:List D},Reps K O H vs ds->VRs K O α H vs (ds.map Val.d)
 | _,_,.nil=>.nil
 | _,_,.cons r rs=>.cons (.d r) (VRs.data rs)
theorem VRs.undata:∀{ds:List D} {vs:List V},VRs K O α H vs (ds.map Val.d)->Reps K O H vs ds
 | [],_,.nil=>.nil
 | _::_,_,.cons r rs=>.cons r.dinv (VRs.undata rs)
theorem OR.to(T:To O O' H H')(e:∀(k:Nat) (a:Addr),α[k]?=some (some a)->α'[k]?=some (some a)){a:Addr}{ob:Ob}(ho:a∈O->a∈O')(hh:H' a=H a)(r:OR K mg R0 O α H a ob):OR K mg R0 O' α' H' a ob:=by
 cases ob with
 | lst xs=>obtain⟨h1,h2,vs,h3,h4⟩:=r;exact⟨ho h1,h2,vs,by simp_all,h4.to T e⟩
 | dct es=>obtain⟨h1,h2,vs,h3,h4,h5⟩:=r;exact⟨ho h1,h2,vs,by simp_all,h4,h5.to T e⟩
 | ins c fs=>obtain⟨h0,hr,C,dx,vfs,h1,h3,h4,h5⟩:=r;exact⟨ho h0,hr,C,dx,vfs,h1,by simp_all,h4,h5.to T e⟩
 | gone=>exact r
theorem SR.same(s:aJ H H')(S:SR K mg R0 O α H μ):SR K mg R0 O α H' μ:=by
 refine⟨S.len,S.nd,λl hl=>(S.oo l hl).same s,S.sub,λk a h=>?_⟩
 obtain⟨ob,h1,h2⟩:=S.at_ k a h
 obtain⟨o,h3,_⟩:=S.tracked h
 exact⟨ob,h1,h2.to (To.same s) (λ_ _ h=>h) (λh=>h) (by rw[h3];exact s a o h3)⟩
theorem SR.newL(S:SR K mg R0 O α H μ){l:Addr}{vs:List V}{xs:List Val}(hl:H l=none)(r:VRs K O α H vs xs):SR K mg R0 (l::O) (α++[some l]) (upd H l (.lst vs)) (μ++[.lst xs]):=by
 have T:To O (l::O) H (upd H l (.lst vs)):=To.own hl
 have e:∀(k:Nat) (a:Addr),α[k]?=some (some a)->(α++[some l])[k]?=some (some a):=λk a h=>by
  grind
 have cs:∀(k:Nat) (a:Addr),(α++[some l])[k]?=some (some a)->α[k]?=some (some a)\/(k=α.length/\a=l):=λk a h=>by
  grind
 have ne:∀(k:Nat) (a:Addr),α[k]?=some (some a)->a≠l:=λk a h z=>by
  obtain⟨o,h3,_⟩:=S.tracked h
  simp_all
 refine⟨by rw[ζ,ζ,S.len];rfl,λi j a h1 h2=>?_,λb hb=>?_,λb hb=>ρ _ (S.sub b hb),λk a h=>?_⟩
 ·rcases cs i a h1 with h1 | ⟨h1,z⟩<;>rcases cs j a h2 with h2 | ⟨h2,z2⟩
  ·exact S.nd i j a h1 h2
  all_goals grind
 ·rcases Δ.mp hb with rfl | hb
  ·exact .inl ⟨vs,aA⟩
  ·exact(S.oo b hb).new hl
 ·rcases cs k a h with h | ⟨rfl,rfl⟩
  ·obtain⟨ob,h1,h2⟩:=S.at_ k a h
   exact⟨ob,by grind,h2.to T e (λz=>ρ _ z) (upd_ne (ne k a h))⟩
  ·refine⟨.lst xs,by rw[S.len,Z8 (ο _),Nat.sub_self];rfl,υ,λz=>?_,vs,aA,r.to T e⟩
   obtain⟨o,ho⟩:=(S.oo a (S.sub a z)).some
   simp_all
theorem Go.newL{l:Addr}{o:HO}(hl:H l=none):Go O α H (l::O) (α++[some l]) (upd H l o):=by
 refine⟨λb u _ h=>by rw[upd_ne (aU h hl)];exact h,λk a h=>by grind,by simp,λk b h=>?_,λb hb=>?_,λb h=>?_⟩
 ·grind
 ·grind
 ·by_cases e:b=l
  ·simp_all
  ·rw[upd_ne e] at h;exact h
theorem Go.setL{k:Nat}{a:Addr}{o:HO}(h:α[k]?=some (some a)):Go O α H O α (upd H a o):=by
 refine⟨λb u n hb=>?_,λ_ _ h=>h,ο _,λ_ _ h=>.inl h,λ_ h=>.inl h,λb hb=>?_⟩
 ·rw[upd_ne (λz:b=a=>n k (by simp_all))];exact hb
 ·by_cases e:b=a
  ·subst e;rw[aA] at hb;cases hb
  ·rw[upd_ne e] at hb;exact hb
end
end SL
namespace SL
open PyProof.Rows L2 DL
structure An where
 R0:List Addr
 O:List Addr
 α:List (Option Addr)
 H:Hp
structure SEv(K:ε)(mg:Str->Option Value)(A:An)(O:List Addr)(α:List (Option Addr))(H:Hp)(σ:L2.St)(δ:ar)(μ:Sto):Prop where
 sr:SR K mg A.R0 O α H μ
 st:Go A.O A.α A.H O α H
 len:σ.length=δ.length
 at_:∀(i:Nat) (x:Val),δ[i]?=some (some x)->∃v,σ[i]?=some (some v)/\VR K O α H v x
def Er(K:ε)(mg:Str->Option Value)(G:XD->Hp->Prop)(R0 O:List Addr)(α:List (Option Addr))(H:Hp)(x:XD)(μ:Sto):Prop:=∀O' α' H',Go O α H O' α' H'->SR K mg R0 O' α' H' μ->G x H'
def SX(X:Cx)(G:XD->Hp->Prop)(e:Expr)(f:ar->Sto->R (Val×Sto)):Prop :=
 ∃t,PE X e t/\∀(A:An) (δ:ar) (μ:Sto) (O:List Addr) (α:List (Option Addr)) (σ:L2.St) (H:Hp) (Q:VK),SEv X.K X.mg A O α H σ δ μ->okR (Er X.K X.mg G A.R0 O α H) (f δ μ) (λr=>∀v O' α' H',Go O α H O' α' H'->SR X.K X.mg A.R0 O' α' H' r.2->VR X.K O' α' H' v r.1->Q v H')->t σ H Q
def SA(X:Cx)(G:XD->Hp->Prop)(es:List Expr)(f:ar->Sto->R (List Val×Sto)):Prop :=
 (∀δ μ r,f δ μ=some (.ok r)->r.1.length=es.length)/\∃t,PA X es t/\∀(A:An) (δ:ar) (μ:Sto) (O:List Addr) (α:List (Option Addr)) (σ:L2.St) (H:Hp) (Q:List V->Hp->Prop),SEv X.K X.mg A O α H σ δ μ->okR (Er X.K X.mg G A.R0 O α H) (f δ μ) (λr=>∀vs O' α' H',Go O α H O' α' H'->SR X.K X.mg A.R0 O' α' H' r.2->VRs X.K O' α' H' vs r.1->Q vs H')->t σ H Q
def ST(X:Cx)(G:XD->Hp->Prop)(e:Expr)(f:ar->Sto->R (Bool×Sto)):Prop :=
 ∃t,PT X e t/\∀(A:An) (δ:ar) (μ:Sto) (O:List Addr) (α:List (Option Addr)) (σ:L2.St) (H:Hp) (Q:Bool->Hp->Prop),SEv X.K X.mg A O α H σ δ μ->okR (Er X.K X.mg G A.R0 O α H) (f δ μ) (λr=>∀O' α' H',Go O α H O' α' H'->SR X.K X.mg A.R0 O' α' H' r.2->Q r.1 H')->t σ H Q
inductive OutS where
 | nx (δ:ar) (μ:Sto)
 | rt (v:Val) (μ:Sto)
 | bk (δ:ar) (μ:Sto)
 | ct (δ:ar) (μ:Sto)
def jC(K:ε)(mg:Str->Option Value)(A:An)(O0:List Addr)(α0:List (Option Addr))(H0:Hp)(Dn:Ends):OutS->Prop
 | .nx δ μ=>∀O α σ H,SEv K mg A O α H σ δ μ->Go O0 α0 H0 O α H->Dn.nx σ H
 | .rt x μ=>∀v O α H,SR K mg A.R0 O α H μ->Go A.O A.α A.H O α H->VR K O α H v x->Dn.rt v H
 | .bk δ μ=>∀O α σ H,SEv K mg A O α H σ δ μ->Go O0 α0 H0 O α H->Dn.bk σ H
 | .ct δ μ=>∀O α σ H,SEv K mg A O α H σ δ μ->Go O0 α0 H0 O α H->Dn.ct σ H
theorem jC.go{K:ε}{mg:Str->Option Value}{A:An}{O0 O1:List Addr}{α0 α1:List (Option Addr)}{H0 H1:Hp}{Dn:Ends}{o:OutS}(T:Go O0 α0 H0 O1 α1 H1)(h:jC K mg A O0 α0 H0 Dn o):jC K mg A O1 α1 H1 Dn o:=by
 cases o with
 | nx δ μ=>exact λO α σ H E U=>h O α σ H E (T.trans U)
 | rt x μ=>exact h
 | bk δ μ=>exact λO α σ H E U=>h O α σ H E (T.trans U)
 | ct δ μ=>exact λO α σ H E U=>h O α σ H E (T.trans U)
abbrev SG:=Nat->ar->Sto->R OutS
def SS(X:Cx)(G:XD->Hp->Prop)(st:Stmt)(g:SG):Prop :=
 ∃t,PS X st t/\∀(A:An) (δ:ar) (μ:Sto) (O:List Addr) (α:List (Option Addr)) (σ:L2.St) (H:Hp) (Dn:Ends),SEv X.K X.mg A O α H σ δ μ->okR (Er X.K X.mg G A.R0 A.O A.α A.H) (g A.α.length δ μ) (jC X.K X.mg A O α H Dn)->t Dn σ H
def SSs(X:Cx)(G:XD->Hp->Prop)(sts:List Stmt)(g:SG):Prop :=
 ∃t,PSs X sts t/\∀(A:An) (δ:ar) (μ:Sto) (O:List Addr) (α:List (Option Addr)) (σ:L2.St) (H:Hp) (Dn:Ends),SEv X.K X.mg A O α H σ δ μ->okR (Er X.K X.mg G A.R0 A.O A.α A.H) (g A.α.length δ μ) (jC X.K X.mg A O α H Dn)->t Dn σ H
section
variable{K:ε}{mg:Str->Option Value}{A:An}{R0 O O' O1:List Addr}{α α' α1:List (Option Addr)}{H H' H1:Hp}{μ μ':Sto}{σ:L2.St}{δ:ar}{G:XD->Hp->Prop}
theorem SEv.go(E:SEv K mg A O α H σ δ μ)(T:Go O α H O' α' H')(S:SR K mg A.R0 O' α' H' μ'):SEv K mg A O' α' H' σ δ μ' :=
 ⟨S,E.st.trans T,E.len,λi x h=>let ⟨v,h1,h2⟩:=E.at_ i x h;⟨v,h1,h2.to (T.to E.sr) T.ex⟩⟩
theorem SEv.same(E:SEv K mg A O α H σ δ μ)(s:aJ H H'):SEv K mg A O α H' σ δ μ:=E.go (Go.same s) (E.sr.same s)
theorem SEv.set{i:Nat}{v:V}{x:Val}(E:SEv K mg A O α H σ δ μ)(r:VR K O α H v x):SEv K mg A O α H (σ.set i (some v)) (δ.set i (some x)) μ:=by
 refine⟨E.sr,E.st,by rw[Y3,Y3,E.len],λj y h=>?_⟩
 rw[bH] at h
 by_cases hij:i=j
 ·subst hij
  rw[if_pos rfl] at h
  split at h
  ·cases h
   rename_i hl
   exact⟨v,by rw[bH,if_pos rfl,if_pos (by rw[E.len];exact hl)],r⟩
  simp_all
 ·rw[if_neg hij] at h
  obtain⟨w,h1,h2⟩:=E.at_ j y h
  simp_all
theorem Er.go{x:XD}(T:Go O α H O' α' H')(h:Er K mg G R0 O α H x μ):Er K mg G R0 O' α' H' x μ:=λO2 α2 H2 U S=>h O2 α2 H2 (T.trans U) S
noncomputable def v0:Option Val->Sl
 | some (.d x)=>.vl x
 | _=>.un
noncomputable def view(δ:ar):DS:=δ.map v0
theorem rD{i:Nat}{s:Sl}(h:(view δ)[i]?=some s):(∃x,δ[i]?=some (some (.d x))/\s=.vl x)\/s=.un:=by
 unfold view at h
 rw[Φ] at h
 cases e:δ[i]? with
 | none=>simp_all
 | some o =>
  rw[e] at h
  cases o with
  | none=>cases h;exact .inr rfl
  | some x =>
   cases x with
   | d x=>cases h;exact .inl ⟨x,rfl,rfl⟩
   | h k=>cases h;exact .inr rfl
   | t xs=>cases h;exact .inr rfl
theorem SEv.view(E:SEv K mg A O α H σ δ μ):Ev K H O H σ (view δ):=by
 refine⟨aJ.refl H,E.sr.oo,by unfold SL.view;rw[ι];exact E.len,λi s h=>?_,λi j l ds es hij h1=>?_⟩
 ·rcases rD h with ⟨x,h1,rfl⟩ | rfl
  ·obtain⟨v,g1,g2⟩:=E.at_ i _ h1
   exact⟨v,g1,g2.dinv⟩
  ·trivial
 ·rcases rD h1 with ⟨x,_,z⟩ | z<;>cases z
noncomputable def dW:List Val->Option (List D)
 | []=>some []
 | .d x::r=>(dW r).map (x :: ·)
 | _::_=>none
theorem gk:∀{xs:List Val} {ds:List D},dW xs=some ds->xs=ds.map Val.d
 | [],ds,h=>by cases h;rfl
 | .d x::r,ds,h=>by
  unfold dW at h
  cases e:dW r with
  | none=>simp_all
  | some q=>rw[e] at h;cases h;rw[gk e];rfl
theorem n9(ds:List D):dW (ds.map Val.d)=some ds:=by
 induction ds with
 | nil=>rfl
 | cons d r ih=>show(dW (r.map Val.d)).map (d :: ·)=_;simp_all
noncomputable def lv1(n:Nat)(μ:Sto):Val->Option D
 | .d x=>some x
 | .h k=>if n<=k then (match μ[k]? with
  | some (.lst xs)=>(dW xs).map Y0
  | _=>none) else none
 | .t _=>none
noncomputable def oW(n:Nat)(μ:Sto):List Val->Option (List D)
 | []=>some []
 | x::xs=>match lv1 n μ x,oW n μ xs with
  | some d,some ds=>some (d::ds)
  | _,_=>none
noncomputable def lv2(n:Nat)(μ:Sto):Val->Option D
 | .d x=>some x
 | .h k=>if n<=k then (match μ[k]? with
  | some (.lst xs)=>(oW n μ xs).map Y0
  | _=>none) else none
 | .t xs=>(oW n μ xs).map V4
noncomputable def v1(n:Nat)(μ:Sto):Option Val->Sl
 | some x=>match lv2 n μ x with
  | some d=>.vl d
  | none=>.un
 | none=>.un
noncomputable def viewL(n:Nat)(μ:Sto)(δ:ar):DS:=δ.map (v1 n μ)
section
variable{n:Nat}
theorem BT(S:SR K mg R0 O α H μ)(T:To O O' H H)(hn:∀(k:Nat) (a:Addr) (xs:List Val),α[k]?=some (some a)->n<=k->μ[k]?=some (.lst xs)->a∉O'){v:V}{x:Val}{d:D}(r:VR K O α H v x)(h:lv1 n μ x=some d):Rep K O' H v d:=by
 cases x with
 | d x=>cases h;exact Rep.to T r.dinv
 | t xs=>cases h
 | h k =>
  obtain⟨a,ha,rfl⟩:=r.hinv
  have h:(if n<=k then (match μ[k]? with | some (.lst xs)=>(dW xs).map Y0 | _=>none) else none)=some d:=h
  by_cases hk:n<=k
  ·rw[if_pos hk] at h
   obtain⟨ob,g1,g2⟩:=S.at_ k a ha
   rw[g1] at h
   cases ob with
   | lst xs =>
    have h:(dW xs).map Y0=some d:=h
    cases e:dW xs with
    | none=>simp_all
    | some ds =>
     rw[e] at h
     cases h
     obtain⟨_,_,vs,g5,g6⟩:=g2
     rw[gk e] at g6
     exact .lst (.inl g5) (hn k a xs ha hk g1) (g6.undata.to T)
   | dct es=>cases h
   | ins c fs=>cases h
   | gone=>cases h
  simp_all
theorem nu(S:SR K mg R0 O α H μ)(T:To O O' H H)(hn:∀(k:Nat) (a:Addr) (xs:List Val),α[k]?=some (some a)->n<=k->μ[k]?=some (.lst xs)->a∉O'):∀{xs:List Val} {vs:List V} {ds:List D},VRs K O α H vs xs->oW n μ xs=some ds->Reps K O' H vs ds
 | [],_,ds,.nil,h=>by cases h;exact .nil
 | x::xs,_,ds,.cons r rs,h=>by
  unfold oW at h
  split at h
  ·rename_i d ds' e1 e2
   cases h
   exact .cons (BT S T hn r e1) (nu S T hn rs e2)
  simp_all
theorem kB(S:SR K mg R0 O α H μ)(T:To O O' H H)(hn:∀(k:Nat) (a:Addr) (xs:List Val),α[k]?=some (some a)->n<=k->μ[k]?=some (.lst xs)->a∉O'){v:V}{x:Val}{d:D}(r:VR K O α H v x)(h:lv2 n μ x=some d):Rep K O' H v d:=by
 cases x with
 | d x=>cases h;exact Rep.to T r.dinv
 | t xs =>
  obtain⟨a,vs,rfl,hs,rs⟩:=r.tinv
  have h:(oW n μ xs).map V4=some d:=h
  cases e:oW n μ xs with
  | none=>simp_all
  | some ds =>
   rw[e] at h
   cases h
   exact .tup hs (nu S T hn rs e)
 | h k =>
  obtain⟨a,ha,rfl⟩:=r.hinv
  have h:(if n<=k then (match μ[k]? with | some (.lst xs)=>(oW n μ xs).map Y0 | _=>none) else none)=some d:=h
  by_cases hk:n<=k
  ·rw[if_pos hk] at h
   obtain⟨ob,g1,g2⟩:=S.at_ k a ha
   rw[g1] at h
   cases ob with
   | lst xs =>
    have h:(oW n μ xs).map Y0=some d:=h
    cases e:oW n μ xs with
    | none=>simp_all
    | some ds =>
     rw[e] at h
     cases h
     obtain⟨_,_,vs,g5,g6⟩:=g2
     exact .lst (.inl g5) (hn k a xs ha hk g1) (nu S T hn g6 e)
   | dct es=>cases h
   | ins c fs=>cases h
   | gone=>cases h
  simp_all
end
theorem o5{n i:Nat}{s:Sl}(h:(viewL n μ δ)[i]?=some s):(∃x d,δ[i]?=some (some x)/\lv2 n μ x=some d/\s=.vl d)\/s=.un:=by
 unfold viewL at h
 rw[Φ] at h
 cases e:δ[i]? with
 | none=>simp_all
 | some o =>
  rw[e] at h
  cases o with
  | none=>cases h;exact .inr rfl
  | some x =>
   have h:some (match lv2 n μ x with | some d=>Sl.vl d | none=>.un)=some s:=h
   grind
theorem SEv.viewL{n:Nat}(E:SEv K mg A O α H σ δ μ)(hs:∀l∈O',l∈O)(hn:∀(k:Nat) (a:Addr) (xs:List Val),α[k]?=some (some a)->n<=k->μ[k]?=some (.lst xs)->a∉O'):Ev K H O' H σ (SL.viewL n μ δ):=by
 have T:To O O' H H:=.less hs
 refine⟨aJ.refl H,λl hl=>E.sr.oo l (hs l hl),by unfold SL.viewL;rw[ι];exact E.len,λi s h=>?_,λi j l ds es hij h1=>?_⟩
 ·rcases o5 h with ⟨x,d,h1,h2,rfl⟩ | rfl
  ·obtain⟨v,g1,g2⟩:=E.at_ i _ h1
   exact⟨v,g1,kB E.sr T hn g2 h2⟩
  ·trivial
 ·rcases o5 h1 with ⟨x,d,_,_,z⟩ | z<;>cases z
end
section
variable{X:Cx}{G:XD->Hp->Prop}{a b c e:Expr}{es rest:List Expr}{pos pos':Pos}{st:Stmt}{sts sts':List Stmt}
noncomputable def bq(f:DS->M D):ar->Sto->R (Val×Sto):=λδ μ=>(ofM (f (view δ)) μ).thn λd=>R.ret (.d d,μ)
theorem ln{β:Type}{K:ε}{mg:Str->Option Value}{R0 O:List Addr}{α:List (Option Addr)}{H:Hp}{μ:Sto}{r:M β}{k:β->Prop}(S:SR K mg R0 O α H μ)(h:okR (Er K mg G R0 O α H) (ofM r μ) k):ok (GS G H) r k:=by
 match r,h with
 | some (.ok a),h=>exact h
 | some (.error x),h=>exact λH' s=>h O α H' (Go.same s) (S.same s)
theorem aV{f:DS->M D}(h:PD X G e f):SX X G e (bq f):=by
 obtain⟨t,p,h⟩:=h
 refine⟨t,p,λA δ μ O α σ H Q E k=>?_⟩
 refine h (view δ) O σ H Q E.view (aq (ln E.sr (aI k)) λd z v H' s r=>z v O α H' (Go.same s) (E.sr.same s) (.d r))
end
end SL
namespace SL
open PyProof.Rows L2 DL
section
variable{X:Cx}{G:XD->Hp->Prop}{a b c e ix:Expr}{es rest:List Expr}{pos pos' tpos:Pos}{st:Stmt}{sts sts':List Stmt}
noncomputable def aY(i:Nat):ar->Sto->R (Val×Sto):=λδ μ=>match δ[i]? with
 | some (some x)=>R.ret (x,μ)
 | _=>none
theorem aG{i:Nat}(h:PE X e (jG i)):SX X G e (aY i):=by
 refine⟨_,h,λA δ μ O α σ H Q E k=>?_⟩
 unfold aY at k
 split at k
 ·rename_i x hx
  obtain⟨v,h1,h2⟩:=E.at_ i x hx
  exact⟨v,h1,k v O α H Go.refl E.sr h2⟩
 ·exact k.elim
noncomputable def dS:ar->Sto->R (List Val×Sto):=λ_ μ=>R.ret ([],μ)
noncomputable def bb(f:ar->Sto->R (Val×Sto))(fa:ar->Sto->R (List Val×Sto)):ar->Sto->R (List Val×Sto):=λδ μ=>(f δ μ).thn λr=>(fa δ r.2).thn λq=>R.ret (r.1::q.1,q.2)
theorem dh:SA X G [] dS:=by
 refine⟨λδ μ r h=>by cases h;rfl,_,iQ,λA δ μ O α σ H Q E k=>k [] O α H Go.refl E.sr .nil⟩
theorem aX{f:ar->Sto->R (Val×Sto)}{fa:ar->Sto->R (List Val×Sto)}(ha:SX X G e f)(hr:SA X G es fa)(hs:starEach (e::es) X.env=(false,eval e X.env)::starEach es X.env:=by rfl):SA X G (e::es) (bb f fa):=by
 obtain⟨t,p,ha⟩:=ha
 obtain⟨hl,u,q,hr⟩:=hr
 refine⟨λδ μ r h=>?_,_,dO p q hs,λA δ μ O α σ H Q E k=>?_⟩
 ·unfold bb at h
  cases e1:f δ μ with
  | none=>rw[e1] at h;cases h
  | some r1 =>
   rw[e1] at h
   cases r1 with
   | error x=>cases h
   | ok x =>
    have h:R.thn (fa δ x.2) _=_:=h
    cases e2:fa δ x.2 with
    | none=>rw[e2] at h;cases h
    | some r2 =>
     rw[e2] at h
     cases r2 with
     | error x=>cases h
     | ok xs =>
      cases h
      grind
 ·refine ha A δ μ O α σ H _ E (aD (aI k) λr z v O1 α1 H1 T1 S1 r1=>?_)
  refine hr A δ r.2 O1 α1 σ H1 _ (E.go T1 S1) (aD (bG (aI z) λx μ h=>Er.go T1 h) λq y vs O2 α2 H2 T2 S2 rs=>?_)
  exact y (v::vs) O2 α2 H2 (T1.trans T2) S2 (.cons (r1.to (T2.to S1) T2.ex) rs)
noncomputable def b4(fb:DS->M Bool):ar->Sto->R (Bool×Sto):=λδ μ=>(ofM (fb (viewL 0 μ δ)) μ).thn λb=>R.ret (b,μ)
theorem bV{fb:DS->M Bool}(h:PDT X G e fb):ST X G e (b4 fb):=by
 obtain⟨t,p,h⟩:=h
 refine⟨t,p,λA δ μ O α σ H Q E k=>?_⟩
 refine h (viewL 0 μ δ) A.R0 σ H Q (E.viewL E.sr.sub λk a xs ha _ hx=>?_) (aq (ln E.sr (aI k)) λd z H' s=>z O α H' (Go.same s) (E.sr.same s))
 obtain⟨ob,h1,h2⟩:=E.sr.at_ k a ha
 rw[hx] at h1
 cases h1
 exact h2.2.1
noncomputable def dY:SG:=λ_ δ μ=>R.ret (.nx δ μ)
noncomputable def bN(g h:SG):SG:=λn δ μ=>(g n δ μ).thn λo=>match o with
 | .nx δ' μ'=>h n δ' μ'
 | o=>R.ret o
theorem cK:SSs X G [] dY:=⟨_,vH,λA δ μ O α σ H Dn E k=>k O α σ H E Go.refl⟩
theorem aF{g:SG}(h:SS X G st g):SSs X G [st] g:=by
 obtain⟨t,p,h⟩:=h
 exact⟨_,mj p,h⟩
theorem aE{g h:SG}(h1:SS X G st g)(h2:SSs X G sts h):SSs X G (st::sts) (bN g h):=by
 obtain⟨t,p,h1⟩:=h1
 obtain⟨u,q,h2⟩:=h2
 refine⟨_,j9 p q,λA δ μ O α σ H Dn E k=>?_⟩
 refine h1 A δ μ O α σ H _ E (aD (aI k) λo z=>?_)
 cases o with
 | nx δ' μ'=>exact λO' α' σ' H' E' T=>h2 A δ' μ' O' α' σ' H' Dn E' (aD z λo w=>w.go T)
 | rt v μ'=>exact z
 | bk δ' μ'=>exact z
 | ct δ' μ'=>exact z
noncomputable def sIf(c:ar->Sto->R (Bool×Sto))(g h:SG):SG:=λn δ μ=>(c δ μ).thn λr=>if r.1=true then g n δ r.2 else h n δ r.2
theorem cV{fc:ar->Sto->R (Bool×Sto)}{g h:SG}(hc:ST X G c fc)(h1:SSs X G sts g)(h2:SSs X G sts' h):SS X G (.If c sts sts' pos) (sIf fc g h):=by
 obtain⟨t,p,hc⟩:=hc
 obtain⟨u,q,h1⟩:=h1
 obtain⟨w,r,h2⟩:=h2
 refine⟨_,ps_if p q r,λA δ μ O α σ H Dn E k=>?_⟩
 refine hc A δ μ O α σ H _ E (aD (bG (aI k) λx μ h=>Er.go E.st h) λr z O1 α1 H1 T1 S1=>?_)
 cases hb:r.1 with
 | true =>
  rw[hb,if_pos rfl] at z
  exact h1 A δ r.2 O1 α1 σ H1 Dn (E.go T1 S1) (aD z λo w=>w.go T1)
 | false =>
  rw[hb,if_neg Z0] at z
  exact h2 A δ r.2 O1 α1 σ H1 Dn (E.go T1 S1) (aD z λo w=>w.go T1)
noncomputable def e5(i:Nat)(f:ar->Sto->R (Val×Sto)):SG:=λ_ δ μ=>(f δ μ).thn λr=>R.ret (.nx (δ.set i (some r.1)) r.2)
theorem cp{i:Nat}{x:Str}{f:ar->Sto->R (Val×Sto)}(hN:X.N.Nodup)(hi:X.N[i]?=some x)(hx:Loc X.env.scope x)(he:SX X G e f)(hs:swapsWith e (some (.Name x pos')) pos.line X.env=pure false:=by rfl)(hf:X.fn x=true\/X.env.scope.names.lookup x=some .local:=by first | exact .inl rfl | exact .inr rfl | assumption) :
  SS X G (.Assign [.Name x pos'] e pos) (e5 i f):=by
 obtain⟨t,p,he⟩:=he
 refine⟨_,uh hN hi hx p hs hf,λA δ μ O α σ H Dn E k=>?_⟩
 refine he A δ μ O α σ H _ E (aD (bG (aI k) λx μ h=>Er.go E.st h) λr z v O1 α1 H1 T1 S1 r1=>?_)
 exact z O1 α1 _ H1 ((E.go T1 S1).set r1) T1
noncomputable def fG(f:ar->Sto->R (Val×Sto)):SG:=λ_ δ μ=>(f δ μ).thn λr=>R.ret (.rt r.1 r.2)
theorem dR{f:ar->Sto->R (Val×Sto)}(he:SX X G e f):SS X G (.Return (some e) pos) (fG f):=by
 obtain⟨t,p,he⟩:=he
 refine⟨_,ui p,λA δ μ O α σ H Dn E k=>?_⟩
 exact he A δ μ O α σ H _ E (aD (bG (aI k) λx μ h=>Er.go E.st h) λr z v O1 α1 H1 T1 S1 r1=>z v O1 α1 H1 S1 (E.st.trans T1) r1)
mutual
noncomputable def wE(n:Nat):Val->Bool
 | .d _=>true
 | .h k=>decide (k<n)
 | .t xs=>oy n xs
noncomputable def oy(n:Nat):List Val->Bool
 | []=>true
 | x::xs=>wE n x&&oy n xs
end
section
variable{K:ε}{mg:Str->Option Value}{R0 O O':List Addr}{α α':List (Option Addr)}{H H':Hp}{μ:Sto}
mutual
theorem VR.cut{n:Nat}(T:To O O' H H'):∀{v:V} {x:Val},wE n x=true->VR K O α H v x->VR K O' (α.take n) H' v x
 | _,_,_,.d r=>.d (Rep.to T r)
 | _,.h k,hc,.h e=>by
  have hk:k<n:=of_decide_eq_true hc
  exact .h (by rw[List.getElem?_take,if_pos hk];exact e)
 | _,.t xs,hc,.t s rs=>.t (T.sqT s) (VRs.cut T hc rs)
theorem VRs.cut{n:Nat}(T:To O O' H H'):∀{vs:List V} {xs:List Val},oy n xs=true->VRs K O α H vs xs->VRs K O' (α.take n) H' vs xs
 | _,_,_,.nil=>.nil
 | _,_::_,hc,.cons r rs=>.cons (VR.cut T (X6.mp hc).1 r) (VRs.cut T (X6.mp hc).2 rs)
end
end
noncomputable def fv(f:ar->Sto->R (Val×Sto)):SG:=λ_ δ μ=>(f δ μ).thn λr=>R.ret (.nx δ r.2)
theorem gZ{f:ar->Sto->R (Val×Sto)}(he:SX X G e f)(hs:swapsWith e none pos.line X.env=pure false:=by rfl):SS X G (.Expr e pos) (fv f):=by
 obtain⟨t,p,he⟩:=he
 refine⟨_,ml p hs,λA δ μ O α σ H Dn E k=>?_⟩
 exact he A δ μ O α σ H _ E (aD (bG (aI k) λx μ h=>Er.go E.st h) λr z v O1 α1 H1 T1 S1 r1=>z O1 α1 σ H1 (E.go T1 S1) T1)
def SGT(X:Cx)(tg:Expr)(g:D->ar->Option ar):Prop :=
 ∃t,PG X tg t/\∀(A:An) (δ δ':ar) (d:D) (v:V) (O:List Addr) (α:List (Option Addr)) (σ:L2.St) (μ:Sto) (H:Hp) (Q:L2.St->Hp->Prop),SEv X.K X.mg A O α H σ δ μ->Rep X.K O H v d->g d δ=some δ'->(∀σ',SEv X.K X.mg A O α H σ' δ' μ->Q σ' H)->t v σ H Q
def Ct(X:Cx)(ts:List Expr)(g:List D->ar->Option ar):Prop :=
 ∃t,PGs X ts t/\∀(A:An) (δ δ':ar) (ds:List D) (vs:List V) (O:List Addr) (α:List (Option Addr)) (σ:L2.St) (μ:Sto) (H:Hp) (Q:L2.St->Hp->Prop),SEv X.K X.mg A O α H σ δ μ->Reps X.K O H vs ds->g ds δ=some δ'->(∀σ',SEv X.K X.mg A O α H σ' δ' μ->Q σ' H)->t vs σ H Q
noncomputable def agN(i:Nat):D->ar->Option ar:=λd δ=>some (δ.set i (some (.d d)))
theorem qk{i:Nat}(h:PG X e (wb i)):SGT X e (agN i):=by
 refine⟨_,h,λA δ δ' d v O α σ μ H Q E r e k=>?_⟩
 cases e
 exact k _ (E.set (.d r))
noncomputable def AW:List D->ar->Option ar:=λds δ=>match ds with
 | []=>some δ
 | _=>none
noncomputable def oG(t:D->ar->Option ar)(u:List D->ar->Option ar):List D->ar->Option ar:=λds δ=>match ds with
 | d::r=>(t d δ).bind (u r)
 | []=>none
theorem Bc:Ct X [] AW:=by
 refine⟨_,vI,λA δ δ' ds vs O α σ μ H Q E r e k=>?_⟩
 cases ds with
 | nil=>cases r;cases e;exact⟨rfl,k σ E⟩
 | cons d ds=>cases e
theorem rP{t:D->ar->Option ar}{u:List D->ar->Option ar}(h1:SGT X e t)(h2:Ct X es u)
  (hs:(assignEach (e::es) X.env).map (·.2)=assign e X.env::(assignEach es X.env).map (·.2):=by rfl):Ct X (e::es) (oG t u):=by
 obtain⟨t1,p1,h1⟩:=h1
 obtain⟨t2,p2,h2⟩:=h2
 refine⟨_,si p1 p2 hs,λA δ δ' ds vs O α σ μ H Q E r e k=>?_⟩
 cases ds with
 | nil=>cases e
 | cons d ds =>
  cases r with
  | @cons v _ vs _ r rs =>
   have e:(t d δ).bind (u ds)=some δ':=e
   cases e1:t d δ with
   | none=>simp_all
   | some δ1 =>
    rw[e1] at e
    refine⟨v,vs,rfl,h1 A δ δ1 d v O α σ μ H _ E r e1 λσ1 E1=>?_⟩
    grind
noncomputable def AV(n:Nat)(u:List D->ar->Option ar):D->ar->Option ar:=λd δ=>match d with
 | .tuple ds=>if ds.length=n then u ds δ else none
 | _=>none
theorem sg_tup{k:Nat}{u:List D->ar->Option ar}{n:Nat}(hc:X.calm=true)(h:Ct X es u)
  (hn:(assignEach es X.env).length=n:=by rfl) (hst:(assignEach es X.env).findIdx? (·.1)=none:=by rfl):SGT X (.Tuple es k pos) (AV n u):=by
 obtain⟨t,p,h⟩:=h
 refine⟨_,yP hc p hn hst,λA δ δ' d v O α σ μ H Q E r e k=>?_⟩
 cases d with
 | tuple ds =>
  have e:(if ds.length=n then u ds δ else none)=some δ':=e
  by_cases hl:ds.length=n
  ·rw[if_pos hl] at e
   obtain⟨a,xs,rfl,h1,rs⟩:=r.tup_inv
   exact⟨a,xs,rfl,h1,by rw[rs.length];exact hl,h A δ δ' ds xs O α σ μ H Q E rs e k⟩
  simp_all
 | _=>cases e
noncomputable def qT(t:D->ar->Option ar)(g:ar->Sto->R OutS):List D->ar->Sto->R OutS
 | [],δ,μ=>R.ret (.nx δ μ)
 | d::ds,δ,μ=>match t d δ with
  | none=>none
  | some δ1=>(g δ1 μ).thn λo=>match o with
   | .nx δ' μ'=>qT t g ds δ' μ'
   | .ct δ' μ'=>qT t g ds δ' μ'
   | .bk δ' μ'=>R.ret (.nx δ' μ')
   | .rt v μ'=>R.ret (.rt v μ')
noncomputable def yy(fi:DS->M (List D))(t:D->ar->Option ar)(g:SG):SG:=λn δ μ=>(ofM (fi (view δ)) μ).thn λds=>qT t (g n) ds δ μ
theorem yp{tg iter:Expr}{body:List Stmt}{t:D->ar->Option ar}{fi:DS->M (List D)}{g:SG}(hp:PassesOwn (model X.prog X.w) X.A X.env X.xe)(hc:X.calm=true)(hi:PDI X G tg iter fi)(hg:SGT X tg t)(hb:SSs X G body g)
  (hs:∀x,foldedSetIterable iter X.env x=pure x:=by intro _;rfl):SS X G (.For tg iter body [] pos) (yy fi t g):=by
 obtain⟨wi,pi,hi⟩:=hi
 obtain⟨tgt,pt,hg⟩:=hg
 obtain⟨tb,pb,hb⟩:=hb
 refine⟨_,yM hp hc pi pt pb hs,λA δ μ O α σ H Dn E k=>?_⟩
 refine hi (view δ) O σ H _ E.view (aq (ln E.sr (bG (aI k) λx μ h=>Er.go E.st h)) λds z J H1 s1 Y=>?_)
 have E1:=E.same s1
 refine⟨λi m σ2 H2=>m=ds.length-i/\i<=ds.length/\∃δ2 μ2 O2 α2,SEv X.K X.mg A O2 α2 H2 σ2 δ2 μ2/\Go O α H1 O2 α2 H2/\okR (Er X.K X.mg G A.R0 A.O A.α A.H) (qT t (g A.α.length) (ds.drop i) δ2 μ2) (jC X.K X.mg A O α H Dn),⟨_,rfl,W4 _,δ,μ,O,α,E1,Go.refl,z⟩,?_⟩
 rintro i m σ2 H2 ⟨rfl,hi,δ2,μ2,O2,α2,E2,T,k2⟩
 have TT:=T.to E1.sr
 by_cases hlt:i<ds.length
 ·right
  have hd:= Z7 hlt
  obtain⟨go,yl⟩:=Y.step O2 H2 TT i _ hd
  refine⟨go,λσ' H'=>∃δ2 μ2 O2 α2,SEv X.K X.mg A O2 α2 H' σ' δ2 μ2/\Go O α H1 O2 α2 H'/\okR (Er X.K X.mg G A.R0 A.O A.α A.H) (qT t (g A.α.length) (ds.drop (i+1)) δ2 μ2) (jC X.K X.mg A O α H Dn),λσ' H' h=>⟨_,by omega,rfl,hlt,h⟩,λx H3 y=>?_⟩
  obtain⟨s3,rx⟩:=yl x H3 y
  rw[nY hd] at k2
  have E3:=E2.same s3
  have T3:=T.trans (Go.same s3)
  unfold qT at k2
  cases h3:t ds[i] δ2 with
  | none=>rw[h3] at k2;exact k2.elim
  | some δ3 =>
   rw[h3] at k2
   refine hg A δ2 δ3 ds[i] x O2 α2 σ2 μ2 H3 _ E3 rx h3 λσ4 E4=>?_
   refine hb A δ3 μ2 O2 α2 σ4 H3 _ E4 (aD (aI k2) λo z=>?_)
   cases o with
   | nx δ5 μ5=>exact λO5 α5 σ5 H5 E5 T5=>⟨δ5,μ5,O5,α5,E5,T3.trans T5,z⟩
   | ct δ5 μ5=>exact λO5 α5 σ5 H5 E5 T5=>⟨δ5,μ5,O5,α5,E5,T3.trans T5,z⟩
   | bk δ5 μ5=>exact λO5 α5 σ5 H5 E5 T5=>z O5 α5 σ5 H5 E5 ((Go.same s1).trans (T3.trans T5))
   | rt v μ5=>exact z
 ·left
  have e:i=ds.length:=by omega
  subst e
  rw[List.drop_length] at k2
  exact⟨Y.stop O2 H2 TT,k2 O2 α2 σ2 H2 E2 ((Go.same s1).trans T)⟩
end
end SL
namespace SL
open PyProof.Rows L2 DL
noncomputable def spS(K:ε)(mg:Str->Option Value)(n:Nat)(F:List Val->Sto->R (Val×Sto)):Sp:=λvs H Q _=>∃R0 O α μ xs,vs.length=n/\SR K mg R0 O α H μ/\VRs K O α H vs xs/\okR (λ_ _=>False) (F xs μ) (λr=>∀v O' α' H',Go O α H O' α' H'->SR K mg R0 O' α' H' r.2->VR K O' α' H' v r.1->Q v H')
structure DefS(P:Program)(w:World)(K:ε)(mg:Str->Option Value)(base:Heap)(k:Nat)(x:Str)(n:Nat)(F:List Val->Sto->R (Val×Sto)):Prop where
 ex:∃(f:Addr) (fd:FuncData) (ps:List Str),FnOk P w K mg base CX0 k f fd ps (spS K mg n F)/\mg x=some (.ref f)/\ξ K (.ref f)=true/\cY K fd ps []
noncomputable def xv{β:Type}(r:R β):R β:=match r with
 | some (.error _)=>none
 | r=>r
theorem qI{β:Type}{G:XD->Sto->Prop}{r:R β}{k:β->Prop}(h:okR G (xv r) k):okR (λ_ _=>False) r k:=by
 match r,h with
 | some (.ok a),h=>exact h
noncomputable def lI(F:List Val->Sto->R (Val×Sto))(fa:ar->Sto->R (List Val×Sto)):ar->Sto->R (Val×Sto):=λδ μ=>(fa δ μ).thn λr=>xv (F r.1 r.2)
section
variable{X:Cx}{G:XD->Hp->Prop}{e:Expr}{es:List Expr}{pos p:Pos}
theorem jX{k n:Nat}{x:Str}{F:List Val->Sto->R (Val×Sto)}{fa:ar->Sto->R (List Val×Sto)}(h:DefS X.prog X.w X.K X.mg X.base k x n F)(hr:Room k X.A)(hg:Gl X x)(hn:(e::es).length=n)(ha:SA X G (e::es) fa)
  (hdb:(x==("__debug__" : Str))=false:=by decide) (he:starEach (e::es) X.env=(false,eval e X.env)::starEach es X.env:=by rfl) (hpl:(backTo pos (starEach es X.env)).any (·.1)=false:=by rfl) :
  SX X G (.Call (.Name x p) (e::es) [] pos) (lI F fa):=by
 obtain⟨f,fd,ps,F1,hm,hk,hb⟩:=h.ex
 obtain⟨hl,t,pa,ha⟩:=ha
 refine⟨_,ke F1 hr hg hm hk hb .nil vN pa hdb he hpl,λA δ μ O α σ H Q E k=>?_⟩
 have k1:=aI k
 refine ha A δ μ O α σ H _ E ?_
 cases e1:fa δ μ with
 | none=>rw[e1] at k1;assumption
 | some r =>
  rw[e1] at k1
  cases r with
  | error x=>exact k1
  | ok r =>
   refine λvs O1 α1 H1 T1 S1 rs=>?_
   refine⟨A.R0,O1,α1,r.2,r.1,?_,S1,?_,aD (qI k1) λq z v O2 α2 H2 T2 S2 rv=>z v O2 α2 H2 (T1.trans T2) S2 rv⟩
   ·rw[Λ,rs.length,hl δ μ r e1];exact hn
   simp_all
end
noncomputable def eI(n:Nat)(xs:List Val):ar:=xs.map some++Z5 (n-xs.length) none
noncomputable def Ci(o:OutS):R (Val×Sto):=match o with
 | .rt v μ=>R.ret (v,μ)
 | .nx _ μ=>R.ret (.d .none,μ)
 | _=>none
noncomputable def fW(n:Nat)(g:SG)(xs:List Val)(μ:Sto):R (Val×Sto):=(g μ.length (eI n xs) μ).thn Ci
section
variable{P:Program}{w:World}{K:ε}{mg:Str->Option Value}{base:Heap}
theorem pR{R0 O:List Addr}{α:List (Option Addr)}{H:Hp}{μ:Sto}{vs:List V}{xs:List Val}(N:List Str)(S:SR K mg R0 O α H μ)(r:VRs K O α H vs xs):SEv K mg ⟨R0,O,α,H⟩ O α H (L2.start N vs) (eI N.length xs) μ:=by
 refine⟨S,Go.refl,?_,λi x h=>?_⟩
 ·unfold L2.start eI
  simp [r.length]
 ·unfold eI at h
  by_cases hi:i<xs.length
  ·rw[X9 (by simp_all),Φ] at h
   cases e:xs[i]? with
   | none=>simp_all
   | some y =>
    rw[e] at h
    cases h
    obtain⟨v,hv,rv⟩:=r.get e
    refine⟨v,?_,rv⟩
    unfold L2.start
    grind
  grind
theorem uO{x qual:Str}{st:Stmt}{f:Addr}{fd:FuncData}{N ps:List Str}{k:Nat}{g:SG}(F0:Fun K x qual st f fd)(S:FnScope N ps (af st))
  (hbody:∀(cdv:Value) (A:Around) (outer:List PySem.Env) (s:Shared) (H:Hp) (E:XK),Room k (A.deeper (envOfC qual (af st) s.heap.objs.size f cdv)) ->
   SSs (et CX0 P w K mg base N qual (af st) f cdv A outer s H E).nox (λ_ _=>False) (aB st) g):FnOk P w K mg base CX0 (k+1) f fd ps (spS K mg ps.length (fW N.length g)):=by
 refine F0.ok S (λvs H Q E h=>?_) (λcdv A outer s H vs Q E hr h=>?_)
 ·obtain⟨R0,O,α,μ,xs,hl,_⟩:=h
  exact hl
 ·obtain⟨R0,O,α,μ,xs,hl,S0,r,q⟩:=h
  obtain⟨t,p,hB⟩:=hbody cdv A outer s H E hr
  refine⟨t,p,hB ⟨R0,O,α,H⟩ (eI N.length xs) μ O α (L2.start N vs) H _ (pR N S0 r) ?_⟩
  have q1:=aI (show okR _ ((g μ.length (eI N.length xs) μ).thn Ci) _ from q)
  rw[<-S0.len] at q1
  refine aD (bG q1 λx μ h=>h.elim) λo z=>?_
  cases o with
  | rt v μ'=>exact λu O' α' H' S' G' r'=>z u O' α' H' G' S' r'
  | nx δ μ'=>exact λO' α' σ' H' E' G'=>z .non O' α' H' G' E'.sr (.d .non)
  | bk δ μ'=>exact z.elim
  | ct δ μ'=>exact z.elim
theorem my{x qual:Str}{st:Stmt}{f:Addr}{fd:FuncData}{N ps:List Str}{k:Nat}{g:SG}(F0:Fun K x qual st f fd)(S:FnScope N ps (af st))(hm:mg x=some (.ref f))(hb:cY K fd ps [])
  (hbody:∀(cdv:Value) (A:Around) (outer:List PySem.Env) (s:Shared) (H:Hp) (E:XK),Room k (A.deeper (envOfC qual (af st) s.heap.objs.size f cdv)) ->
   SSs (et CX0 P w K mg base N qual (af st) f cdv A outer s H E).nox (λ_ _=>False) (aB st) g):DefS P w K mg base (k+1) x ps.length (fW N.length g) :=
 ⟨f,fd,ps,uO F0 S hbody,hm,F0.kp,hb⟩
noncomputable def asD(F:List Val->Sto->R (Val×Sto)):List D->M D:=λds=>match F (ds.map Val.d) [] with
 | some (.ok (.d x,_))=>M.ret x
 | _=>none
theorem fn_toD{k n:Nat}{f:Addr}{fd:FuncData}{ps:List Str}{F:List Val->Sto->R (Val×Sto)}(F1:FnOk P w K mg base CX0 k f fd ps (spS K mg n F)):FnOk P w K mg base CX0 k f fd ps (spD K n (asD F)):=by
 refine F1.imp λvs H Q E q=>?_
 obtain⟨O,ds,hl,oo,rs,q⟩:=q
 refine⟨O,O,[],[],ds.map Val.d,hl,⟨rfl,λi j a h=>(by simp at h),oo,λ_ h=>h,λk a h=>(by simp at h)⟩,VRs.data rs,?_⟩
 unfold asD at q
 match hF:F (ds.map Val.d) [],q with
 | some (.ok (.d x,μ')),q =>
  refine λv O' α' H' T S r=>q v H' (λb o h=>T.keep b o (λk=>by simp) h) ?_
  exact Rep.to (To.less S.sub) r.dinv
theorem DefS.toD{k n:Nat}{x:Str}{F:List Val->Sto->R (Val×Sto)}(h:DefS P w K mg base k x n F):Def P w K mg base k x n (asD F):=by
 obtain⟨f,fd,ps,F1,hm,hk,hb⟩:=h.ex
 refine⟨f,fd,ps,F1.imp λvs H Q E q=>?_,hm,hk,hb⟩
 obtain⟨O,ds,hl,oo,rs,q⟩:=q
 refine⟨O,O,[],[],ds.map Val.d,hl,⟨rfl,λi j a h=>(by simp at h),oo,λ_ h=>h,λk a h=>(by simp at h)⟩,VRs.data rs,?_⟩
 unfold asD at q
 match hF:F (ds.map Val.d) [],q with
 | some (.ok (.d x,μ')),q =>
  refine λv O' α' H' T S r=>q v H' (λb o h=>T.keep b o (λk=>by simp) h) ?_
  exact Rep.to (To.less S.sub) r.dinv
end
section
variable{δ δ':ar}{μ μ' μ1:Sto}{n:Nat}{f fi:ar->Sto->R (Val×Sto)}{fa:ar->Sto->R (List Val×Sto)}{fc:ar->Sto->R (Bool×Sto)}{g h:SG}{v:Val}{r:R OutS}
theorem aL{i:Nat}(h:δ[i]?=some (some v)):aY i δ μ=R.ret (v,μ):=by unfold aY;rw[h]
theorem aW{f:DS->M D}{d:D}(h:f (view δ)=M.ret d):bq f δ μ=R.ret (.d d,μ):=by unfold bq;rw[h];rfl
theorem b9:dS δ μ=R.ret ([],μ):=rfl
theorem aT{xs:List Val}(h1:f δ μ=R.ret (v,μ1))(h2:fa δ μ1=R.ret (xs,μ')):bb f fa δ μ=R.ret (v::xs,μ'):=by unfold bb;rw[h1];show R.thn (fa δ μ1) _=_;rw[h2];rfl
theorem kP{F:List Val->Sto->R (Val×Sto)}{xs:List Val}(h1:fa δ μ=R.ret (xs,μ1))(h2:F xs μ1=R.ret (v,μ')):lI F fa δ μ=R.ret (v,μ'):=by unfold lI;rw[h1];show xv (F xs μ1)=_;rw[h2];rfl
theorem aO(h1:g n δ μ=R.ret (.nx δ' μ'))(h2:h n δ' μ'=r):bN g h n δ μ=r:=by unfold bN;rw[h1];exact h2
theorem kN(h1:g n δ μ=R.ret (.rt v μ')):bN g h n δ μ=R.ret (.rt v μ'):=by unfold bN;rw[h1];rfl
theorem bO{i:Nat}(h:f δ μ=R.ret (v,μ')):e5 i f n δ μ=R.ret (.nx (δ.set i (some v)) μ'):=by unfold e5;rw[h];rfl
theorem fq(h:f δ μ=R.ret (v,μ')):fG f n δ μ=R.ret (.rt v μ'):=by unfold fG;rw[h];rfl
theorem bJ{b:Bool}(h1:fc δ μ=R.ret (b,μ1))(h2:(if b=true then g n δ μ1 else h n δ μ1)=r):sIf fc g h n δ μ=r:=by unfold sIf;rw[h1];exact h2
theorem dD{fb:DS->M Bool}{b:Bool}(h:fb (viewL 0 μ δ)=M.ret b):b4 fb δ μ=R.ret (b,μ):=by unfold b4;rw[h];rfl
theorem Au{fi:DS->M (List D)}{t:D->ar->Option ar}{ds:List D}(h1:fi (view δ)=M.ret ds)(h2:qT t (g n) ds δ μ=r):yy fi t g n δ μ=r:=by unfold yy;rw[h1];exact h2
theorem ij{k:Nat}{xs:List Val}(h:g μ.length (eI k xs) μ=R.ret (.rt v μ')):fW k g xs μ=R.ret (v,μ'):=by unfold fW;rw[h];rfl
end
end SL
namespace SL
open PyProof.Rows L2 DL
section
variable{K:ε}{mg:Str->Option Value}{R0 O O':List Addr}{α α':List (Option Addr)}{H H':Hp}{μ μ':Sto}
theorem SR.at_new(S:SR K mg R0 O α H μ){l:Addr}:(α++[some l])[μ.length]?=some (some l):=by
 rw[<-S.len,Z8 (ο _),Nat.sub_self];rfl
theorem VRs.atI{vs:List V}{xs:List Val}{i:Int}{x:Val}(r:VRs K O α H vs xs)(h:L2.atI xs i=some x):∃v,L2.atI vs i=some v/\VR K O α H v x:=by
 unfold L2.atI at h ⊢
 rw[r.length]
 cases e:ixN xs.length i with
 | none=>simp_all
 | some j =>
  rw[e] at h
  exact r.get h
end
section
variable{X:Cx}{G:XD->Hp->Prop}{a b c e ix o:Expr}{es:List Expr}{pos pos' tpos apos cpos:Pos}{f fi fo:ar->Sto->R (Val×Sto)}{fa:ar->Sto->R (List Val×Sto)}
noncomputable def yx(fa:ar->Sto->R (List Val×Sto)):ar->Sto->R (Val×Sto):=λδ μ=>(fa δ μ).thn λr=>if aN r.1.length=true then R.ret (.h r.2.length,r.2++[.lst r.1]) else none
theorem yi(h:SA X G es fa):SX X G (.List es pos) (yx fa):=by
 obtain⟨_,t,p,h⟩:=h
 refine⟨_,ul p,λA δ μ O α σ H Q E k=>?_⟩
 refine h A δ μ O α σ H _ E (aD (aI k) λr z vs O1 α1 H1 T1 S1 rs=>?_)
 by_cases hz:aN r.1.length=true
 ·rw[if_pos hz] at z
  exact⟨by rw[rs.length];exact bj hz,λp hp=>z _ (p::O1) (α1++[some p]) _ (T1.trans (Go.newL hp)) (S1.newL hp rs) (.h S1.at_new)⟩
 ·rw[if_neg hz] at z;exact z.elim
noncomputable def sIx(fo fi:ar->Sto->R (Val×Sto)):ar->Sto->R (Val×Sto):=λδ μ=>(fo δ μ).thn λr=>(fi δ r.2).thn λq=>match q.1 with
 | .d (.int i)=>match r.1 with
  | .h k=>match q.2[k]? with
   | some (.lst xs)=>match L2.atI xs i with
    | some x=>R.ret (x,q.2)
    | none=>none
   | _=>none
  | .t xs=>match L2.atI xs i with
   | some x=>R.ret (x,q.2)
   | none=>none
  | .d (.tuple ds)=>match L2.atI ds i with
   | some d=>R.ret (.d d,q.2)
   | none=>none
  | .d (.list ds)=>match L2.atI ds i with
   | some d=>R.ret (.d d,q.2)
   | none=>none
  | _=>none
 | _=>none
theorem rK(ha:SX X G a fo)(hb:SX X G b fi)(hs:rq b):SX X G (.Subscript a b pos) (sIx fo fi):=by
 obtain⟨ta,pa,ha⟩:=ha
 obtain⟨tb,pb,hb⟩:=hb
 refine⟨_,pe_ix zV pa pb hs,λA δ μ O α σ H Q E k=>?_⟩
 refine ha A δ μ O α σ H _ E (aD (aI k) λr z v O1 α1 H1 T1 S1 r1=>?_)
 refine hb A δ r.2 O1 α1 σ H1 _ (E.go T1 S1) (aD (bG (aI z) λx μ h=>Er.go T1 h) λq y w O2 α2 H2 T2 S2 r2=>?_)
 have T:=T1.trans T2
 obtain⟨q1,q2⟩:=q
 obtain⟨p1,p2⟩:=r
 match q1,y,r2 with
 | .d (.int i),y,r2 =>
  have hw:=Rep.int_inv r2.dinv
  subst hw
  match p1,y,r1 with
  | .h k,y,r1 =>
   obtain⟨l,hl,rfl⟩:=r1.hinv
   have hl2:=T2.ex _ _ hl
   obtain⟨ob,g1,g2⟩:=S2.at_ k l hl2
   dsimp only at y
   rw[g1] at y
   match ob,y,g2 with
   | .lst xs,y,g2 =>
    obtain⟨_,_,vs,g3,g4⟩:=g2
    dsimp only at y
    cases hx:L2.atI xs i with
    | none=>rw[hx] at y;exact y.elim
    | some x =>
     rw[hx] at y
     obtain⟨u,hu,ru⟩:=g4.atI hx
     exact .inl ⟨l,vs,i,u,rfl,rfl,.inl (.inl g3),hu,y u O2 α2 H2 T S2 ru⟩
  | .t xs,y,r1 =>
   obtain⟨p,vs,rfl,h1,rs⟩:=(r1.to (T2.to S1) T2.ex).tinv
   dsimp only at y
   cases hx:L2.atI xs i with
   | none=>rw[hx] at y;exact y.elim
   | some x =>
    rw[hx] at y
    obtain⟨u,hu,ru⟩:=rs.atI hx
    exact .inr (.inl ⟨p,vs,i,u,rfl,rfl,h1,hu,y u O2 α2 H2 T S2 ru⟩)
  | .d (.tuple ds),y,r1 =>
   have rx:=(r1.to (T2.to S1) T2.ex).dinv
   dsimp only at y
   cases hx:L2.atI ds i with
   | none=>rw[hx] at y;exact y.elim
   | some x =>
    rw[hx] at y
    obtain⟨p,vs,rfl,h1,r3⟩:=rx.tup_inv
    obtain⟨u,hu,ru⟩:=r3.atI hx
    exact .inr (.inl ⟨p,vs,i,u,rfl,rfl,h1,hu,y u O2 α2 H2 T S2 (.d ru)⟩)
  | .d (.list ds),y,r1 =>
   have rx:=(r1.to (T2.to S1) T2.ex).dinv
   dsimp only at y
   cases hx:L2.atI ds i with
   | none=>rw[hx] at y;exact y.elim
   | some x =>
    rw[hx] at y
    obtain⟨p,vs,rfl,h1,r3⟩:=rx.lst_inv
    obtain⟨u,hu,ru⟩:=r3.atI hx
    exact .inl ⟨p,vs,i,u,rfl,rfl,h1,hu,y u O2 α2 H2 T S2 (.d ru)⟩
end
end SL
namespace DL
open PyProof.Rows L2
section
variable{X:Cx}{G:XD->Hp->Prop}{pos:Pos}
end
end DL
namespace DL
open PyProof.Rows L2
variable{X:Cx}
section
variable{G:XD->Hp->Prop}{e:Expr}{es:List Expr}{fa:DS->M (List D)}{pos:Pos}
end
section
variable{P:Program}{w:World}{K:ε}{mg:Str->Option Value}{base:Heap}
end
end DL
namespace DL
open PyProof.Rows L2
variable{X:Cx}{G:XD->Hp->Prop}{e o:Expr}{es:List Expr}{f g:DS->M D}{fa:DS->M (List D)}{pos apos:Pos}
noncomputable def oC(nm:Str):D->Option (List (D))
 | .dict [(.none,.tuple (.str x::r))]=>if x=nm then some r else none
 | _=>none
theorem qe{K:ε}{O:List Addr}{H:Hp}{v:V}{nm:Str}{x:D}{r:List D}(rx:Rep K O H v x)(h:oC nm x=some r):∃(a C dx:Addr) (fs:List (Str×V)) (es:List (Str×D)),v=.ref a/\r=es.map (λe=>V4 [.str e.1,e.2])/\η K mainGlobals nm=some (some (.ref C))/\H a=some (.ins C dx fs)/\a∉O/\fs.map (·.1)=es.map (·.1)/\Reps K O H (fs.map (·.2)) (es.map (·.2)):=by
 cases rx with
 | dct h1 n hk rr =>
  rename_i a kvs es
  cases es with
  | nil=>cases h
  | cons e es =>
   obtain⟨k,y⟩:=e
   cases es with
   | nil=>cases k<;>cases h
   | cons e2 es =>
    cases k<;>cases h
 | ins hN h1 n hk rr =>
  rename_i a C dx nm2 fs es
  have h':(if nm2=nm then some (es.map λe=>V4 [.str e.1,e.2]) else none)=some r:=h
  grind
 | _=>cases h
structure DefM(P:Program)(w:World)(K:ε)(mg:Str->Option Value)(base:Heap)(k:Nat)(nm m:Str)(n:Nat)(F:List D->M D):Prop where
 ex:∃(C f:Addr) (fd:FuncData) (ps:List Str),η K mainGlobals nm=some (some (.ref C))/\Cls K C/\Meth K C m f/\FnOk P w K mg base CX0 k f fd ps (spD K n F)/\cY K fd ps []
noncomputable def iU(m:Str)(r:List D):Bool:=r.all λd=>match d with
 | .tuple [.str g,_]=>decide (g≠m)
 | _=>false
noncomputable def dMe(nm m:Str)(F:List D->M D)(fo:DS->M D)(fa:DS->M (List D)):DS->M D:=λδ=>(fo δ).thn λx=>match oC nm x with
 | some r=>if iU m r=true then (fa δ).thn λds=>F (x::ds) else none
 | none=>none
theorem jK{m:Str}:∀{fs:List (Str×V)} {es:List (Str×D)},fs.map (·.1)=es.map (·.1)->iU m (es.map λe=>V4 [.str e.1,e.2])=true->fs.lookup m=none
 | [],_,_,_=>rfl
 | _::_,[],hk,_=>by cases hk
 | (g,v)::fs,(g2,y)::es,hk,h=>by
  simp only[Z2,List.cons.injEq] at hk
  obtain⟨rfl,hk⟩:=hk
  unfold iU at h
  rw[Z2,List.all_cons,Ξ] at h
  have c:= of_decide_eq_true h.1
  have hb:= beq_eq_false_iff_ne.mpr (Ne.symm c)
  simp only[W3,hb]
  exact jK hk h.2
theorem su{pl:Sem Bool}{k n:Nat}{nm m:Str}{F:List D->M D}(h:DefM X.prog X.w X.K X.mg X.base k nm m n F)(hr:Room k X.A)(hn:(e::es).length+1=n)(ho:PD X G o f)(ha:PDA X G (e::es) fa)
  (hst:starEach (e::es) X.env=(false,eval e X.env)::starEach es X.env:=by rfl) (hpl:(backTo pos (starEach es X.env)).any (·.1)=false:=by rfl)
  (ht:eval (.Call (.Attribute o m apos) (e::es) [] pos) X.env=(do
   let ov <- eval o X.env
   standAt apos.atName
   let (f,first) <- holding [ov] (getMethod ov m pl)
   callWith pos f first (backTo pos (starEach (e::es) X.env)) (backToKw pos (keywordEach [] X.env))):=by rfl) :
  PD X G (.Call (.Attribute o m apos) (e::es) [] pos) (dMe nm m (λds=>noX (F ds)) f fa):=by
 obtain⟨C,f0,fd,ps,hN,c,hm,F1,hb⟩:=h.ex
 obtain⟨t,p,ho⟩:=ho
 obtain⟨hl,ta,pa,ha⟩:=ha
 refine⟨_,qA p c hm F1 hr hb .nil vN pa hst hpl ht,λδ O σ H Q E k=>?_⟩
 refine ho δ O σ H _ E (aq (ay k) λx z v H1 s1 rx=>?_)
 cases hat:oC nm x with
 | none=>rw[hat] at z;exact z.elim
 | some r =>
  rw[hat] at z
  have z1:ok _ (if iU m r=true then (fa δ).thn λds=>noX (F (x::ds)) else none) _:=z
  by_cases hf:iU m r=true
  ·rw[if_pos hf] at z1
   obtain⟨a,C',dx,fs,es',rfl,rfl,hN',h1,hn1,hk,rr⟩:=qe rx hat
   have hC:C'=C:=by
    simp_all
   subst hC
   refine⟨a,dx,fs,rfl,h1,jK hk hf,?_⟩
   have k1:=ay z1
   refine ha δ O σ H1 _ (E.same s1) ?_
   cases e1:fa δ with
   | none=>rw[e1] at k1;assumption
   | some q =>
    rw[e1] at k1
    cases q with
    | error y=>exact k1
    | ok ds =>
     refine λvs H2 s2 rs=>?_
     refine⟨O,x::ds,?_,((E.same s1).same s2).oo,?_,aq (jI k1) λd z v H3 s3 r=>z v H3 (s1.trans (s2.trans s3)) r⟩
     ·show(vs++[]).length+1=n
      rw[Λ,rs.length,hl δ ds e1]
      exact hn
     ·rw[Λ]
      exact .cons (rx.same s2) rs
  ·rw[if_neg hf] at z1;exact z1.elim
theorem ev_me{nm m:Str}{F:List D->M D}{δ:DS}{x d:D}{r ds:List D}(h1:f δ=M.ret x)(h2:oC nm x=some r)(h3:iU m r=true)(h4:fa δ=M.ret ds)(h5:F (x::ds)=M.ret d):dMe nm m (λds=>noX (F ds)) f fa δ=M.ret d:=by
 unfold dMe
 rw[h1,aR,h2]
 show(if iU m r=true then (fa δ).thn λds=>noX (F (x::ds)) else none)=_
 rw[if_pos h3,h4,aR,h5]
 rfl
end DL
namespace OI
open PyProof.Rows
theorem BJ:builtinKind "object.__init__" = some .slot:=by decide +kernel
theorem zn:splitId "object.__init__" = some ("object", "__init__"):=by rfl
theorem oi_q(x:Value):(Code.builtin "object.__init__" ⟨[x],[]⟩).quiet=true:=Code.quiet_builtin _ (by simp)
theorem BK{prog:Program}{w:World}{A:Around}{x:Value}{Q:PySem.Fin->Shared->Prop}{E:Value->Shared->Prop}{s:Shared}(q:Q (.done (.ret .none)) s):wpAny (model prog w) A (Builtin.«object.__init__» ⟨[x],[]⟩) Q E s:=by
 exact wpAny_pure q
theorem oi_chk{prog:Program}{w:World}{A:Around}{E:Value->Shared->Prop}{s:Shared}{x:Value}{Q:Unit->Shared->Prop}(hi:PySem.W.Looks (model prog w) s.heap (isInstance x (.type "object")) true)(q:Q () s):wpAny (model prog w) A (checkBuiltinCall "object.__init__" ⟨[x],[]⟩) Q E s :=
 PySem.W.check_slot (M:=model prog w) (A:=A) (E:=E) (s:=s) (i := "object.__init__") (owner := "object") (n := "__init__") (self:=x) (rest:=[]) (kw:=[]) (Q:=Q) BJ zn hi (PySem.F.args_object_init_1 x) q
theorem oi_run{prog:Program}{w:World}{A:Around}{R:Result->Shared->Prop}{s:Shared}{x:Value}(hi:PySem.W.Looks (model prog w) s.heap (isInstance x (.type "object")) true)(q:R (.ok (.ret .none)) s):codeAny (model prog w) A (.call (.builtin "object.__init__") ⟨[x],[]⟩) R s:=by
 refine codeAny_call_builtin_at (oi_q x) PySem.F.entry_object_init ?_
 refine oi_chk hi ?_
 refine BK ?_
 exact q
end OI
namespace DL
open PyProof.Rows L2
theorem BL(self:Value):bindSpecial (.builtin "object.__init__") self=pure (.builtin "object.__init__",[self]):=by
 have hop:withoutEnding? "object.__init__" "#opaque" = none:=by rfl
 have hdat:withoutEnding? "object.__init__" "#data" = none:=by rfl
 rfl
structure Mk0(K:ε)(C:Addr):Prop where
 makes:W9 K C=true
 init:θ K (.ref C) "__init__" = some (some (.builtin "object.__init__"))
 sub:PySem.W.subIn K (.ref C) (.type "object")=some true
 kp:ξ K (.ref C)=true
section
variable{X:Cx}{G:XD->Hp->Prop}{C f:Addr}{x nm fl:Str}{p pos:Pos}{e:Expr}{es:List Expr}{g:DS->M D}
noncomputable def tMk0(C:Addr):TE:=λσ H Q=>∀x dx,H x=none->H dx=none->dx≠x->Q (.ref x) (upd (upd H dx (.own x)) x (.ins C dx []))
theorem pe_mk0(M:Mk0 X.K C)(hg:Gl X x)(hm:X.mg x=some (.ref C))(hdb:(x==("__debug__" : Str))=false:=by decide):PE X (.Call (.Name x p) [] [] pos) (tMk0 C):=by
 intro pins s σ H Q I h
 refine wpAny_Call_Name_kw (d9 I hg hm ?_ hdb)
 refine PySem.W.callWith_K0 I.kIn M.kp ?_
 have hq:=h (s.heap.objs.size+1) s.heap.objs.size (I.hok.fresh (Nat.le_succ _)) (I.hok.fresh (ο _)) (Z9 (Nat.lt_succ_self _))
 have I2:=Inv.made (C:=C) I
 refine wpAny_call (xx I.kIn M.makes M.init (λself=>PySem.W.Looks.of_pure (BL self)) (OI.oi_run ?_ ⟨rfl,⟨V.ref (s.heap.objs.size+1),_,I2,rfl,hq⟩⟩))
 have hx:((s.heap.push X1).push (X2 C s.heap.objs.size)).get? (s.heap.objs.size+1)=some (X2 C s.heap.objs.size):=by
  have:=Heap.get?_push_size (s.heap.push X1) (o:=X2 C s.heap.objs.size) rfl
  simp_all
 have t1:PySem.W.Looks (model X.prog X.w) ((s.heap.push X1).push (X2 C s.heap.objs.size)) (typeOf (.ref (s.heap.objs.size+1))) (.ref C):=(PySem.W.Looks.ld hx).andThen .now
 exact t1.andThen (PySem.W.looks_subIn I2.kIn M.sub)
theorem Bg{K:ε}{O:List Addr}{H:Hp}{C a dx:Addr}{nm:Str}{fs:List (Str×V)}{es:List (Str×D)}(oo:∀l∈O,Mu H l)(hN:η K mainGlobals nm=some (some (.ref C)))(ha:H a=none)(hd:H dx=none)(hne:dx≠a)(hk:fs.map (·.1)=es.map (·.1))(r:Reps K O H (fs.map (·.2)) (es.map (·.2))):aJ H (upd (upd H dx (.own a)) a (.ins C dx fs))/\Rep K O (upd (upd H dx (.own a)) a (.ins C dx fs)) (.ref a) (nI nm es):=by
 have s:aJ H (upd (upd H dx (.own a)) a (.ins C dx fs)):=(bn hd).trans (bn (by rw[upd_ne (Ne.symm hne)];exact ha))
 exact⟨s,.ins hN aA (nin oo ha) hk (r.same s)⟩
theorem pd_mk0(M:Mk0 X.K C)(hN:η X.K mainGlobals x=some (some (.ref C)))(hg:Gl X x)(hm:X.mg x=some (.ref C))(hdb:(x==("__debug__" : Str))=false:=by decide):PD X G (.Call (.Name x p) [] [] pos) (dC (nI x [])):=by
 refine⟨_,pe_mk0 M hg hm hdb,λδ O σ H Q E k=>?_⟩
 intro a dx ha hd hne
 obtain⟨s,r⟩:=Bg (fs:=[]) (es:=[]) E.oo hN ha hd hne rfl .nil
 exact k _ _ s r
end
section
variable{P:Program}{w:World}{K:ε}{mg:Str->Option Value}{base:Heap}
end
end DL
namespace L2
open PyProof.Rows
section
open AutoSeq1 (wpAny_loadPart')
abbrev BY(l:Addr):Obj:={ cls:=.type "list_iterator",data:=.fields #[.ref l,.int 0 0] }
abbrev enOf(a:Addr):Obj:={ cls:=.type "enumerate",data:=.fields #[.none,.bool false,.ref a,rawInt 1,.none,.none] }
theorem xJ(l:Addr)(its:Array Value)(n:Nat)(dc:Option Addr)(sl:Array (Option Value))(t:Tok) :
  Meets (Builtin.«enumerate.__new__» ⟨[.type "enumerate",.ref l],[(Str.ofString "start",.int 1 t)]⟩) (λ_ R s=>s.heap.get? l=some { cls:=.type "list",dict:=dc,data:=.seq its n,slots:=sl } /\
   R (.ok (.ret (.ref (s.heap.push (BY l)).objs.size))) { s with heap:=(s.heap.push (BY l)).push (enOf s.heap.objs.size) }):=by
 refine Meets.of_wp λprog w A R st0 h=>?_
 obtain⟨hp,g,d,tk,os⟩:=st0
 obtain⟨hl,h⟩:=h
 have hsub:=sub_enumerate
 have hL:Heap.IsList (Shared.heap ⟨hp,g,d,tk,os⟩) l its:=⟨_,hl,rfl,n,rfl⟩
 wp_walk using wpAny_loadPart' hl
 refine wpAny_stack_any λstk=>wpAny_pure ?_
 split
 ·rename_i c _ _ _ _ _
  cases (c==Value.type "enumerate")<;>(wp_walk using wpAny_pyIter_list hL,wpAny_loadPart' hl)<;>exact⟨_,rfl,h⟩
 ·wp_walk using wpAny_pyIter_list hL,wpAny_loadPart' hl
  exact⟨_,rfl,h⟩
end
section
variable{prog:Program}{w:World}{A:Around}{E:Value->Shared->Prop}{s:Shared}
theorem oi_kw{T newId:String}{self:Value}{rest:List Value}{kw:List (Str×Value)}(hl:typeLookup (.type T) "__init__" = pure (some (.builtin "object.__init__")))
  (hm:Bind.madeBy (.type T)=pure (some newId)) (hne:(some newId != some "object.__new__")=true) (hk:kw≠[]) :
  Meets (Builtin.«object.__init__» ⟨self::rest,kw⟩) (λ_ R s=>s.TypeIs self T/\R (.ok (.ret .none)) s):=by
 refine Meets.of_wp λprog w A R s ⟨hT,hq⟩=>?_
 cases kw with
 | nil=>simp_all
 | cons a kw =>
  cases rest with
  | nil =>
   repeat (any_goals (first | assumption | wp_step))
   simp_all
  | cons b rest =>
   repeat (any_goals (first | assumption | wp_step))
   simp_all
theorem xV{T newId:String}{Bn:Builtin}{args:List Value}{kw:List (Str×Value)}{S:PySem.Spec}{Q:Value->Shared->Prop}(ft:TypeCalled T newId "object.__init__")(hk:kw≠[])
  (hne:(some newId != some "object.__new__")=true) (hct:checkTypeCall T ⟨args,kw⟩=pure ()) (hcn:checkBuiltinCall newId ⟨.type T::args,kw⟩=pure ())
  (hok:∀obj,argsOk "object.__init__" ⟨obj::args,kw⟩) (entryN:entryFor table newId=some Bn) (g:Meets (Bn ⟨.type T::args,kw⟩) S)
  (h:S A.in1 (wants (λobj s₁=>s₁.TypeIs obj T/\Q obj s₁) E) s):wpAny (model prog w) A (call (.type T) args kw) Q E s:=by
 obtain⟨c,tl,hmro⟩:=ft.mro
 have hmade:=ft.made
 have hsub:=ft.sub
 refine wpAny_call (codeAny_of_tree ?_)
 refine wpAny_pure ⟨Code.quiet_builtin _ (by simp),codeAny_builtin F.entry_type_call ?_⟩
 have h1:=ft.notType
 have h2:=ft.canCreate
 repeat (any_goals (first | assumption | wp_step))
 refine codeAny_mono (codeAny_call_builtin ft.plain entryN (wpAny_of_eq hcn (g prog w A.in1 _ s h))) λr s1 hr=>?_
 cases r with
 | error e=>exact hr
 | ok fl =>
  cases fl with
  | ret obj =>
   obtain⟨hT,hq⟩:=hr
   have hli:=ft.init.lookup
   have hbi:=ft.init.bind obj
   repeat (any_goals (first | assumption | wp_step))
   refine codeAny_mono (codeAny_call_builtin ft.init.plain F.entry_object_init (ft.init.check _ _ _ _ _ _ _ _ hT (hok obj) (oi_kw hli hmade hne hk prog w A.in1 (wants (λr s2=>r=.none/\Q obj s2) E) s1 ⟨hT,rfl,hq⟩))) λr2 s2 hr2=>?_
   cases r2 with
   | error e=>exact hr2
   | ok fl2 =>
    cases fl2 with
    | ret r =>
     obtain⟨rfl,hq⟩:=hr2
     repeat (any_goals (first | assumption | wp_step))
    | _=>assumption
  | _=>assumption
end
end L2
namespace L2
open PyProof.Rows
section
variable{Mo:Model}{A:Around}{E:Value->Shared->Prop}{s:Shared}{env:Env}
theorem oA{pos:Pos}{T:String}{e:Expr}{rest:List Expr}{kws:List Keyword}{Q:Value->Shared->Prop}
  (h:wpAny Mo A (spliced (backTo pos (starEach (e::rest) env))) (λvs s1=>wpAny Mo A (evalAll ((backToKw pos (keywordEach kws env)).map (·.2))) (λkvs s2=>wpAny Mo A (call (.type T) vs (((backToKw pos (keywordEach kws env)).filterMap (·.1)).zip kvs)) Q E s2) E s1) E s)
  (he:backTo pos (starEach (e::rest) env)=(false,eval e env)::backTo pos (starEach rest env)) (hp:(backTo pos (starEach (e::rest) env)).any (·.1)=false)
  (ha:(backToKw pos (keywordEach kws env)).all (·.1.isSome)=true) (hk:(backToKw pos (keywordEach kws env)).any (·.1.isNone)=false) :
  wpAny Mo A (callWith pos (.type T) [] (backTo pos (starEach (e::rest) env)) (backToKw pos (keywordEach kws env))) Q E s:=by
 rw[he] at h hp ⊢
 refine wpAny_bind (wpAny_holding (wpAny_mono (evalArgs_kwB (Q:=λa s1=>wpAny Mo A (call (.type T) a.pos a.kw) Q E s1) ha h) (λa s1 h1=>wpAny_bind (wpAny_standAt ?_)) λ_ _ z=>z))
 rw[hp,hk]
 refine wpAny_bind (wpAny_pure ?_)
 exact wpAny_bind (wpAny_mono h1 (λr s2 hr=>wpAny_bind (wpAny_holding (wpAny_point (wpAny_pure hr)))) λ_ _ z=>z)
end
section
variable{prog:Program}{w:World}{A:Around}{E:Value->Shared->Prop}{s:Shared}
theorem yg(a b:Value):checkTypeCall "enumerate" ⟨[a],[(Str.ofString "start",b)]⟩=pure ():=by kernel_rfl
theorem zB(a b:Value):checkBuiltinCall "enumerate.__new__" ⟨[.type "enumerate",a],[(Str.ofString "start",b)]⟩=pure ():=by kernel_rfl
theorem zZ(o a b:Value):argsOk "object.__init__" ⟨[o,a],[(Str.ofString "start",b)]⟩:=by
 kernel_rfl
theorem ve{l:Addr}{its:Array Value}{t:Tok}{Q:Value->Shared->Prop}(hL:s.heap.IsList l its)
  (h:∀h',IsEnum h' (s.heap.objs.size+1) s.heap.objs.size 1 .none->h'.IsListIter s.heap.objs.size l 0->h'.objs.size=s.heap.objs.size+2 ->
   (∀b o,s.heap.get? b=some o->h'.get? b=some o)->Q (.ref (s.heap.objs.size+1)) { s with heap:=h' }) :
  wpAny (model prog w) A (call (.type "enumerate") [.ref l] [(Str.ofString "start",.int 1 t)]) Q E s:=by
 obtain⟨⟨c,dc,dt,sl⟩,hl,hc,n,hd⟩:=hL
 cases (show c=.type "list" from hc)
 cases (show dt=.seq its n from hd)
 refine xV F.called_enumerate (by simp) (by decide) (yg _ _) (zB _ _) (λobj=>zZ obj _ _) F.entry_enumerate_new (xJ l its n dc sl t) ⟨hl,?_⟩
 have hz:(s.heap.push (BY l)).objs.size=s.heap.objs.size+1:=Heap.size_push ..
 rw[hz]
 have he:((s.heap.push (BY l)).push (enOf s.heap.objs.size)).get? (s.heap.objs.size+1)=some (enOf s.heap.objs.size):=by
  rw[<-hz]
  exact Heap.get?_push_size _ rfl
 exact⟨⟨_,he,rfl⟩,h _ he ⟨_,Heap.get?_push_of_some _ (Heap.get?_push_size _ rfl),rfl,rfl⟩ (by simp) λb o z=>Heap.get?_push_of_some _ (Heap.get?_push_of_some _ z)⟩
end
theorem xK{prog:Program}{w:World}{A:Around}{it:Addr}{fp:List Addr}{n:Nat}{P:Nat->Value->Prop}{Sq:Nat->Heap->Prop}(D:Draws prog w A it fp n P Sq) :
  Draws prog w A it fp (1+n) (λj v=>∃i,j=1+i/\P i v) (λj h=>∃i,j=1+i/\Sq i h) where
 live:=λ_ h ⟨i,_,z⟩=>D.live i h z
 frame:=λ_ h h' ⟨i,e,z⟩ k=>⟨i,e,D.frame i h h' z k⟩
 item:=λj s Q E hj ⟨i,e,z⟩ k=>D.item i s Q E (by omega) z λx h' tk p q r=>k x h' tk ⟨i,e,p⟩ ⟨i+1,by omega,q⟩ r
 done:=λs Q E ⟨i,e,z⟩ k=>D.done s Q E ((show i=n by omega)▸z) k
theorem AE{prog:Program}{w:World}{A:Around}{it l:Addr}(hh:A.handled=none)(hne:l≠it){its:Array Value}{i:Nat} :
  Draws prog w A.in1 it [it,l] 0 (λ_ _=>False) (λ_ h=>h.IsListIter it l i/\h.IsList l its/\its[i]?=none) where
 live:=λ_ _ st=>let ⟨o,ho,_⟩:=st.1;⟨o,ho⟩
 frame:=λ_ _ _ st hk=>⟨st.1.at λo e=>hk it (by simp) o e,st.2.1.at λo e=>hk l (by simp) o e,st.2.2⟩
 item:=λi s Q E hi=>by omega
 done:=λs Q E st k=>wpAny_nextOf_list_end (A:=A.in1) hh st.1 st.2.1 st.2.2 k
noncomputable def Itk(K:ε)(a:Addr):It :=
  ⟨λi H=>∃xs x,SqL K H a xs/\xs[i]?=some x,
   λi H v H'=>∃T,v=.ref T/\H T=none/\∀xs x,SqL K H a xs->xs[i]?=some x->H'=upd H T (.tup [.int ((1+i:Nat):Int),x]),
   λi H=>∃xs,SqL K H a xs/\xs.length<=i⟩
theorem tN{P:Program}{w:World}{K:ε}{elts:List Expr}{x1:Nat}{tpos:Pos}(a e it:Addr)(n1:e≠it) :
  Turn P w K (.Tuple elts x1 tpos) (Itk K a) [e,it] e (λi h=>(∃old,IsEnum h e it ((1+i:Nat):Int) old)/\h.IsListIter it a i) where
 mem:=by simp
 obj:=λi h st c hc=>by
  obtain⟨⟨old,he⟩,⟨o1,e1,c1,d1⟩⟩:=st
  grind
 keep:=λi h h' st k=>by
  obtain⟨⟨old,he⟩,h1⟩:=st
  exact⟨⟨old,k e (by simp) _ he⟩,h1.at λo e=>k it (by simp) o e⟩
 item:=by
  intro X hP hw hK hc i pins s σ H E I hf st hg
  subst hP hw hK
  obtain⟨⟨old,he⟩,h1⟩:=st
  obtain⟨xs,x,hq,hx⟩:=hg
  obtain⟨its,rv,p,_⟩:=I.list hq
  obtain⟨ux,hux,rx⟩:=rv.get hx
  obtain⟨o1,e1,c1,d1⟩:=id h1
  have fr:= I.hok.fresh (ο _)
  have ne:∀{c:Addr} {o:Obj},s.heap.get? c=some o->s.heap.objs.size≠c:=λe=>Nat.ne_of_gt (Heap.lt_size e)
  obtain⟨oa,ea,ca,da⟩:=id p.isList
  have ne1:= ou ea he (by simp_all)
  have ne2:= ou ea e1 (by simp_all)
  have hlt:i<its.toArray.size:=by
   grind
  refine wpAny_pyNext_enum_itemD (xK (Draws.list (A:=X.A.in1) (I.ok.hd hc) it a ne2 its.toArray)) he ⟨i,rfl,h1,p.isList⟩ (by omega) n1 (by grind) λux' h' tk hP e' hS T' sz k=>?_
  obtain⟨i',ei,hP⟩:=hP
  have ei:i'=i:=by omega
  subst ei
  have eu:ux'=ux:=by
   simp_all
  subst eu
  obtain⟨i2,ei2,h1'⟩:=hS
  have ei2:i2=i'+1:=by omega
  subst ei2
  have h1':=h1'.1
  refine⟨_,rfl,wpAny_letOwnedTupleGo_enum e' λh2 he2 sb=>?_⟩
  have k2:∀c o,c∉[e,it]->s.heap.get? c=some o->h2.get? c=some o:=λc o hc q=>by
   simp only[Δ,U7,or_false,not_or] at hc
   exact sb.extBut _ _ hc.1 (k c o hc.1 hc.2 q)
  have T2:= sb.extBut _ _ (ne he) T'
  have I1:Inv X pins σ (upd H s.heap.objs.size (.tup [.int ((1+i':Nat):Int),x])) { s with heap:=h2,toks:=tk+1 }:=by
   refine I.turnNew hf k2 (ο _) ⟨by show 2<=_;rw[sizeLine_eq];omega,[.int ((1+i':Nat):Int) tk,ux'],.cons ⟨_,rfl⟩ (.cons rx .nil),?_⟩
   exact⟨_,T2,rfl,0,rfl⟩
  refine⟨.ref s.heap.objs.size,_,I1,rfl,⟨_,rfl,fr,λxs' x' q1 q3=>?_⟩,⟨⟨ux',he2⟩,h1'.extBut sb.extBut n1.symm⟩,λc hc=>?_⟩
  ·rw[I.list_inj q1 hq] at q3
   simp_all
  ·have hn:c≠s.heap.objs.size:=by
    grind
   rw[upd_ne hn]
   exact(hf c hc).1
 done:=by
  intro X hP hw hK hc i pins s σ H E I hf st hg
  subst hP hw hK
  obtain⟨⟨old,he⟩,h1⟩:=st
  obtain⟨xs,hq,hx⟩:=hg
  obtain⟨its,rv,p,_⟩:=I.list hq
  have hl:=rv.length
  obtain⟨oa,ea,ca,da⟩:=id p.isList
  obtain⟨o1,e1,c1,d1⟩:=id h1
  have ne2:= ou ea e1 (by simp_all)
  refine wpAny_pyNext_enum_endD (AE (I.ok.hd hc) ne2) he ⟨h1,p.isList,by simp_all⟩ λh' k=>⟨rfl,?_⟩
  refine I.turnAll hf λc o hc e=>?_
  simp only[Δ,U7,or_false,not_or] at hc
  exact k c o hc.2 e
 self:=λ_ _ _ _ _ st h=>by
  obtain⟨⟨old,he⟩,_⟩:=st
  exact wpAny_pyIter_enum he h
section
variable{X:Cx}{elts:List Expr}{x1:Nat}{tpos:Pos}
noncomputable def iEnumK(K:ε)(ta:TA):TI:=λσ H R=>ta σ H λvs H1=>∃a,vs=[.ref a]/\(∃xs,SqL K H1 a xs)/\R (Itk K a) H1
theorem yO{a:Expr}{ta:TA}{p pos kp kpos:Pos}{j:Nat}(hg:Gl X "enumerate")(hm:X.mg "enumerate" = none)(ha:PA X [a] ta)(hs:starEach [a] X.env=(false,eval a X.env)::starEach [] X.env:=by rfl) :
  PI X (.Tuple elts x1 tpos) (.Call (.Name "enumerate" p) [a] [⟨some (Str.ofString "start"),.Constant (.int 1) j kp,kpos⟩] pos) (iEnumK X.K ta):=by
 intro pins s σ H R I h
 refine wpAny_Call_Name_kw (lu I hg hm boot_enumerate ?_ (by decide) (by decide))
 refine oA ?_ (by rw[hs];rfl) (by rw[hs];rfl) rfl rfl
 refine thn (ha pos pins s σ H _ I h) λus s1 ⟨vs,H1,I1,r1,q1⟩=>?_
 refine PyProof.Rows.kws_cons (thn (yU pins s1 σ H1 (λz H2=>z=.int 1/\H2=H1) I1 ⟨rfl,rfl⟩) λu s2 ⟨z,H2,I2,rz,ez,eh⟩=>PyProof.Rows.kws_nil ?_)
 subst ez eh
 obtain⟨t,rfl⟩:=rz
 obtain⟨l1,e,⟨xs,hx⟩,q⟩:=q1
 subst e
 obtain⟨u1,rfl,rx⟩:=fu r1
 cases rx
 obtain⟨its,rv,pl,_⟩:=I2.list hx
 refine ve pl.isList λh' he h1 sz k=>wpAny_pyIter_enum he ?_
 refine⟨s2.heap.objs.size+1,[s2.heap.objs.size+1,s2.heap.objs.size],_,_,H2,rfl,I2.kept (t':=s2.toks) k,
  tN l1 (s2.heap.objs.size+1) s2.heap.objs.size (by simp),⟨⟨_,he⟩,h1⟩,λc hc=>?_,q⟩
 have hc':s2.heap.objs.size<=c:=by
  grind
 exact I2.fpOk hc' (I2.hok.fresh hc')
end
end L2
namespace L2
open PyProof.Rows
section
variable{X:Cx}
theorem xw:MtR X "str.split" (λx xs H Q=>∃z y n,x=.str z/\xs=[.str y,.int n]/\(decide (n < -(2 ^ 63:Int))||decide (n ≥ 2 ^ 63))=false/\(y.length==0)=false/\z.length<=sizeLine/\(Txt.splitMax z y n).length<=sizeLine /\
  ∀p,H p=none->Q (.ref p) (upd H p (.lst ((Txt.splitMax z y n).map V.str)))):=by
 intro pins s σ H x xs v us Q I rx rs h
 obtain⟨z,y,n,rfl,rfl,hn,hy,hz,hl,q⟩:=h
 obtain⟨t,rfl⟩:=rx
 obtain⟨u,u',rfl,⟨t2,rfl⟩,⟨t3,rfl⟩⟩:∃u u',us=[u,u']/\(∃t2,u=.str y t2)/\(∃t3,u'=.int n t3):=by
  cases rs with
  | cons r rs =>
   cases rs with
   | cons r' rs =>
    cases rs
    exact⟨_,_,rfl,r,r'⟩
 have fin:∀(l:List (Str×Tok)) (k:Nat),l.map (·.1)=Txt.splitMax z y n->EP X pins σ Q (.ref s.heap.objs.size) { s with heap:=s.heap.push { cls:=.type "list",data:=.seq (strValues l).toArray },toks:=k }:=λl k e=>by
  rw[<-e] at q hl
  refine⟨.ref s.heap.objs.size,_,I.laid (o:=.lst ((l.map (·.1)).map V.str)) (λb o e=>Heap.get?_push_of_some _ e) (ο _) ⟨by simp_all,_,0,gX l,Heap.get?_push_size _ rfl⟩,rfl,q _ I.fresh⟩
 cases h1:(decide (z.length<y.length)||decide (Builtin.Str.strKind z<Builtin.Str.strKind y))
 ·cases hf:(Builtin.Str.occurrences z y 0 z.length (limitOf z n)).isEmpty
  ·have e1:Txt.splitMax z y n=Builtin.Str.partsBetween z (Builtin.Str.occurrences z y 0 z.length (limitOf z n)) y.length:=(if_neg (ne_true_of_eq_false h1)).trans (if_neg (ne_true_of_eq_false hf))
   refine call_meets PySem.F.slot_str_split (typeIs_str _ _ _) PySem.F.entry_str_split (PySem.F.args_str_split_3 _ _ _) (meets_str_split_sep_max z y n t t2 t3 hn h1 hy hf hz (by simp_all)) ?_
   rw[strsFrom_eq]
   exact fin (numbered s.toks _) _ ((numbered_texts _ _).trans e1.symm)
  ·exact call_meets PySem.F.slot_str_split (typeIs_str _ _ _) PySem.F.entry_str_split (PySem.F.args_str_split_3 _ _ _) (meets_str_split_max_not_found z y n t t2 t3 hn h1 hy hf)
    (fin [(z,t)] _ ((if_neg (ne_true_of_eq_false h1)).trans (if_pos hf)).symm)
 ·exact call_meets PySem.F.slot_str_split (typeIs_str _ _ _) PySem.F.entry_str_split (PySem.F.args_str_split_3 _ _ _) (meets_str_split_max_cannot_occur z y n t t2 t3 hn h1)
   (fin [(z,t)] _ (if_pos h1).symm)
end
end L2
namespace DL
open PyProof.Rows L2
section
variable{X:Cx}{G:XD->Hp->Prop}{a e:Expr}{f:DS->M D}{fa:DS->M (List D)}{p pos kp kpos tpos:Pos}{elts:List Expr}{x1:Nat}{K:ε}{O:List Addr}{H1:Hp}
theorem xY{a:Addr}{xs:List V}{ds:List D}(hk:∀(O2:List Addr) (H2:Hp),To O O2 H1 H2->SqL K H2 a xs)(rs:Reps K O H1 xs ds):Yl K (Itk K a) O H1 (ej 1 ds):=by
 refine⟨λO2 H2 t i d hd=>?_,λO2 H2 t=>⟨xs,hk O2 H2 t,?_⟩⟩
 ·obtain⟨x,hx,rfl⟩:=pX hd
  obtain⟨v,hv,r⟩:=rs.get hx
  refine⟨⟨xs,v,hk O2 H2 t,hv⟩,λz H3 q=>?_⟩
  obtain⟨T,rfl,hT,q⟩:=q
  have e:=q xs v (hk O2 H2 t) hv
  subst e
  exact⟨bn hT,fH hT (.cons (.int _) (.cons (r.to t) .nil))⟩
 ·rw[pW,rs.length]
  omega
noncomputable def ri(fa:DS->M (List D)):DS->M (List D):=λδ=>(fa δ).thn λds=>match ds with
 | [.list xs]=>M.ret (ej 1 xs)
 | _=>none
theorem xk{j:Nat}(hgl:Gl X "enumerate")(hm:X.mg "enumerate" = none)(ha:PDA X G [a] fa)(hs1:starEach [a] X.env=(false,eval a X.env)::starEach [] X.env:=by rfl) :
  PDI X G (.Tuple elts x1 tpos) (.Call (.Name "enumerate" p) [a] [⟨some (Str.ofString "start"),.Constant (.int 1) j kp,kpos⟩] pos) (ri fa):=by
 obtain⟨_,ta,pa,ha⟩:=ha
 refine⟨_,yO hgl hm pa hs1,λδ O σ H R E k=>?_⟩
 refine ha δ O σ H _ E (aq (ay k) λds z vs H1 s1 rs=>?_)
 match ds,z with
 | [.list xs],z =>
  obtain⟨v,rfl,r⟩:=d8 rs
  obtain⟨a1,us,rfl,hq,hk,r1⟩:=r.lstTo
  exact⟨a1,rfl,⟨us,hq⟩,z _ H1 s1 (xY hk r1)⟩
theorem nS{δ:DS}{xs:List D}(h1:fa δ=M.ret [.list xs]):ri fa δ=M.ret (ej 1 xs):=by unfold ri;rw[h1];rfl
noncomputable def mf(z:Str):List D->Option D
 | [.str y,.int n]=>if ((y.length==0)==false&&aN z.length&&aN (Txt.splitMax z y n).length&&!(decide (n < -(2 ^ 63:Int))||decide (n ≥ 2 ^ 63)))=true then some (.list ((Txt.splitMax z y n).map W1)) else none
 | _=>none
theorem uX:DMt X "str.split" mf:=by
 refine⟨_,xw,λO H z xs d vs Q oo rs e k=>?_⟩
 unfold mf at e
 split at e
 ·rename_i y n
  split at e
  ·rename_i hp
   cases e
   obtain⟨hp,h4⟩:=X6.mp hp
   obtain⟨hp,h3⟩:=X6.mp hp
   obtain⟨h1,h2⟩:=X6.mp hp
   obtain⟨v,v',rfl,r,r'⟩:=reps2 rs
   exact⟨z,y,n,rfl,by rw[r.str_inv,r'.int_inv],by simp_all,by simp_all,bj h2,bj h3,λp hp=>k _ _ (bn hp) (iL oo hp (hJ _))⟩
  simp_all
 simp_all
noncomputable def truD:D->Option Bool
 | .bool b=>some b
 | .str z=>if aN z.length then some ((z.length:Int) != 0) else none
 | .list xs=>some (!xs.isEmpty)
 | _=>none
noncomputable def dTr(f:DS->M D):DS->M Bool:=λδ=>(f δ).thn λd=>M.lift (truD d)
theorem za(he:PD X G e f)(h1:∀whole,isTrue e X.env whole=(do let v <- whole;standAt e.pos;holding [v] (truthy v)):=by intro _;rfl):PDT X G e (dTr f):=by
 obtain⟨t,p,he⟩:=he
 refine⟨_,yI p h1,λδ O σ H Q E k=>?_⟩
 refine he δ O σ H _ E (aq (ay k) λd z v H' s r=>?_)
 obtain⟨b,hb,z⟩:=cN z
 refine⟨b,?_,z H' s⟩
 unfold truD at hb
 split at hb
 ·cases hb
  rw[r.bool_inv]
  rfl
 ·split at hb
  ·rename_i hs
   cases hb
   rw[r.str_inv]
   exact⟨bj hs,rfl⟩
  simp_all
 ·rename_i xs
  cases hb
  obtain⟨l,us,rfl,h2,rx⟩:=r.lst_inv
  refine .inl ⟨us,h2,?_⟩
  have:=rx.length
  grind
 simp_all
end
end DL
namespace SL
open PyProof.Rows L2 DL
section
variable{X:Cx}{G:XD->Hp->Prop}{a b c e ix o:Expr}{es:List Expr}{pos pos' tpos apos cpos:Pos}{f fi fo:ar->Sto->R (Val×Sto)}
open Classical in
noncomputable def forT(i k:Nat)(xs:List Val)(g:ar->Sto->R OutS):List Val->ar->Sto->R OutS
 | [],δ,μ=>if μ[k]?=some (.lst xs) then R.ret (.nx δ μ) else none
 | v::vs,δ,μ=>if μ[k]?=some (.lst xs) then (g (δ.set i (some v)) μ).thn λo=>match o with
   | .nx δ' μ'=>forT i k xs g vs δ' μ'
   | .ct δ' μ'=>forT i k xs g vs δ' μ'
   | .bk δ' μ'=>R.ret (.nx δ' μ')
   | .rt v μ'=>R.ret (.rt v μ') else none
noncomputable def qx(h:D->D->Option D)(fo fi:ar->Sto->R (Val×Sto)):ar->Sto->R (Val×Sto):=λδ μ=>(fo δ μ).thn λp=>(fi δ p.2).thn λq=>match lv2 0 q.2 p.1,lv2 0 q.2 q.1 with
 | some x,some y=>match h x y with
  | some d=>if e7 d=true then R.ret (.d d,q.2) else none
  | none=>none
 | _,_=>none
theorem tS{op:CmpOp}{h:D->D->Option D}(hh:DOp X (compareOp op) h)(ha:SX X G a fo)(hb:SX X G b fi)(hm:behindInMarks op b=false):SX X G (.Compare a [op] [b] pos) (qx h fo fi):=by
 obtain⟨rr,hr,hh⟩:=hh
 obtain⟨ta,pa,ha⟩:=ha
 obtain⟨tb,pb,hb⟩:=hb
 refine⟨_,vJ hr pa pb hm,λA δ μ O α σ H Q E k=>?_⟩
 refine ha A δ μ O α σ H _ E (aD (aI k) λp z v O1 α1 H1 T1 S1 r1=>?_)
 have E1:=E.go T1 S1
 refine hb A δ p.2 O1 α1 σ H1 _ E1 (aD (bG (aI z) λx μ h=>Er.go T1 h) λq y u O2 α2 H2 T2 S2 r2=>?_)
 have r1':=r1.to (T2.to S1) T2.ex
 have hn:∀(k:Nat) (a:Addr) (xs:List Val),α2[k]?=some (some a)->0<=k->q.2[k]?=some (.lst xs)->a∉A.R0:=λk a xs h1 _ h2=>by
  obtain⟨ob,h3,h4⟩:=S2.at_ k a h1
  rw[h2] at h3
  cases h3
  exact h4.2.1
 split at y
 ·rename_i x' y' e1 e2
  have c1:=kB S2 (To.less S2.sub) hn r1' e1
  have c2:=kB S2 (To.less S2.sub) hn r2 e2
  cases e3:h x' y' with
  | none=>rw[e3] at y;exact y.elim
  | some d =>
   rw[e3] at y
   dsimp only at y
   by_cases hf:e7 d=true
   ·rw[if_pos hf] at y
    exact hh A.R0 H2 x' y' d v u Q (λl hl=>S2.oo l (S2.sub l hl)) c1 c2 e3 λv' H' s r=>y v' O2 α2 H' ((T1.trans T2).trans (Go.same s)) (S2.same s) (.d (r.flat hf))
   ·rw[if_neg hf] at y;exact y.elim
 ·exact y.elim
theorem qX{h:D->D->Option D}{fo fi:ar->Sto->R (Val×Sto)}{δ:ar}{μ μ1 μ2:Sto}{v u:Val}{x y d:D}(h1:fo δ μ=R.ret (v,μ1))(h2:fi δ μ1=R.ret (u,μ2))(e1:lv2 0 μ2 v=some x)(e2:lv2 0 μ2 u=some y)(e3:h x y=some d)(hf:e7 d=true):qx h fo fi δ μ=R.ret (.d d,μ2):=by
 unfold qx
 rw[h1,bf]
 rw[h2,bf]
 simp_all
end
end SL
namespace L2
open PyProof.Rows
section
variable{X:Cx}
end
end L2
namespace DL
open PyProof.Rows L2
section
variable{K:ε}{Hr H0 H H':Hp}{R0 O:List Addr}{P0:Addr->Prop}{σ:St}{δ:DS}
end
section
variable{X:Cx}{G:XD->Hp->Prop}{a b e o:Expr}{es:List Expr}{f:DS->M D}{fa:DS->M (List D)}{pos apos p p1 p2:Pos}
structure DefMX(P:Program)(w:World)(K:ε)(mg:Str->Option Value)(base:Heap)(k:Nat)(nm m:Str)(n:Nat)(F:List D->M D):Prop where
 ex:∃(C f:Addr) (fd:FuncData) (ps:List Str),η K mainGlobals nm=some (some (.ref C))/\Cls K C/\Meth K C m f/\FnOk P w K mg base (CXE P w) k f fd ps (spX K mg n F)/\cY K fd ps []
end
section
variable{P:Program}{w:World}{K:ε}{mg:Str->Option Value}{base:Heap}
theorem fn_ofX{x qual:Str}{st:Stmt}{f:Addr}{fd:FuncData}{N ps:List Str}{k:Nat}{g:DS->M Out}(F0:Fun K x qual st f fd)(S:FnScope N ps (af st))
  (hbody:∀(cdv:Value) (A:Around) (outer:List Env) (s:Shared) (H:Hp) (E:XK),Room k (A.deeper (envOfC qual (af st) s.heap.objs.size f cdv)) ->
   jA (et (CXE P w) P w K mg base N qual (af st) f cdv A outer s H E) (GX mg E) (aB st) g):FnOk P w K mg base (CXE P w) (k+1) f fd ps (spX K mg ps.length (run N.length g)):=by
 obtain⟨oc,od,kV,doc,pm,an,cdv,ct,osl,rfl,lk,hcd⟩:=F0.ex
 refine wc lk hcd S (λvs H Q E h=>?_) λA outer s H vs Q E hr h=>?_
 ·obtain⟨O,ds,hl,_⟩:=h
  exact hl
 ·obtain⟨O,ds,hl,oo,r,q⟩:=h
  obtain⟨t,p,hB⟩:=hbody cdv A outer s H E hr
  refine⟨t,p,hB O (λ_=>False) H (dg N.length ds) O (L2.start N vs) H _ ⟨nR N oo r,λl hl=>.inl hl,λb o _ h=>h,λl hl=>.inl hl,λi es l h1 ho h2=>?_,λl hl=>hl⟩ (aq (ay q) λo z=>?_)⟩
  ·exact(mH h1 ho).elim
  ·cases o with
   | rt d=>exact λv H' kp r=>z v H' (λb o h=>kp b o (λw=>w) h) r
   | nx δ=>exact λO' σ' H' E'=>z .non H' (λb o h=>E'.keep b o (λw=>w) h) .non
   | bk δ=>exact z.elim
   | ct δ=>exact z.elim
end
section
variable{X:Cx}{G:XD->Hp->Prop}{e:Expr}{f:DS->M D}{pos p p2:Pos}
end
end DL
namespace DL
open PyProof.Rows L2
section
variable{X:Cx}
end
end DL
namespace SL
open PyProof.Rows L2 DL
section
variable{X:Cx}{G:XD->Hp->Prop}{pos:Pos}
open Classical in
noncomputable def forTI(k:Nat)(xs:List Val)(t:D->ar->Option ar)(g:ar->Sto->R OutS):List D->ar->Sto->R OutS
 | [],δ,μ=>if μ[k]?=some (.lst xs) then R.ret (.nx δ μ) else none
 | d::ds,δ,μ=>if μ[k]?=some (.lst xs) then (match t d δ with
  | none=>none
  | some δ1=>(g δ1 μ).thn λo=>match o with
   | .nx δ' μ'=>forTI k xs t g ds δ' μ'
   | .ct δ' μ'=>forTI k xs t g ds δ' μ'
   | .bk δ' μ'=>R.ret (.nx δ' μ')
   | .rt v μ'=>R.ret (.rt v μ')) else none
variable{f:ar->Sto->R (Val×Sto)}
end
end SL
namespace DL
open PyProof.Rows L2
section
variable{X:Cx}{G:XD->Hp->Prop}{e:Expr}{f:DS->M D}{pos p2:Pos}{lo hi:Option Expr}{fl fh:DS->M (Option Int)}
end
end DL
namespace SL
open PyProof.Rows L2 DL
noncomputable def fY:List (Option D)->Option (List D)
 | []=>some []
 | some d::r=>(fY r).map (d :: ·)
 | none::_=>none
noncomputable def lvN:Nat->Sto->Val->Option D
 | 0=>λ_ v=>match v with
  | .d x=>some x
  | _=>none
 | f+1=>λμ v=>match v with
  | .d x=>some x
  | .h k=>match μ[k]? with
   | some (.lst xs)=>(fY (xs.map (lvN f μ))).map Y0
   | some (.ins c fs)=>(fY ((fs.map (·.2)).map (lvN f μ))).map λds=>nI c ((fs.map (·.1)).zip ds)
   | some (.dct es)=>(fY ((es.map (·.2)).map (lvN f μ))).map λds=>PyData.dict (((es.map (·.1)).zip ds).map λe=>(zQ e.1,e.2))
   | _=>none
  | .t xs=>(fY (xs.map (lvN f μ))).map V4
theorem oF:∀{l:List (Option D)} {ds:List D},fY l=some ds->ds.length=l.length
 | [],ds,h=>by cases h;rfl
 | none::r,ds,h=>by cases h
 | some d::r,ds,h=>by
  have h:(fY r).map (d :: ·)=some ds:=h
  cases e:fY r with
  | none=>simp_all
  | some q=>rw[e] at h;cases h;rw[ω,ω,oF e]
section
variable{K:ε}{mg:Str->Option Value}{A:An}{R0 O O':List Addr}{α:List (Option Addr)}{H:Hp}{μ:Sto}{σ:L2.St}{δ:ar}
theorem iW{f:Nat}(ih:∀{v:V} {x:Val} {d:D},VR K O α H v x->lvN f μ x=some d->Rep K O' H v d):∀{xs:List Val} {vs:List V} {ds:List D},VRs K O α H vs xs->fY (xs.map (lvN f μ))=some ds->Reps K O' H vs ds
 | [],_,ds,.nil,h=>by cases h;exact .nil
 | x::xs,_,ds,.cons r rs,h=>by
  rw[Z2] at h
  cases e:lvN f μ x with
  | none=>rw[e] at h;cases h
  | some d =>
   rw[e] at h
   have h:(fY (xs.map (lvN f μ))).map (d :: ·)=some ds:=h
   cases e2:fY (xs.map (lvN f μ)) with
   | none=>simp_all
   | some q=>rw[e2] at h;cases h;exact .cons (ih r e) (iW ih rs e2)
theorem vS(S:SR K mg R0 O α H μ)(T:To O O' H H)(hn:∀(k:Nat) (a:Addr),α[k]?=some (some a)->a∉O'):∀(f:Nat) {v:V} {x:Val} {d:D},VR K O α H v x->lvN f μ x=some d->Rep K O' H v d
 | 0,v,x,d,r,h=>by
  cases x with
  | d x=>cases h;exact Rep.to T r.dinv
  | h k=>cases h
  | t xs=>cases h
 | f+1,v,x,d,r,h=>by
  have ih:∀{v:V} {x:Val} {d:D},VR K O α H v x->lvN f μ x=some d->Rep K O' H v d:=λ{v x d}=>vS S T hn f
  cases x with
  | d x=>cases h;exact Rep.to T r.dinv
  | t xs =>
   obtain⟨a,vs,rfl,hs,rs⟩:=r.tinv
   have h:(fY (xs.map (lvN f μ))).map V4=some d:=h
   cases e:fY (xs.map (lvN f μ)) with
   | none=>rw[e] at h;cases h
   | some ds=>rw[e] at h;cases h;exact .tup hs (iW ih rs e)
  | h k =>
   obtain⟨a,ha,rfl⟩:=r.hinv
   obtain⟨ob,g1,g2⟩:=S.at_ k a ha
   have h:(match μ[k]? with
    | some (.lst xs)=>(fY (xs.map (lvN f μ))).map Y0
    | some (.ins c fs)=>(fY ((fs.map (·.2)).map (lvN f μ))).map λds=>nI c ((fs.map (·.1)).zip ds)
    | some (.dct es)=>(fY ((es.map (·.2)).map (lvN f μ))).map λds=>PyData.dict (((es.map (·.1)).zip ds).map λe=>(zQ e.1,e.2))
    | _=>none)=some d:=h
   rw[g1] at h
   cases ob with
   | lst xs =>
    have h:(fY (xs.map (lvN f μ))).map Y0=some d:=h
    obtain⟨_,_,vs,g5,g6⟩:=g2
    cases e:fY (xs.map (lvN f μ)) with
    | none=>rw[e] at h;cases h
    | some ds=>rw[e] at h;cases h;exact .lst (.inl g5) (hn k a ha) (iW ih g6 e)
   | ins c fs =>
    have h:(fY ((fs.map (·.2)).map (lvN f μ))).map (λds=>nI c ((fs.map (·.1)).zip ds))=some d:=h
    obtain⟨_,_,C,dx,vfs,g3,g4,g5,g6⟩:=g2
    cases e:fY ((fs.map (·.2)).map (lvN f μ)) with
    | none=>rw[e] at h;cases h
    | some ds =>
     rw[e] at h
     cases h
     have hl:ds.length=fs.length:=by have:=oF e;rw[ι,ι] at this;exact this
     have e1:((fs.map (·.1)).zip ds).map (·.1)=fs.map (·.1):=List.map_fst_zip (by rw[ι];omega)
     have e2:((fs.map (·.1)).zip ds).map (·.2)=ds:=List.map_snd_zip (by rw[ι];omega)
     exact .ins g3 g4 (hn k a ha) (by rw[e1];exact g5) (by rw[e2];exact iW ih g6 e)
   | dct fs =>
    have h:(fY ((fs.map (·.2)).map (lvN f μ))).map (λds=>PyData.dict (((fs.map (·.1)).zip ds).map λe=>(zQ e.1,e.2)))=some d:=h
    obtain⟨_,_,vfs,g4,g5,g6⟩:=g2
    cases e:fY ((fs.map (·.2)).map (lvN f μ)) with
    | none=>rw[e] at h;cases h
    | some ds =>
     rw[e] at h
     cases h
     have hl:ds.length=fs.length:=by have:=oF e;rw[ι,ι] at this;exact this
     have e1:((fs.map (·.1)).zip ds).map (·.1)=fs.map (·.1):=List.map_fst_zip (by rw[ι];omega)
     have e2:((fs.map (·.1)).zip ds).map (·.2)=ds:=List.map_snd_zip (by rw[ι];omega)
     exact .dct (.inl g4) (hn k a ha) (by rw[e1];exact g5) (by rw[e2];exact iW ih g6 e)
   | gone=>cases h
noncomputable def v1N(f:Nat)(μ:Sto):Option Val->Sl
 | some x=>match lvN f μ x with
  | some d=>.vl d
  | none=>.un
 | none=>.un
noncomputable def viewN(f:Nat)(μ:Sto)(δ:ar):DS:=δ.map (v1N f μ)
theorem o4{f i:Nat}{s:Sl}(h:(viewN f μ δ)[i]?=some s):(∃x d,δ[i]?=some (some x)/\lvN f μ x=some d/\s=.vl d)\/s=.un:=by
 unfold viewN at h
 rw[Φ] at h
 cases e:δ[i]? with
 | none=>simp_all
 | some o =>
  rw[e] at h
  cases o with
  | none=>cases h;exact .inr rfl
  | some x =>
   have h:some (match lvN f μ x with | some d=>Sl.vl d | none=>.un)=some s:=h
   grind
theorem SR.apart(S:SR K mg R0 O α H μ){k:Nat}{a:Addr}(h:α[k]?=some (some a)):a∉R0:=by
 obtain⟨ob,_,g⟩:=S.at_ k a h
 cases ob with
 | lst xs=>exact g.2.1
 | dct es=>exact g.2.1
 | ins c fs=>exact g.2.1
 | gone=>exact g.elim
theorem SEv.viewN{f:Nat}(E:SEv K mg A O α H σ δ μ):Ev K H A.R0 H σ (SL.viewN f μ δ):=by
 have T:To O A.R0 H H:=.less E.sr.sub
 refine⟨aJ.refl H,λl hl=>E.sr.oo l (E.sr.sub l hl),by unfold SL.viewN;rw[ι];exact E.len,λi s h=>?_,λi j l ds es hij h1=>?_⟩
 ·rcases o4 h with ⟨x,d,h1,h2,rfl⟩ | rfl
  ·obtain⟨v,g1,g2⟩:=E.at_ i _ h1
   exact⟨v,g1,vS E.sr T (λk a h=>E.sr.apart h) f g2 h2⟩
  ·trivial
 ·rcases o4 h1 with ⟨x,d,_,_,z⟩ | z<;>cases z
end
section
variable{X:Cx}{G:XD->Hp->Prop}{a b c e o:Expr}{es rest:List Expr}{pos pos':Pos}{st:Stmt}{sts sts':List Stmt}
noncomputable def vD(fn:DS->M (List D)):ar->Sto->R (Val×Sto):=λδ μ=>(ofM (fn (viewN 4 μ δ)) μ).thn λds=>if gq ds=true then R.ret (.h μ.length,μ++[.lst (ds.map Val.d)]) else none
theorem A6{fn:DS->M (List D)}(he:PDN X G e fn):SX X G e (vD fn):=by
 obtain⟨t,p,he⟩:=he
 refine⟨t,p,λA δ μ O α σ H Q E k=>?_⟩
 refine he (viewN 4 μ δ) A.R0 σ H _ E.viewN (aq (ln E.sr (aI k)) λds z l xs H1 s1 hl rx=>?_)
 by_cases hf:gq ds=true
 ·rw[if_pos hf] at z
  have E1:=E.same s1
  exact z _ (l::O) (α++[some l]) _ ((Go.same s1).trans (Go.newL hl)) (E1.sr.newL hl (VRs.data (rx.flat hf))) (.h E.sr.at_new)
 ·rw[if_neg hf] at z;exact z.elim
end
end SL
namespace SL
open PyProof.Rows L2 DL
section
variable{K:ε}{mg:Str->Option Value}{A:An}{R0 O O':List Addr}{α:List (Option Addr)}{H:Hp}{μ:Sto}
theorem VRs.look{f:Str}{x:Val}:∀{vfs:List (Str×V)} {fs:List (Str×Val)},vfs.map (·.1)=fs.map (·.1)->VRs K O α H (vfs.map (·.2)) (fs.map (·.2))->fs.lookup f=some x->∃v,vfs.lookup f=some v/\VR K O α H v x
 | [],[],_,_,h=>by cases h
 | [],_::_,hk,_,_=>by cases hk
 | _::_,[],hk,_,_=>by cases hk
 | (g,v)::vfs,(g2,y)::fs,hk,r,h=>by
  simp only[Z2,List.cons.injEq] at hk
  obtain⟨rfl,hk⟩:=hk
  cases r with
  | cons r rs =>
   cases hb:(f==g) with
   | true =>
    simp_all
   | false =>
    simp only[W3,hb] at h ⊢
    exact VRs.look hk rs h
theorem ls{f:Str}:∀{vfs:List (Str×V)} {fs:List (Str×Val)},vfs.map (·.1)=fs.map (·.1)->fs.lookup f=none->vfs.lookup f=none
 | [],[],_,_=>rfl
 | [],_::_,hk,_=>by cases hk
 | _::_,[],hk,_=>by cases hk
 | (g,v)::vfs,(g2,y)::fs,hk,h=>by
  simp only[Z2,List.cons.injEq] at hk
  obtain⟨rfl,hk⟩:=hk
  cases hb:(f==g) with
  | true=>simp_all
  | false =>
   simp only[W3,hb] at h ⊢
   exact ls hk h
noncomputable def iM(f:Str)(v:Val):List (Str×Val)->List (Str×Val)
 | []=>[(f,v)]
 | (g,x)::r=>if g=f then (g,v)::r else (g,x)::iM f v r
theorem se{f:Str}{v:V}{x:Val}(rv:VR K O α H v x):∀{vfs:List (Str×V)} {fs:List (Str×Val)},vfs.map (·.1)=fs.map (·.1)->VRs K O α H (vfs.map (·.2)) (fs.map (·.2))->(gC f v vfs).map (·.1)=(iM f x fs).map (·.1)/\VRs K O α H ((gC f v vfs).map (·.2)) ((iM f x fs).map (·.2))
 | [],[],_,_=>⟨rfl,.cons rv .nil⟩
 | [],_::_,hk,_=>by cases hk
 | _::_,[],hk,_=>by cases hk
 | (g,v')::vfs,(g2,y)::fs,hk,r=>by
  simp only[Z2,List.cons.injEq] at hk
  obtain⟨rfl,hk⟩:=hk
  cases r with
  | cons r rs =>
   by_cases hg:g=f
   ·rw[gC,iM,if_pos hg,if_pos hg]
    exact⟨by simp [hk],.cons rv rs⟩
   ·rw[gC,iM,if_neg hg,if_neg hg]
    obtain⟨i1,i2⟩:=se rv hk rs
    exact⟨by simp [i1],.cons r i2⟩
theorem zP{vfs:List (Str×V)}{fs:List (Str×Val)}(h:vfs.map (·.1)=fs.map (·.1)):vfs.length=fs.length:=by
 have:=congrArg List.length h
 grind
theorem To.setI{l C dx:Addr}{fs ys:List (Str×V)}(hl:H l=some (.ins C dx fs))(ho:l∈O):To O O H (upd H l (.ins C dx ys)):=by
 have keep:∀{b:Addr} {o:HO},b≠l->Rd H b o->Rd (upd H l (.ins C dx ys)) b o:=λ{b o} hb h=>by
  rcases h with h | ⟨u,h⟩
  ·exact .inl (by rw[upd_ne hb];exact h)
  ·exact .inr ⟨u,by rw[upd_ne hb];exact h⟩
 refine⟨λb zs h=>keep ?_ h,λb zs n h=>⟨n,keep (λz=>n (z▸ho)) h⟩,λb zs n h=>⟨n,keep (λz=>n (z▸ho)) h⟩,λb C dx fs n h=>⟨n,by rw[upd_ne (show b≠l from λz=>n (z▸ho))];exact h⟩⟩
 rintro rfl
 rcases h with h | ⟨u,h⟩
 all_goals simp_all
theorem SR.setI(S:SR K mg R0 O α H μ){k:Nat}{a C dx:Addr}{c:Str}{fs fs':List (Str×Val)}{vfs vfs':List (Str×V)}(h:α[k]?=some (some a))(hk:μ[k]?=some (.ins c fs))(hH:H a=some (.ins C dx vfs))(hk':vfs'.map (·.1)=fs'.map (·.1))(r:VRs K O α H (vfs'.map (·.2)) (fs'.map (·.2))):SR K mg R0 O α (upd H a (.ins C dx vfs')) (μ.set k (.ins c fs')):=by
 obtain⟨ob,h1,h2⟩:=S.at_ k a h
 rw[hk] at h1
 cases h1
 obtain⟨ho,hn,C',dx',w,hN,hv,_⟩:=h2
 rw[hH] at hv
 cases hv
 have T:To O O H (upd H a (.ins C dx vfs')):=To.setI hH ho
 refine⟨by rw[Y3];exact S.len,S.nd,λl hl=>?_,S.sub,λj b hj=>?_⟩
 ·by_cases e:l=a
  ·subst e;exact .inr (.inr ⟨C,dx,vfs',aA⟩)
  ·exact(S.oo l hl).upd_ne e
 ·by_cases e:j=k
  ·subst e
   rw[h] at hj
   cases hj
   exact⟨.ins c fs',by grind,ho,hn,C,dx,vfs',hN,aA,hk',r.to T λ_ _ h=>h⟩
  ·obtain⟨ob,g1,g2⟩:=S.at_ j b hj
   have hb:b≠a:=λz=>e (S.nd j k a (z▸hj) h)
   exact⟨ob,by grind,g2.to T (λ_ _ h=>h) (λz=>z) (upd_ne hb)⟩
theorem SR.newI(S:SR K mg R0 O α H μ){l C dx:Addr}{c:Str}(hN:η K mainGlobals c=some (some (.ref C)))(hl:H l=none):SR K mg R0 (l::O) (α++[some l]) (upd H l (.ins C dx [])) (μ++[.ins c []]):=by
 have T:To O (l::O) H (upd H l (.ins C dx [])):=To.own hl
 have e:∀(k:Nat) (a:Addr),α[k]?=some (some a)->(α++[some l])[k]?=some (some a):=λk a h=>by
  grind
 have cs:∀(k:Nat) (a:Addr),(α++[some l])[k]?=some (some a)->α[k]?=some (some a)\/(k=α.length/\a=l):=λk a h=>by
  grind
 have ne:∀(k:Nat) (a:Addr),α[k]?=some (some a)->a≠l:=λk a h z=>by
  obtain⟨o,h3,_⟩:=S.tracked h
  simp_all
 refine⟨by rw[ζ,ζ,S.len];rfl,λi j a h1 h2=>?_,λb hb=>?_,λb hb=>ρ _ (S.sub b hb),λk a h=>?_⟩
 ·rcases cs i a h1 with h1 | ⟨h1,z⟩<;>rcases cs j a h2 with h2 | ⟨h2,z2⟩
  ·exact S.nd i j a h1 h2
  all_goals grind
 ·rcases Δ.mp hb with rfl | hb
  ·exact .inr (.inr ⟨C,dx,[],aA⟩)
  ·exact(S.oo b hb).new hl
 ·rcases cs k a h with h | ⟨rfl,rfl⟩
  ·obtain⟨ob,h1,h2⟩:=S.at_ k a h
   exact⟨ob,by grind,h2.to T e (λz=>ρ _ z) (upd_ne (ne k a h))⟩
  ·refine⟨.ins c [],by rw[S.len,Z8 (ο _),Nat.sub_self];rfl,υ,λz=>?_,C,dx,[],hN,aA,rfl,.nil⟩
   obtain⟨o,ho⟩:=(S.oo a (S.sub a z)).some
   simp_all
end
section
variable{X:Cx}{G:XD->Hp->Prop}{o e:Expr}{es:List Expr}{pos pos' apos cpos p:Pos}{fo fe:ar->Sto->R (Val×Sto)}{fa:ar->Sto->R (List Val×Sto)}{C:Addr}{c f:Str}
noncomputable def sAt(c f:Str)(fo:ar->Sto->R (Val×Sto)):ar->Sto->R (Val×Sto):=λδ μ=>(fo δ μ).thn λr=>match r.1 with
 | .h k=>match r.2[k]? with
  | some (.ins c' fs)=>if c'=c then (match fs.lookup f with
   | some v=>R.ret (v,r.2)
   | none=>none) else none
  | _=>none
 | _=>none
theorem pf(ho:SX X G o fo)(hN:η X.K mainGlobals c=some (some (.ref C)))(hc:Cls X.K C)(hn:jc X.K C f)(hb:attributeBase o f X.env (eval o X.env)=eval o X.env:=by rfl):SX X G (.Attribute o f pos) (sAt c f fo):=by
 obtain⟨t,p,ho⟩:=ho
 refine⟨_,pe_fld p hb,λA δ μ O α σ H Q E k=>?_⟩
 refine ho A δ μ O α σ H _ E (aD (aI k) λr z v O1 α1 H1 T1 S1 r1=>?_)
 obtain⟨p1,p2⟩:=r
 match p1,z,r1 with
 | .h k,z,r1 =>
  obtain⟨l,hl,rfl⟩:=r1.hinv
  obtain⟨ob,g1,g2⟩:=S1.at_ k l hl
  dsimp only at z
  rw[g1] at z
  match ob,z,g2 with
  | .ins c' fs,z,g2 =>
   obtain⟨_,_,C',dx,vfs,hN',g4,g5,g6⟩:=g2
   dsimp only at z
   by_cases hcc:c'=c
   ·rw[if_pos hcc] at z
    have zz:=z
    subst hcc
    have hC:C'=C:=by
     simp_all
    subst hC
    cases hlk:fs.lookup f with
    | none=>rw[hlk] at zz;exact zz.elim
    | some x =>
     rw[hlk] at zz
     obtain⟨u,q1,q2⟩:=VRs.look g5 g6 hlk
     exact⟨l,C',dx,vfs,u,rfl,g4,hc,hn,q1,zz u O1 α1 H1 T1 S1 q2⟩
   ·rw[if_neg hcc] at z;exact z.elim
noncomputable def iI(c f:Str)(fo fe:ar->Sto->R (Val×Sto)):SG:=λ_ δ μ=>(fe δ μ).thn λr=>(fo δ r.2).thn λq=>match q.1 with
 | .h k=>match q.2[k]? with
  | some (.ins c' fs)=>if c'=c/\fs.length<1000 then R.ret (.nx δ (q.2.set k (.ins c (iM f r.1 fs)))) else none
  | _=>none
 | _=>none
theorem jZ(ho:SX X G o fo)(he:SX X G e fe)(hN:η X.K mainGlobals c=some (some (.ref C)))(hc:Cls X.K C)(hn:jc X.K C f)(hs:swapsWith e (some (.Attribute o f pos')) pos.line X.env=pure false:=by rfl):SS X G (.Assign [.Attribute o f pos'] e pos) (iI c f fo fe):=by
 obtain⟨t,p,ho⟩:=ho
 obtain⟨u,q,he⟩:=he
 refine⟨_,ps_fld p q hs,λA δ μ O α σ H Dn E k=>?_⟩
 refine he A δ μ O α σ H _ E (aD (bG (aI k) λx μ h=>Er.go E.st h) λr z v O1 α1 H1 T1 S1 r1=>?_)
 have E1:=E.go T1 S1
 refine ho A δ r.2 O1 α1 σ H1 _ E1 (aD (bG (aI z) λx μ h=>Er.go E1.st h) λy w u' O2 α2 H2 T2 S2 r2=>?_)
 obtain⟨y1,y2⟩:=y
 match y1,w,r2 with
 | .h k,w,r2 =>
  obtain⟨l,hl,rfl⟩:=r2.hinv
  obtain⟨ob,g1,g2⟩:=S2.at_ k l hl
  dsimp only at w
  rw[g1] at w
  match ob,w,g2,g1 with
  | .ins c' fs,w,g2,g1 =>
   obtain⟨_,_,C',dx,vfs,hN',g4,g5,g6⟩:=g2
   dsimp only at w
   by_cases hcc:c'=c/\fs.length<1000
   ·rw[if_pos hcc] at w
    have ww:=w
    obtain⟨rfl,hlen⟩:=hcc
    have hC:C'=C:=by
     simp_all
    subst hC
    have rv:= r1.to (Go.to S1 T2) T2.ex
    obtain⟨i1,i2⟩:=se rv g5 g6
    have S3:=S2.setI hl g1 g4 i1 i2
    have T3:Go O2 α2 H2 O2 α2 (upd H2 l (.ins C' dx (gC f v vfs))):=Go.setL hl
    exact⟨l,C',dx,vfs,rfl,g4,hc,hn,by rw[zP g5];omega,ww O2 α2 σ _ ((E1.go T2 S2).go T3 S3) (T1.trans (T2.trans T3))⟩
   ·rw[if_neg hcc] at w;exact w.elim
noncomputable def xa(c m:Str)(F:List Val->Sto->R (Val×Sto))(fo:ar->Sto->R (Val×Sto))(fa:ar->Sto->R (List Val×Sto)):ar->Sto->R (Val×Sto):=λδ μ=>(fo δ μ).thn λr=>match r.1 with
 | .h k=>match r.2[k]? with
  | some (.ins c' fs)=>if c'=c/\fs.lookup m=none then (fa δ r.2).thn λq=>xv (F (.h k::q.1) q.2) else none
  | _=>none
 | _=>none
structure MkS(P:Program)(w:World)(K:ε)(mg:Str->Option Value)(base:Heap)(k:Nat)(c:Str)(n:Nat)(F:List Val->Sto->R (Val×Sto)):Prop where
 ex:∃(C f:Addr) (fd:FuncData) (ps:List Str),η K mainGlobals c=some (some (.ref C))/\mg c=some (.ref C)/\Mk K C f/\FnOk P w K mg base CX0 k f fd ps (spS K mg n F)/\cY K fd ps []
noncomputable def sMk(c:Str)(F:List Val->Sto->R (Val×Sto))(fa:ar->Sto->R (List Val×Sto)):ar->Sto->R (Val×Sto):=λδ μ=>(fa δ μ).thn λr=>(xv (F (.h r.2.length::r.1) (r.2++[.ins c []]))).thn λq=>match q.1 with
 | .d .none=>R.ret (.h r.2.length,q.2)
 | _=>none
end
end SL
namespace L2
open PyProof.Rows PySem.W
section
variable{X:Cx}
end
end L2
namespace SL
open PyProof.Rows L2 DL
section
variable{K:ε}{O:List Addr}{α:List (Option Addr)}{H:Hp}
end
section
variable{X:Cx}{G:XD->Hp->Prop}{a b o e ix tg:Expr}{es:List Expr}{pos pos' apos cpos p tpos:Pos}{fo fi f fe:ar->Sto->R (Val×Sto)}{fa:ar->Sto->R (List Val×Sto)}
end
end SL
namespace L2
open PyProof.Rows PySem.W
section
variable{X:Cx}
end
end L2
namespace DL
open PyProof.Rows L2
section
variable{X:Cx}{G:XD->Hp->Prop}{e o:Expr}{es:List Expr}{f:DS->M D}{fa:DS->M (List D)}{pos pos' p p' apos:Pos}
end
end DL
namespace SL
open PyProof.Rows L2 DL
section
variable{X:Cx}{G:XD->Hp->Prop}{a e tg:Expr}{pos p ipos:Pos}{body:List Stmt}
end
end SL
namespace DL
open PyProof.Rows L2
section
variable{X:Cx}{G:XD->Hp->Prop}{f:DS->M D}{c:DS->M Bool}{fi:DS->M (List D)}{t:D->DS->Option DS}
end
end DL
namespace SL
open PyProof.Rows L2 DL
section
variable{X:Cx}{G:XD->Hp->Prop}
end
end SL
namespace L2
open PyProof.Rows
section
open AutoSeq1 (wpAny_loadPart')
end
section
variable{prog:Program}{w:World}{A:Around}{E:Value->Shared->Prop}{s:Shared}
end
section
variable{X:Cx}{elts:List Expr}{x1:Nat}{tpos:Pos}
end
end L2
namespace DL
open PyProof.Rows L2
section
variable{X:Cx}{G:XD->Hp->Prop}{a e:Expr}{f:DS->M D}{fa:DS->M (List D)}{p pos kp kpos tpos:Pos}{elts:List Expr}{x1:Nat}{K:ε}{O:List Addr}{H1:Hp}
end
end DL
namespace DL
open PyProof.Rows L2
section
variable{X:Cx}{G:XD->Hp->Prop}{a b o ix e:Expr}{f g:DS->M D}{pos pos' np:Pos}{i:Nat}{x:Str}
theorem rE{K:ε}{O:List Addr}{H:Hp}:∀{kvs:List (Key×V)} {es:List (Key×D)} {k:Key},kvs.map (·.1)=es.map (·.1)->iF es k=none->iB kvs k=none
 | [],[],_,_,_=>rfl
 | [],_::_,_,hk,_=>by cases hk
 | _::_,[],_,hk,_=>by cases hk
 | p::kvs,e::es,k,hk,h=>by
  simp only[Z2,List.cons.injEq] at hk
  by_cases c:e.1=k
  ·have:iF (e::es) k=some e.2:=by simp [iF,X7,c]
   simp_all
  ·have:iF (e::es) k=iF es k:=by simp [iF,X7,c]
   rw[this] at h
   rw[gA (by simp_all)]
   exact rE (K:=K) (O:=O) (H:=H) hk.2 h
theorem nA{K:ε}{O:List Addr}{H:Hp}{y:D}{kk:Key}{u:V}(hy:iz y=some kk)(ry:Rep K O H u y):u=kV kk:=by
 rw[xB hy] at ry
 cases kk with
 | inl i=>exact ry.int_inv
 | inr s=>exact ry.str_inv
end
end DL
namespace XF
open PySem.W PySem.Calls PyProof.Rows L2
open PySem.Builtin.ObjectAttr PySem.Builtin
noncomputable def pj:List Value->List Value
 | .ref _::r=>pj r
 | l=>l
theorem j6(self:Value)(what:Str):∀l:List Value,refuseLoop self what l=refuseLoop self what (pj l)
 | []=>rfl
 | .ref c::r=>by
  rw[refuseLoop_ref,j6 self what r]
  rfl
 | .type _::_=>rfl
 | .none::_=>rfl
 | .bool _::_=>rfl
 | .int _ _::_=>rfl
 | .str _ _::_=>rfl
 | .builtin _::_=>rfl
 | .bytes _ _::_=>rfl
 | .float _ _::_=>rfl
 | .ellipsis::_=>rfl
 | .notImplemented::_=>rfl
structure XCls(K:Frag)(C:Addr):Prop where
 ga:findIn K (.ref C) "__getattribute__" = some (some (.builtin "BaseException.__getattribute__"))
 gt:findIn K (.ref C) "__getattr__" = some none
 sa:findIn K (.ref C) "__setattr__" = some (some (.builtin "object.__setattr__"))
 hb:mroIn K C (.type "BaseException")=some true
 ho:mroIn K C (.type "object")=some true
 hd:hasDictIn K C=true
 st:((clsIn K C).any λcd=>pj cd.mro==[.type "ValueError",.type "Exception",.type "BaseException",.type "object"])=true
section
variable{prog:Program}{w:World}{A:Around}{E:Value->Shared->Prop}{K:Frag}{x C:Addr}{ox:Obj}{h:Heap}{g:Array GenState}{d:Drawn}{t:Nat}{os:OsState}{name:Str}{v:Value}
theorem pQ{od:Option Obj}{expr:Bool}{Q:Value->Shared->Prop}(c:XCls K C)(X:K.In h)(I:InstAt h x ox C od)(hf:findObj K C od name=some (.value v))(hv:handedIn v=true)
  (hq:Q v ⟨h,g,d,t+1,os⟩):wpAny (model prog w) A (getAttr (.ref x) name expr) Q E ⟨h,g,d,t,os⟩:=by
 have p:oH x C h:=⟨ox,I.at_,I.cls⟩
 have L0:=gK (M:=model prog w) p
 have L1:=looks_findIn (M:=model prog w) X c.ga
 have L2:=looks_findIn (M:=model prog w) X c.gt
 have L3:=looks_find (M:=model prog w) X I hf
 have f3:bindSpecial (.builtin "BaseException.__getattribute__") (.ref x)=pure (.builtin "BaseException.__getattribute__",[.ref x]):=F.excAttr_ValueError.ga.bind (.ref x)
 have hx0:(expr&&onTheHeap (Value.builtin "BaseException.__getattribute__"))=false:=by cases expr<;>rfl
 have hx2:(Value.builtin "BaseException.__getattribute__" == Value.builtin "object.__getattribute__")=false:=by decide +kernel
 have hx1:(onTheHeap (Value.ref C)&&Value.builtin "BaseException.__getattribute__" == Value.builtin "object.__getattribute__")=false:=by rw[hx2];rfl
 unfold getAttr getAttrBy
 repeat (any_goals (first | with_reducible refine Looks.at (by assumption) ?_ | assumption | wp_step))
 refine codeAny_call_builtin F.excAttr_ValueError.ga.plain F.entry_bexc_ga (kL X p c.hb ?_)
 unfold Builtin.«object.__getattribute__»
 repeat (any_goals (first | with_reducible refine Looks.at (by assumption) ?_ | assumption | wp_step))
 show wpAny _ _ (handedOut v) _ _ _
 rw[handedOut_of hv]
 exact wpAny_pure hq
theorem pk{dt:Data}{sl:Array (Option Value)}{Q:Unit->Shared->Prop}(c:XCls K C)(X:K.In h)(hx:h.get? x=some ⟨.ref C,none,dt,sl⟩)(hdt:∀cd,dt≠.cls cd)(hfr:(⟨.ref C,some h.objs.size,dt,sl⟩:Obj).isFreed=false)
  (hn:findIn K (.ref C) name=some none)
  (hq:∀h',h'.get? x=some ⟨.ref C,some h.objs.size,dt,sl⟩->h'.Ns1 h.objs.size (λy=>if y=name then some v else none)->(∀b o,b≠x->h.get? b=some o->h'.get? b=some o)->∀t',Q () ⟨h',g,d,t',os⟩) :
  wpAny (model prog w) A (setAttr (.ref x) name v) Q E ⟨h,g,d,t,os⟩:=by
 have I:InstAt h x ⟨.ref C,none,dt,sl⟩ C none:=⟨hx,rfl,by unfold notCls;cases dt<;>first | rfl | exact absurd rfl (hdt _),trivial⟩
 refine set_plain (s:=⟨h,g,d,t,os⟩) X I c.sa ?_
 have SF:=PySem.F.store_object
 have SV:=PySem.F.store_ValueError
 have sub:Looks (model prog w) h (isInstance (.ref x) (.type "object")) true:=I.type.andThen (looks_mroIn X c.ho)
 refine codeAny_call_builtin SF.slot.plain SF.entry (@check_slot (model prog w) _ _ ⟨h,g,d,t+1,os⟩ "object.__setattr__" "object" "__setattr__" (.ref x) [.str name t,v] [] _ SF.kind SF.split sub (SF.args (.ref x) (.str name t) v) ?_)
 obtain⟨cd,hc,hs⟩:=any_some c.st
 have hm:Looks (model prog w) h (mroOf (.ref C)) cd.mro:=(looks_clsIn X hc).andThen .now
 have L3:Looks (model prog w) h (storeTaker? none) none:=.now
 rw[osa_eq,refuse_eq]
 refine wpAny_bind (wpAny_bind (I.type.here (s:=⟨h,g,d,t+1,os⟩) (wpAny_bind (hm.here (s:=⟨h,g,d,t+1,os⟩) ?_))))
 rw[j6,beq_iff_eq.mp hs,SV.passes]
 refine wpAny_pure (wpAny_bind (I.type.here (s:=⟨h,g,d,t+1,os⟩) (wpAny_bind ((looks_findIn X hn).here (s:=⟨h,g,d,t+1,os⟩) (wpAny_bind (L3.here (s:=⟨h,g,d,t+1,os⟩) ?_))))))
 obtain⟨cd',hc',hd'⟩:=any_some c.hd
 have hx1:(h.push { cls:=.type "dict",data:=.dict #[] }).get? x=some ⟨.ref C,none,dt,sl⟩:=Heap.get?_push_of_some _ hx
 have hxs:x≠h.objs.size:=Z9 (Heap.lt_size hx)
 have hgd:((h.push { cls:=.type "dict",data:=.dict #[] }).update x λo=>{ cls:=o.cls,dict:=some h.objs.size,data:=o.data,slots:=o.slots }).get? h.objs.size=some { cls:=.type "dict",data:=.dict #[] } :=
  (Heap.get?_update_ne _ _ _ _ hxs.symm).trans (Heap.get?_push_at rfl rfl)
 have hnd:((h.push { cls:=.type "dict",data:=.dict #[] }).update x λo=>{ cls:=o.cls,dict:=some h.objs.size,data:=o.data,slots:=o.slots }).Ns h.objs.size (λ_=>none) :=
  ⟨_,#[],_,hgd,rfl,λe he=>absurd he (by simp),λ_=>rfl⟩
 show wpAny _ _ (storeInOwnDict (.ref x) (.ref C) (.str name t) name v false) _ _ _
 unfold storeInOwnDict
 refine wpAny_bind (wpAny_pure (wpAny_bind (wpAny_bind (wpAny_loadPart (s:=⟨h,g,d,t+1,os⟩) hx (wpAny_bind ((looks_clsIn X hc').here (s:=⟨h,g,d,t+1,os⟩) ?_))))))
 rw[hd']
 have fin:wpAny (model prog w) A.in1 (storeInDict h.objs.size (.str name t) name v) (λfin s'=>match fin with | .done f=>(match (.ok f:Result) with | .ok (.ret _)=>Q () s' | .ok _=>False | .error e=>E e s') | .again c'=>c'.quiet=true/\codeAny (model prog w) A c' (λr s'=>match r with | .ok (.ret _)=>Q () s' | .ok _=>False | .error e=>E e s') s') (λe s'=>E e s')
   ⟨(h.push { cls:=.type "dict",data:=.dict #[] }).update x λo=>{ cls:=o.cls,dict:=some h.objs.size,data:=o.data,slots:=o.slots },g,d,t+1,os⟩:=by
  unfold storeInDict newKeyGuard
  refine wpAny_bind (wpAny_pure (wpAny_bind (wpAny_nsSet1 (Heap.Ns1.of_empty hnd) λh' hn' hs'=>?_)))
  obtain⟨oD,esD,epD,hoD,hdD,hcD⟩:=hn'.count (Within.cons name v Within.nil)
  refine wpAny_bind (wpAny_lookBehind hoD (by rw[hdD];exact pastItsLine_dict (Y9 hcD (by rw[ω,Y6,sizeLine_eq];omega))) ?_)
  wp_walk
  refine hq h' ?_ hn' (λb o n q=>?_) _
  ·exact(hs'.2 x hxs).trans (Heap.get?_update_self _ hx1 hfr)
  ·exact(hs'.2 b (Z9 (Heap.lt_size q))).trans ((Heap.get?_update_ne _ _ _ _ n).trans (Heap.get?_push_of_some _ q))
 have hnc:typeHasDict (.ref C)=true:=rfl
 cases dt with
 | cls cd=>exact absurd rfl (hdt cd)
 | _ =>
  show wpAny _ _ (if (!true||!typeHasDict (.ref C))=true then _ else _) _ _ _
  rw[if_neg (by rw[hnc];decide)]
  exact wpAny_bind (wpAny_alloc' (wpAny_bind (wpAny_update' hx1 (wpAny_pure fin))))
end
noncomputable def ef(K:Frag)(C:Addr)(bmB:List Value)(newId:String):Bool:=match K.lookup C with
 | some ⟨.type "type",_,.cls cd,sl⟩=>(match cd.mro,sl.toList with
  | .ref C'::bm,[_,_,_,_,some (.builtin n),_]=>C'==C&&n==newId&&!cd.hasDel&&tailIn K bmB bm
  | _,_=>false)
 | _=>false
theorem fN{K:Frag}{h:Heap}{C:Addr}{bmB:List Value}{newId:String}(X:K.In h)(q:ef K C bmB newId=true) :
  ∃bm N nm qn bs hdct sn sub ab col dd k0 k1 k2 k3 k5,h.get? C=some (excClassObj nm qn C N bs bm hdct sn sub ab col dd k0 k1 k2 k3 k5 newId)/\OwnTail h bmB bm:=by
 unfold ef at q
 split at q
 ·rename_i dd cd sl ho
  split at q
  ·rename_i C' bm k0 k1 k2 k3 n k5 hm hs
   simp only[Ξ,beq_iff_eq,Bool.not_eq_true'] at q
   obtain⟨⟨⟨rfl,rfl⟩,hdel⟩,ht⟩:=q
   obtain⟨nm,bs,mro,ns,qn,hd,sn,sub,ab,col,del⟩:=cd
   dsimp only at hm hdel
   subst hm hdel
   have hsl:sl=#[k0,k1,k2,k3,some (.builtin n),k5]:=by
    cases sl
    simp only at hs
    rw[hs]
   subst hsl
   exact⟨bm,ns,nm,qn,bs,hd,sn,sub,ab,col,dd,k0,k1,k2,k3,k5,X _ _ ho,tail_of_in X ht⟩
  ·cases q
 ·cases q
section
variable{prog:Program}{w:World}{A:Around}{E:Value->Shared->Prop}{K:Frag}{h:Heap}{g:Array GenState}{d:Drawn}{t:Nat}{os:OsState}
variable{nm q:Str}{C N:Addr}{bs bm bmB:List Value}{hdct:Bool}{sn:List Str}{sub:List Value}{ab:Bool}{col:Option Bool}{dd:Option Addr}{k0 k1 k2 k3 k5:Option Value}{B newId initId:String}
theorem mD(F:ExcBaseFacts B newId initId bmB)(T:OwnTail h bmB bm)(X:K.In h){rest:List Value}{fI:Addr}{Q:Fin->Shared->Prop}
  (hC:h.get? C=some (excClassObj nm q C N bs bm hdct sn sub ab col dd k0 k1 k2 k3 k5 newId)) (hi:findIn K (.ref C) "__init__" = some (some (.ref fI))) (hf:typeIn K (.ref fI)=some (.type "function")) (hrest:rest.length<=sizeLine)
  (hq:∀h' e,Heap.MadeExcOf h h' e (.ref C) rest->h.objs.size<=e ->
   wpAny (model prog w) A (call (.ref fI) (.ref e::rest)) (λr s'=>r=.none/\Q (.done (.ret (.ref e))) s') E ⟨h',g,d,t,os⟩) :
  wpAny (model prog w) A (Builtin.«type.__call__» ⟨.ref C::rest,[]⟩) Q E ⟨h,g,d,t,os⟩:=by
 repeat (first | with_reducible refine wpAny_loadPart_at hC ?_ | with_reducible refine wpAny_madeBy_exc hC ?_ | wp_step)
 refine codeAny_call_builtin_code (Code.quiet_builtin _ F.quiet) (wpAny_check_new_subT F T hC ?_)
 refine codeAny_exc_new_subT F T hC ?_ hrest
 show wpAny _ _ _ _ _ _
 have kp:∀b o,h.get? b=some o->((h.push { cls:=.type "tuple",data:=.seq rest.toArray }).push { cls:=.ref C,data:=.fields #[.ref h.objs.size,.none,.none,.none,.bool false,.none] }).get? b=some o :=
  λb o e=>Heap.get?_push_of_some _ (Heap.get?_push_of_some _ e)
 have hC₁:=kp _ _ hC
 have hget:((h.push { cls:=.type "tuple",data:=.seq rest.toArray }).push
   { cls:=.ref C,data:=.fields #[.ref h.objs.size,.none,.none,.none,.bool false,.none] }).get? (h.objs.size+1)=some
   { cls:=.ref C,data:=.fields #[.ref h.objs.size,.none,.none,.none,.bool false,.none] }:=by heap_get
 have hcC:(Value.ref C::bm).contains (.ref C)=true:=by simp
 unfold isInstance
 repeat (first | with_reducible refine wpAny_loadPart_at hget ?_ | (with_reducible refine wpAny_isSubtype_exc hC₁ ?_;rw[hcC]) | wp_step)
 show wpAny _ _ (typeLookup (.ref C) _) _ _ _
 refine looks_findIn X hi _ _ _ _ kp ?_
 refine wpAny_holding (wpAny_bind (PySem.W.bind_fn X _ hf _ _ _ _ kp ?_))
 refine wpAny_bind (wpAny_mono (hq _ (h.objs.size+1) ⟨kp,Heap.get?_none_of_le (Nat.le_succ _),h.objs.size,hget,Heap.get?_none_of_le (ο _),?_⟩ (Nat.le_succ _)) (λr s' hr=>?_) λ_ _ x=>x)
 ·exact Heap.get?_push_of_some _ (Heap.get?_push_at rfl rfl)
 ·obtain⟨rfl,hQ⟩:=hr
  wp_walk
  exact hQ
theorem p8(F:ExcBaseFacts B newId initId bmB)(T:OwnTail h bmB bm)(X:K.In h){rest:List Value}{fI:Addr}{Q:Value->Shared->Prop}
  (hC:h.get? C=some (excClassObj nm q C N bs bm hdct sn sub ab col dd k0 k1 k2 k3 k5 newId)) (hi:findIn K (.ref C) "__init__" = some (some (.ref fI))) (hf:typeIn K (.ref fI)=some (.type "function")) (hrest:rest.length<=sizeLine)
  (hq:∀h' e,Heap.MadeExcOf h h' e (.ref C) rest->h.objs.size<=e ->
   wpAny (model prog w) (A.under (.builtin "type.__call__" ⟨.ref C::rest,[]⟩)) (call (.ref fI) (.ref e::rest)) (λr s'=>r=.none/\Q (.ref e) s') E ⟨h',g,d,t,os⟩) :
  wpAny (model prog w) A (call (.ref C) rest) Q E ⟨h,g,d,t,os⟩:=by
 have f1:=tc_lookup
 have f2:=tc_bind (.ref C)
 have hT:(⟨h,g,d,t,os⟩:Shared).TypeIs (.ref C) "type" := ⟨_,hC,rfl⟩
 refine wpAny_call (codeAny_of_tree ?_)
 show wpAny _ _ (callAny (.ref C) _) _ _ _
 repeat (any_goals (first | assumption | with_reducible refine wpAny_loadPart_at hC ?_ | wp_step))
 refine⟨rfl,?_⟩
 exact codeAny_call_builtin_at (Code.quiet_builtin _ (by decide +kernel)) entry_typeCall (wpAny_check_type_call_sub hC (mD F T X hC hi hf hrest hq))
end
end XF
namespace XF
open PySem.W PySem.Calls PyProof.Rows L2
def ExO(C e:Addr)(dd:Option Addr):Heap->Prop:=λh=>∃t,h.get? e=some ⟨.ref C,dd,.fields #[.ref t,.none,.none,.none,.bool false,.none],#[]⟩
theorem ExO.stays{C e:Addr}{dd:Option Addr}(h1 h2:Heap)(p:ExO C e dd h1)(k:∀o,h1.get? e=some o->h2.get? e=some o):ExO C e dd h2:=by
 obtain⟨t,q⟩:=p
 exact⟨t,k _ q⟩
theorem qU{P:Program}{w:World}{H:Hp}{h:Heap}{C e:Addr}{dd:Option Addr}(p:ExO C e dd h):cy P w H h e (.ext (ExO C e dd)):=by
 obtain⟨t,q⟩:=id p
 exact⟨p,⟨_,q⟩,ExO.stays⟩
theorem upd_id{H:Hp}{a:Addr}{o:HO}(h:H a=some o):upd H a o=H:=by
 funext b
 unfold upd
 split
 ·rename_i e;rw[e,h]
 ·rfl
abbrev VE:List Value:=[.type "ValueError",.type "Exception",.type "BaseException",.type "object"]
section
variable{X:Cx}{C:Addr}
theorem vf(hK:ef X.K C VE "ValueError.__new__" = true):eF X (.builtin "ValueError.__init__") (λxs H Q=>∃e x,xs=[.ref e,x]/\H e=some (.ext (ExO C e none))/\Q .non H):=by
 intro pins s σ H xs us Q I r h
 obtain⟨e,x,rfl,he,q⟩:=h
 obtain⟨u,u',rfl,ru,rx⟩:=vp r
 obtain rfl:u=Value.ref e:=ru
 obtain⟨⟨t0,hget⟩,_,_⟩:=(show cy X.prog X.w H s.heap e (.ext (ExO C e none)) from I.hok e _ he)
 have F:=PySem.F.excBase_ValueError
 obtain⟨bm,N,nm,qn,bs,hdct,sn,sub,ab,col,dd,k0,k1,k2,k3,k5,hC,T⟩:=fN I.kIn hK
 have fin:∀{h':Heap} {t1:Addr} {tk:Nat},h'.get? e=some ⟨.ref C,none,.fields #[.ref t1,.none,.none,.none,.bool false,.none],#[]⟩->(∀b o,b≠e->s.heap.get? b=some o->h'.get? b=some o)->EP X pins σ Q .none { s with heap:=h',toks:=tk }:=λ{h' t1 tk} z k=>by
  have J:=I.write (x:=e) (e:=e) (o:=.ext (ExO C e none)) (h':=h') (t':=tk) (by rw[he];exact True.intro) (.inl rfl) k ⟨_,z⟩ (qU ⟨t1,z⟩)
  rw[upd_id he] at J
  exact⟨.non,H,J,rfl,q⟩
 obtain⟨hp,g,d,t,os⟩:=s
 refine wpAny_call (codeAny_call_builtin F.init.plain F.initEntry (wpAny_check_init_subT F T hC hget rfl ?_))
 wp_walk
 refine fin (t1:=hp.objs.size) ?_ ?_
 ·rw[Heap.get?_update_self _ (Heap.get?_push_of_some _ hget) rfl]
  rfl
 ·intro b o n q
  rw[Heap.get?_update_other _ _ (Ne.symm n)]
  exact Heap.get?_push_of_some _ q
structure BInit(K:Frag)(CB:Addr):Prop where
 rd:readsIn K CB (.type "type")=true
 sp:specialIn K (.ref CB) "__getattribute__" = some (some (.builtin "type.__getattribute__"))
 fd:findCls K (.ref CB) (.type "type") "__init__" = some (.val (.builtin "ValueError.__init__"))
noncomputable def tBI(C:Addr)(t:TA):TE:=λσ H Q=>t σ H λvs H1=>∃e x,vs=[.ref e,x]/\H1 e=some (.ext (ExO C e none))/\Q .non H1
theorem sj{CB:Addr}{x:Str}{np apos pos:Pos}{e1:Expr}{es:List Expr}{t:TA}{pl:Sem Bool}(hK:ef X.K C VE "ValueError.__new__" = true)(b:BInit X.K CB)(hg:Gl X x)(hm:X.mg x=some (.ref CB))(ha:PA X (e1::es) t)
  (hdb:(x==("__debug__" : Str))=false:=by decide) (hst:starEach (e1::es) X.env=(false,eval e1 X.env)::starEach es X.env:=by rfl) (hpl:(backTo pos (starEach es X.env)).any (·.1)=false:=by rfl)
  (ht:eval (.Call (.Attribute (.Name x np) "__init__" apos) (e1::es) [] pos) X.env=(do
   let ov <- eval (.Name x np) X.env
   standAt apos.atName
   let (f,first) <- holding [ov] (getMethod ov "__init__" pl)
   callWith pos f first (backTo pos (starEach (e1::es) X.env)) (backToKw pos (keywordEach [] X.env))):=by rfl) :
  PE X (.Call (.Attribute (.Name x np) "__init__" apos) (e1::es) [] pos) (tBI C t):=by
 intro pins s σ H Q I h
 refine PySem.W.methodCall_KW (pl:=pl) (d9 I hg hm ?_ hdb) ht
 refine method_cls I.kIn b.sp (cls_value I.kIn b.rd b.fd rfl ?_)
 exact PyProof.Rows.callWith_builtin1 (thn (ha pos pins _ σ H _ (I.tok _) h) λus s1 ⟨vs,H1,I1,r1,q1⟩=>vf hK pins s1 σ H1 vs us Q I1 r1 q1) hst hpl
noncomputable def sXF(C:Addr)(ta tv:TE)(f:Str):TS:=λD σ H=>tv σ H λy H1=>ta σ H1 λx H2=>∃e,x=.ref e/\H2 e=some (.ext (ExO C e none))/\∀d,H2 d=none->d≠e->D.nx σ (upd (upd H2 d (.xd [(f,y)])) e (.ext (ExO C e (some d))))
theorem ps_xf{o value:Expr}{f:Str}{ta tv:TE}{pos pos':Pos}(c:XCls X.K C)(n:findIn X.K (.ref C) f=some none)(ha:PE X o ta)(hv:PE X value tv)(hs:swapsWith value (some (.Attribute o f pos')) pos.line X.env=pure false:=by rfl) :
  PS X (.Assign [.Attribute o f pos'] value pos) (sXF C ta tv f):=by
 intro pins s σ H D I h
 refine plainObj_wpAny_Assign_Attribute (thn (hv pins s σ H _ I h) λu s1 ⟨y,H1,I1,ry,q⟩=>thn (ha pins s1 σ H1 _ I1 q) λov s2 ⟨x,H2,I2,rx,e,ex,he,q2⟩=>?_) hs
 subst ex
 obtain rfl:ov=Value.ref e:=rx
 obtain⟨⟨t0,hget⟩,_,_⟩:=(show cy X.prog X.w H2 s2.heap e (.ext (ExO C e none)) from I2.hok e _ he)
 have fin:∀h',h'.get? e=some ⟨.ref C,some s2.heap.objs.size,.fields #[.ref t0,.none,.none,.none,.bool false,.none],#[]⟩->h'.Ns1 s2.heap.objs.size (λy=>if y=f then some u else none)->(∀b o,b≠e->s2.heap.get? b=some o->h'.get? b=some o)->∀t',SP X pins D .next { s2 with heap:=h',toks:=t' }:=λh' z n1 k t'=>by
  have hn:H2 s2.heap.objs.size=none:=I2.hok.fresh (ο _)
  have ne:s2.heap.objs.size≠e:=Nat.ne_of_gt (Heap.lt_size hget)
  have hok:HOk X.prog X.w (upd (upd H2 s2.heap.objs.size (.xd [(f,y)])) e (.ext (ExO C e (some s2.heap.objs.size)))) h':=λb o q=>by
   by_cases hb:b=e
   ·subst hb
    rw[aA] at q;cases q
    exact qU ⟨t0,z⟩
   ·rw[upd_ne hb] at q
    by_cases hb2:b=s2.heap.objs.size
    ·subst hb2
     rw[aA] at q;cases q
     refine⟨_,n1,λg=>?_⟩
     by_cases hg:g=f
     ·subst hg
      rw[if_pos rfl]
      have:W3 g [(g,y)]=some y:=by simp [W3]
      rw[this];exact ry
     ·have hb':(g==f)=false:=beq_eq_false_iff_ne.mpr hg
      simp only[W3,hb',if_neg hg]
      exact True.intro
    ·rw[upd_ne hb2] at q
     have e1:∀{c:Addr} {v:HO},H2 c=some v->(∀φ,v≠.ext φ)->upd (upd H2 s2.heap.objs.size (.xd [(f,y)])) e (.ext (ExO C e (some s2.heap.objs.size))) c=some v:=λ{c v} z1 nv=>by
      have n1:c≠e:=λz2=>by rw[z2,he] at z1;cases z1;exact nv _ rfl
      rw[upd_ne n1,upd_ne (aU z1 hn)];exact z1
     refine(I2.hok b o q).stay (λc v hc r=>k c v (λz2=>?_) r) (λc r=>e1 r λφ z=>nomatch z) λc xs r=>e1 r λφ z=>nomatch z
     rcases hc with rfl | hc
     ·exact hb z2
     ·rw[z2,he] at hc;cases hc
  have un:Un (frs X.stack) [] H2 (upd (upd H2 s2.heap.objs.size (.xd [(f,y)])) e (.ext (ExO C e (some s2.heap.objs.size)))) s2.heap h':=by
   have nx:∀{b:Addr} {v:HO},H2 b=some v->(∀φ,v≠.ext φ)->upd (upd H2 s2.heap.objs.size (.xd [(f,y)])) e (.ext (ExO C e (some s2.heap.objs.size))) b=some v:=λ{c v} z1 nv=>by
    have n1:c≠e:=λz2=>by rw[z2,he] at z1;cases z1;exact nv _ rfl
    rw[upd_ne n1,upd_ne (aU z1 hn)];exact z1
   refine⟨λb o q m _ _=>k b o (λz2=>by rw[z2,he] at m;cases m) q,λb o q m _ _=>⟨o.slots,k b o (λz2=>by rw[z2,he] at m;cases m) q⟩,λb o q m _=>?_,λb o q _=>?_,λb xs q=>nx q λφ z=>(nomatch z),λb o u q=>nx q λφ z=>(nomatch z),λb ps q=>⟨#[],by rw[Array.append_empty];exact nx q λφ z=>(nomatch z)⟩⟩
   ·rw[upd_ne (λz2=>by rw[z2,he] at m;cases m),upd_ne (λz2=>by subst z2;exact absurd (Heap.lt_size q) (V2 _))]
    exact m
   ·by_cases hb:b=e
    ·exact⟨_,hb▸z⟩
    ·exact⟨o,k b o hb q⟩
  exact⟨σ,_,I2.call' (s':={ s2 with heap:=h',toks:=t' }) (ch:=[]) rfl un hok I2.bare (λb z=>nomatch z),q2 _ hn ne⟩
 obtain⟨hp,g,d,t,os⟩:=s2
 exact pk c I2.kIn hget (λcd z=>nomatch z) rfl n λh' z n1 k t'=>fin h' z n1 k t'
end
end XF
namespace XF
open PySem.W PySem.Calls PyProof.Rows L2
def XI(i:Int):Prop:=i.natAbs.log2<1920/\(Str.ofString (toString i)).length<=1000
def AX(te:TE):Prop:=∀(σ:L2.St) (H:Hp) (Q:L2.VK) (i:Int),σ[1]?=some (some (.int i))->XI i->(∀x,Q (.str x) H)->te σ H Q
theorem pZ:Str.empty.length=0:=rfl
theorem txt3{a b:Str}(ha:a.length<=1000)(hb:b.length<=1000):AX (rH [tC (.str a),tFV (jG 1),tC (.str b)] Str.empty):=by
 intro σ H Q i hi x q
 have hl:sizeLine=16777216:=sizeLine_eq
 refine⟨a,rfl,by rw[Str.length_append,pZ];omega,.int i,hi,.inr ⟨i,rfl,x.1,_,rfl,?_,b,rfl,?_,?_,q _⟩⟩
 all_goals
  have:=x.2
  simp only[Str.length_append,pZ]
  omega
noncomputable def mI(C:Addr)(fl:Str):Sp:=λvs H Q _=>∃e i,vs=[.ref e,.int i]/\XI i/\H e=some (.ext (ExO C e none))/\∀d,H d=none->d≠e->Q .non (upd (upd H d (.xd [(fl,.int i)])) e (.ext (ExO C e (some d))))
section
variable{P:Program}{w:World}{K:ε}{mg:Str->Option Value}{base:Heap}
theorem zY{x qual fl:Str}{st:Stmt}{f C:Addr}{fd:FuncData}{N:List Str}{k:Nat}{te:TE}(F0:Fun K x qual st f fd)(S:FnScope N N (af st))(hN:N.length=2)(ht:AX te)
  (hbody:∀(cdv:Value) (A:Around) (outer:List Env) (s:Shared) (H:Hp) (E:XK),PSs (et CX0 P w K mg base N qual (af st) f cdv A outer s H E).nox (aB st) (tSeq (rJ (tBI C (jD (jG 0) (jD te tQ)))) (sXF C (jG 0) (jG 1) fl))):FnOk P w K mg base CX0 (k+1) f fd N (mI C fl):=by
 refine F0.ok S (λvs H Q E h=>?_) (λcdv A outer s H vs Q E hr h=>?_)
 ·obtain⟨e,i,rfl,_⟩:=h
  exact hN.symm
 ·obtain⟨e,i,rfl,x,he,q⟩:=h
  refine⟨_,hbody cdv A outer s H E,?_⟩
  match N,hN with
  | [n0,n1],_ =>
   show rJ (tBI C (jD (jG 0) (jD te tQ))) _ _ _
   refine⟨.ref e,rfl,?_⟩
   refine ht _ _ _ i rfl x λz=>?_
   exact⟨e,.str z,rfl,he,.int i,rfl,.ref e,rfl,e,rfl,he,q⟩
end
noncomputable def rem(H:Hp)(e:Addr):Hp:=λb=>if b=e then none else H b
theorem mY{H:Hp}{b e:Addr}(h:b≠e):rem H e b=H b:=by unfold rem;rw[if_neg h]
theorem j4{H:Hp}{e:Addr}:rem H e e=none:=by unfold rem;rw[if_pos rfl]
theorem j5{H:Hp}{b e:Addr}(h:H b=none):rem H e b=none:=by unfold rem;split<;>first | rfl | exact h
section
variable{X:Cx}
theorem Inv.rem'{pins:List (Addr×Obj)}{σ:L2.St}{H:Hp}{s:Shared}{e:Addr}{o:HO}(I:L2.Inv X pins σ H s)(he:H e=some o)(h1:∀xs,o≠.tup xs)(h2:∀y u,o≠.frz y u)(h3:∀ps,o≠.tbl ps)(h4:∀y,o≠.own y):L2.Inv X pins σ (rem H e) s:=by
 have ne:∀{b:Addr} {u:HO},H b=some u->u≠o->rem H e b=some u:=λ{b u} q n=>by
  rw[mY]
  ·exact q
  ·rintro rfl
   rw[he] at q;cases q;exact n rfl
 refine⟨I.ok,I.os,I.bare,⟨I.base.keep,I.base.slot,λb o q n hx=>j5 (I.base.free b o q n hx),I.base.there,λb xs q=>ne (I.base.tups b xs q) (Ne.symm (h1 xs)),λb y u q=>ne (I.base.frzs b y u q) (Ne.symm (h2 y u)),λb ps q=>?_⟩,
  I.loc,I.cell,j5 I.free,λy c q=>j5 (I.freeC y c q),λp hp=>?_,λb u q=>?_,I.len⟩
 ·obtain⟨m,z⟩:=I.base.tbls b ps q
  exact⟨m,ne z (Ne.symm (h3 _))⟩
 ·obtain⟨a,b,c,d,f⟩:=I.pin p hp
  exact⟨a,j5 b,c,d,f⟩
 ·have hb:b≠e:=by
   rintro rfl
   rw[j4] at q;cases q
  rw[mY hb] at q
  exact(I.hok b u q).stay (λ_ _ _ z=>z) (λc z=>ne z (Ne.symm (h4 _))) λc xs z=>ne z (Ne.symm (h1 _))
structure XInit(K:Frag)(C f:Addr):Prop where
 ex:ef K C VE "ValueError.__new__" = true
 init:findIn K (.ref C) "__init__" = some (some (.ref f))
 fn:typeIn K (.ref f)=some (.type "function")
 kp:keepIn K (.ref C)=true
theorem zG{k:Nat}{C f:Addr}{fd:FuncData}{ps:List Str}{fl:Str}{pins:List (Addr×Obj)}{σ:L2.St}{H:Hp}{s:Shared}{i:Int}{u:Value}{Q:Value->Shared->Prop}(M:XInit X.K C f)(F:FnOk X.prog X.w X.K X.mg X.base CX0 k f fd ps (mI C fl))(hr:Room (k+1) X.A)(hb:cY X.K fd ps [])
  (I:L2.Inv X pins σ H s) (r:bC (.int i) u) (hx:XI i)
  (q:∀(e a t:Addr) (s1:Shared),s.heap.get? e=none->H a=none->L2.Inv X pins σ (upd H a (.xd [(fl,.int i)])) s1->s1.heap.get? e=some ⟨.ref C,some a,.fields #[.ref t,.none,.none,.none,.bool false,.none],#[]⟩->upd H a (.xd [(fl,.int i)]) e=none->Q (.ref e) s1) :
  wpAny (model X.prog X.w) X.A (call (.ref C) [u]) Q X.xe s:=by
 obtain⟨bm,N,nm,qn,bs,hdct,sn,sub,ab,col,dd,k0,k1,k2,k3,k5,hC,T⟩:=fN I.kIn M.ex
 have hl:sizeLine=16777216:=sizeLine_eq
 have go:∀h' e,Heap.MadeExcOf s.heap h' e (.ref C) [u]->s.heap.objs.size<=e->wpAny (model X.prog X.w) (X.A.under (.builtin "type.__call__" ⟨[.ref C,u],[]⟩)) (call (.ref f) [.ref e,u]) (λr s'=>r=.none/\Q (.ref e) s') X.xe { s with heap:=h' }:=by
  intro h' e hm hsz
  obtain⟨t0,he,_,_⟩:=hm.there
  have hn:H e=none:=I.hok.fresh hsz
  have I2:L2.Inv X pins σ (upd H e (.ext (ExO C e none))) { s with heap:=h' }:=I.laid (t':=s.toks) hm.keeps hsz (qU ⟨t0,he⟩)
  have hq:mI C fl [.ref e,.int i] (upd H e (.ext (ExO C e none))) (λv H'=>v=.non/\∃a,upd H e (.ext (ExO C e none)) a=none/\a≠e/\H'=upd (upd (upd H e (.ext (ExO C e none))) a (.xd [(fl,.int i)])) e (.ext (ExO C e (some a)))) E0 :=
   ⟨e,i,rfl,hx,aA,λd hd ne=>⟨rfl,d,hd,ne,rfl⟩⟩
  have r2:bx [V.ref e,.int i] [Value.ref e,u]:=.cons rfl (.cons r .nil)
  have hlen:[Value.ref e,u].length=ps.length:=by
   have e1:=r2.length
   rw[F.len _ _ _ _ hq] at e1
   exact e1.symm
  refine wpAny_call (codeAny_mono (F.run _ X.stack _ _ ⟨[Value.ref e,u],[]⟩ [Value.ref e,u] _ _ E0 (hr.make C [u] []) (I2.env0.make C [u] []) (hb _ [Value.ref e,u] I2.kIn hlen) r2 hq) λr s' hq'=>?_)
  cases r with
  | error e=>exact(show False from hq').elim
  | ok fl' =>
   cases fl' with
   | ret u' =>
    obtain⟨v,H',I3,rv,ev,a,ha,ne,rfl⟩:=I2.after hq'
    subst ev
    have ha':H a=none:=by rw[upd_ne ne] at ha;exact ha
    have I4:=XF.Inv.rem' (e:=e) I3 aA (λ_ z=>nomatch z) (λ_ _ z=>nomatch z) (λ_ z=>nomatch z) (λ_ z=>nomatch z)
    have eq:rem (upd (upd (upd H e (.ext (ExO C e none))) a (.xd [(fl,.int i)])) e (.ext (ExO C e (some a)))) e=upd H a (.xd [(fl,.int i)]):=by
     funext b
     by_cases hb:b=e
     ·rw[hb,j4,upd_ne (Ne.symm ne),hn]
     ·rw[mY hb,upd_ne hb]
      by_cases hb2:b=a
      ·rw[hb2,aA,aA]
      ·rw[upd_ne hb2,upd_ne hb2,upd_ne hb]
    rw[eq] at I4
    obtain⟨⟨t1,he1⟩,_,_⟩:=(show cy X.prog X.w _ s'.heap e (.ext (ExO C e (some a))) from I3.hok e _ aA)
    exact⟨rv,q e a t1 s' hm.new ha' I4 he1 (by rw[upd_ne (Ne.symm ne)];exact hn)⟩
   | next=>exact False.elim hq'
   | brk=>exact False.elim hq'
   | cont=>exact False.elim hq'
 obtain⟨hp,g,d,t,os⟩:=s
 exact p8 PySem.F.excBase_ValueError T I.kIn hC M.init M.fn (by simp only[ω,Y6];omega) go
end
end XF
namespace XF
open PySem.W PySem.Calls PyProof.Rows L2
section
variable{M:Model}{A:Around}{E:Value->Shared->Prop}{env:Env}
variable{nm q:Str}{C N:Addr}{bs bm:List Value}{hdct:Bool}{sn:List Str}{sub:List Value}{ab:Bool}{col:Option Bool}{dd:Option Addr}{k0 k1 k2 k3 k5:Option Value}{newId:String}
theorem uc{s:Shared}{x:Sem Value}{Q:Flow->Shared->Prop}(hbase:bm.contains (.type "BaseException")=true)(hh:A.handled=none)
  (h:wpAny M A x (λv s₁=>∃e a t,v=.ref e/\s₁.heap.get? C=some (excClassObj nm q C N bs bm hdct sn sub ab col dd k0 k1 k2 k3 k5 newId)/\s₁.heap.get? e=some ⟨.ref C,some a,.fields #[.ref t,.none,.none,.none,.bool false,.none],#[]⟩/\E (.ref e) s₁) E s) :
  wpAny M A (raiseStmt env (some x) none) Q E s:=by
 have hcB:(Value.ref C::bm).contains (.type "BaseException")=true:=by rw[List.contains_cons,hbase,Bool.or_true]
 unfold raiseStmt
 refine wpAny_bind (wpAny_mono h (λv s₁ h₁=>?_) λ_ _ x=>x)
 obtain⟨e,a,t,rfl,hC,he,hE⟩:=h₁
 obtain⟨hp,g,d,tk,os⟩:=s₁
 repeat (first | with_reducible refine wpAny_loadPart_at he ?_ | with_reducible refine wpAny_loadPart_at hC ?_ | (with_reducible refine wpAny_isSubtype_exc hC ?_;rw[hcB]) | wp_step)
 exact wpAny_raiseNew_none hh hE
theorem ue{s:Shared}{e:Expr}{pos:Pos}{Q:Flow->Shared->Prop}(hbase:bm.contains (.type "BaseException")=true)(hh:A.handled=none)
  (h:wpAny M A (eval e env) (λv s₁=>∃e a t,v=.ref e/\s₁.heap.get? C=some (excClassObj nm q C N bs bm hdct sn sub ab col dd k0 k1 k2 k3 k5 newId)/\s₁.heap.get? e=some ⟨.ref C,some a,.fields #[.ref t,.none,.none,.none,.bool false,.none],#[]⟩/\E (.ref e) s₁) E s) :
  wpAny M A (exec (.Raise (some e) none pos) env) Q E s:=by
 rw[arm_exec_Raise]
 simp only[evalOpt,Option.map]
 refine wpAny_bind (wpAny_standAt (uc (C:=C) (nm:=nm) (q:=q) (N:=N) (bs:=bs) (bm:=bm) (hdct:=hdct) (sn:=sn) (sub:=sub) (ab:=ab) (col:=col) (dd:=dd) (k0:=k0) (k1:=k1) (k2:=k2) (k3:=k3) (k5:=k5) (newId:=newId) hbase hh
  (wpAny_bind (wpAny_mono h (λv s₃ h₃=>wpAny_bind (wpAny_standAt (wpAny_pure h₃))) λ_ _ x=>x))))
end
def kY(X:Cx)(C:Addr)(Eh:Option Addr->Hp->Prop):Prop:=∀(pins:List (Addr×Obj)) (σ:L2.St) (H H1:Hp) (s s1:Shared) (e t:Addr) (oe:Obj) (vs:Array Value),L2.Inv X pins σ H s->s.heap.get? e=none->L2.Inv X pins σ H1 s1 ->
 s1.heap.get? e=some oe->oe.cls=.ref C->oe.data=.fields vs->vs[0]?=some (.ref t)->vs[1]?=some .none->(oe.dict=none->vs[2]?=some .none)->H1 e=none->Eh oe.dict H1->X.xe (.ref e) s1
theorem e6{P:Program}{w:World}{K:ε}{mg:Str->Option Value}{base:Heap}{N:List Str}{qual:Str}{scope:Scope}{f:Addr}{cdv:Value}{A:Around}{outer:List Env}{s0:Shared}{H0:Hp}{E:XK}{C:Addr} :
  kY (et (CXE P w) P w K mg base N qual scope f cdv A outer s0 H0 E) C (λd H=>E (.ref C) d H) :=
 λ_ _ _ _ _ _ _ _ _ _ I new I1 he hc hd h0 h1 h2 hn hE=>lK I new I1 he hc hd h0 h1 h2 hn hE
section
variable{X:Cx}
theorem xg{k:Nat}{x fl:Str}{C f:Addr}{fd:FuncData}{ps:List Str}{Eh:Option Addr->Hp->Prop}{np cpos pos:Pos}{e:Expr}{ta:TA}(hR:kY X C Eh)(M:XInit X.K C f)(F:FnOk X.prog X.w X.K X.mg X.base CX0 k f fd ps (mI C fl))(hr:Room (k+1) X.A)(hb:L2.cY X.K fd ps [])
  (hc:X.calm=true) (hg:Gl X x) (hm:X.mg x=some (.ref C)) (ha:PA X [e] ta) (hdb:(x==("__debug__" : Str))=false:=by decide)
  (he:starEach [e] X.env=(false,eval e X.env)::starEach [] X.env:=by rfl) :
  PS X (.Raise (some (.Call (.Name x np) [e] [] cpos)) none pos) (λ_ σ H=>ta σ H λvs H1=>∃i,vs=[.int i]/\XI i/\∀a,H1 a=none->Eh (some a) (upd H1 a (.xd [(fl,.int i)]))):=by
 intro pins s σ H D I h
 obtain⟨bm,N,nm,qn,bs,hdct,sn,sub,ab,col,dd,k0,k1,k2,k3,k5,hC,T⟩:=fN I.ok.mod.kin M.ex
 refine ue (C:=C) (nm:=nm) (q:=qn) (N:=N) (bs:=bs) (bm:=bm) (hdct:=hdct) (sn:=sn) (sub:=sub) (ab:=ab) (col:=col) (dd:=dd) (k0:=k0) (k1:=k1) (k2:=k2) (k3:=k3) (k5:=k5) (newId := "ValueError.__new__") (T.hasType PySem.F.excBase_ValueError.hasBase) (I.ok.hd hc) ?_
 refine wpAny_Call_Name_kw (d9 I hg hm ?_ hdb)
 refine U2 (h₀:=X.base) I.ok.mod.kin M.kp (thn (ha cpos pins s σ H _ I h) λus s1 ⟨vs,H1,I1,r,i,ev,hx,q⟩=>⟨I1.kIn,?_⟩) he rfl
 ·subst ev
  obtain⟨u,rfl,ru⟩:=fu r
  refine zG M F hr hb I1 ru hx λe a t s2 new ha I2 hge hn=>⟨e,a,t,rfl,I2.bk _ _ hC,hge,?_⟩
  exact hR pins σ H1 _ s1 s2 e t _ _ I1 new I2 hge rfl rfl rfl rfl (λz=>nomatch z) hn (q a ha)
theorem pe_xat{ea a C:Addr}{oe od:Obj}{fl:Str}{v:V}{u:Value}{o:Expr}{ta:TE}{pos:Pos}(c:XCls X.K C)(n:findIn X.K (.ref C) fl=some none)(h1:(ea,oe)∈X.pn)(hcl:oe.cls=.ref C)(hnc:notCls oe=true)(hdi:oe.dict=some a)(h2:(a,od)∈X.pn)(hl:lookIn fl od=some (some u))(hr:L2.bC v u)
  (he:PE X o ta) (hb:attributeBase o fl X.env (eval o X.env)=eval o X.env:=by rfl):PE X (.Attribute o fl pos) (λσ H Q=>ta σ H λx H1=>x=.ref ea/\Q v H1):=by
 intro pins s σ H Q I h
 refine wH hb (thn (he pins s σ H _ I h) λu' s1 ⟨x,H1,I1,rx,ex,q⟩=>?_)
 subst ex
 obtain rfl:u'=Value.ref ea:=rx
 have p1:=(I1.pin (ea,oe) (Z1 _ h1)).1
 have p2:=(I1.pin (a,od) (Z1 _ h2)).1
 have J:InstAt s1.heap ea oe C (some od):=⟨p1,hcl,hnc,by rw[hdi];exact p2⟩
 obtain⟨hp,g,d,t,os⟩:=s1
 exact pQ c I1.kIn J (findObj_own c.hd n rfl hl) (pP hr) ⟨v,H1,I1.tok _,hr,q⟩
theorem Inv.held2{pins:List (Addr×Obj)}{σ:L2.St}{H:Hp}{s:Shared}{e a:Addr}{oe od:Obj}(I:L2.Inv X pins σ H s)(ha:s.heap.get? a=some od/\H a=none/\a≠X.env.locals/\a∉X.fs/\∀v,od.data≠.cell v)
  (he:s.heap.get? e=some oe/\H e=none/\e≠X.env.locals/\e∉X.fs/\∀v,oe.data≠.cell v):L2.Inv (X.held (X.pn++pins++[(a,od),(e,oe)]) e) [] σ H s :=
 ⟨⟨I.ok.mod,I.ok.kind,I.ok.glob,I.ok.blt,I.ok.above,I.ok.inj,I.ok.has,I.ok.cab,(λz=>nomatch z),I.ok.frames,I.ok.stk,I.ok.exf,I.ok.bs,I.ok.bsz,I.ok.noex,I.ok.exfs,I.ok.funs,I.ok.frf⟩,
  I.os,I.bare,I.base,I.loc,I.cell,I.free,I.freeC,λp hp=>by
   have hp:p∈(X.pn++pins++[(a,od),(e,oe)])++[]:=hp
   rw[Λ] at hp
   rcases Z6.mp hp with hp | hp
   ·exact I.pin p hp
   ·rcases Δ.mp hp with rfl | hp
    ·exact ha
    ·rw[Ψ.mp hp];exact he,I.hok,I.len⟩
theorem Inv.unheld2{pins pins':List (Addr×Obj)}{σ:L2.St}{H:Hp}{s:Shared}{e:Addr}{more:List (Addr×Obj)}(hd:X.calm=true->X.A.handled=none)(I:L2.Inv (X.held (X.pn++pins++more) e) pins' σ H s):L2.Inv X pins σ H s :=
 ⟨⟨I.ok.mod,I.ok.kind,I.ok.glob,I.ok.blt,I.ok.above,I.ok.inj,I.ok.has,I.ok.cab,hd,I.ok.frames,I.ok.stk,I.ok.exf,I.ok.bs,I.ok.bsz,I.ok.noex,I.ok.exfs,I.ok.funs,I.ok.frf⟩,
  I.os,I.bare,I.base,I.loc,I.cell,I.free,I.freeC,λp hp=>I.pin p (Z1 _ (Z1 _ hp)),I.hok,I.len⟩
theorem Ad{b:Addr}(hfr:X.env.frame=some X.env.locals)(h:b∈X.fs):b∈frs (X.env::X.outer):=by
 show b∈List.filterMap _ _
 rw[List.filterMap_cons,hfr]
 exact ρ _ h
noncomputable def tTryF(X:Cx)(C:Addr)(i:Nat)(fl:Str)(body suite:List Stmt):TS:=λD σ H=>∃Ex:XK,
 (∀pn xe,du (CXE X.prog X.w) (X.tri pn xe) Ex->wQ (X.tri pn xe) body D σ H) /\
 ∀c d H',Ex c d H'->c=.ref C/\∃a H1 j,d=some a/\H1 a=none/\H'=upd H1 a (.xd [(fl,.int j)]) /\
  ∀pn ea oe od tk,(ea,oe)∈pn->oe.cls=.ref C->notCls oe=true->oe.dict=some a->(a,od)∈pn->lookIn fl od=some (some (.int j tk))->wQ (X.held pn ea) suite (D.gone i) ((Z5 X.N.length none).set i (some (.ref ea))) H1
theorem xb{x n fl:Str}{C:Addr}{i:Nat}{body suite:List Stmt}{b₀:Stmt}{np hp pos:Pos}(hK:ef X.K C VE "ValueError.__new__" = true)
  (hst:X.stack=X.env::X.outer) (hfr:X.env.frame=some X.env.locals) (hg:Gl X x) (hm:X.mg x=some (.ref C)) (hN:X.N.Nodup) (hi:X.N[i]?=some n) (hl:X.env.scope.names.lookup n=some .local) (hd:(x==("__debug__" : Str))=false:=by decide) :
  PS X (.Try body [.ExceptHandler (some (.Name x np)) (some n) (b₀::suite) hp] [] [] pos) (tTryF X C i fl body (b₀::suite)):=by
 intro pins s σ H D I ⟨Ex,hb,hs⟩
 have hcls:(X.env.scope.kind==.class||(X.env.scope.kind==.module&&X.env.locals != X.env.globals))=false:=by rw[I.ok.kind];rfl
 refine wpAny_Try_except ?_
 have hps:du (CXE X.prog X.w) (X.tri (X.pn++pins) λe s'=>∃σ1 H1 s1,L2.Inv X pins σ1 H1 s1/\CXE X.prog X.w X.stack H1 s1 Ex e s') Ex:=λpins' σ1 H1 s1 e s' I1 h1=>⟨σ1,H1,s1,I1.untri,h1⟩
 have hw:=ka [] s σ H D (I.tri _) (hb _ _ hps)
 refine wpAny_mono hw (λf s1 h1=>?_) (λe s1 h1=>?_)
 ·cases f with
  | next =>
   obtain⟨σ',H',I',q⟩:=h1
   exact wpAny_execs_nil (show SP X pins D .next s1 from⟨σ',H',I'.untri,q⟩)
  | brk=>obtain⟨σ',H',I',q⟩:=h1;exact⟨σ',H',I'.untri,q⟩
  | cont=>obtain⟨σ',H',I',q⟩:=h1;exact⟨σ',H',I'.untri,q⟩
  | ret u=>obtain⟨v,σ',H',I',r,q⟩:=h1;exact⟨v,σ',H',I'.untri,r,q⟩
 ·obtain⟨σ1,H1,s0,I0,ea,C',t,dx,H',B0,rfl,F⟩:=h1
  obtain⟨hc,a,Hq,j,hda,hqn,hH,hsuite⟩:=hs _ _ _ F.wish
  cases hc
  subst hda hH
  obtain⟨flv,hFl⟩:=F.fl
  rw[hst] at hFl
  refine XF.nw (I.ok.frames.trans (by rw[hst])) hfr hFl F.dict λh4 hheld4 dd4 hsm4=>?_
  refine XF.pI (s:={ s1 with heap:=h4 }) hheld4 dd4 λh5 hheld5 dd5 hsm5=>?_
  have key:∀{h6:Heap},jB B0 (X.env::X.outer) ea (.ref C) (.ref t) .none h6->dI h6 ea (some a)->s1.heap.UpToSlots h6->∃oe od tk,oe.cls=.ref C/\notCls oe=true/\oe.dict=some a/\h6.get? ea=some oe/\lookIn fl od=some (some (.int j tk))/\L2.Inv (X.held (X.pn++pins++[(a,od),(ea,oe)]) ea) [] σ1 Hq { s1 with heap:=h6 }:=by
   intro h6 hfl6 dd6 hsm6
   have I6:=uP I0 F hfl6.1 hsm6
   obtain⟨oe,vs,hoe,hoec,hoed,_⟩:=hfl6.first
   obtain⟨mA,hns,hrel⟩:=(show cy X.prog X.w _ h6 a (.xd [(fl,.int j)]) from I6.hok a _ aA)
   obtain⟨od,hod,hlk⟩:=pF hns
   have hfl:mA fl=some (.int j ((λv=>match v with | .int _ tk=>tk | _=>0) ((mA fl).getD .none))):=by
    have z:=hrel fl
    rw[show W3 fl [(fl,V.int j)]=some (V.int j) from by simp [W3]] at z
    cases e:mA fl with
    | none=>rw[e] at z;exact z.elim
    | some u=>rw[e] at z;obtain⟨tk,rfl⟩:=(show ∃tk,u=Value.int j tk from z);rfl
   have hea:upd Hq a (.xd [(fl,.int j)]) ea=none:=by
    cases e:upd Hq a (.xd [(fl,.int j)]) ea with
    | none=>rfl
    | some o =>
     obtain⟨ob,q⟩:=F.trk _ _ e
     rw[hfl6.2.1] at q;cases q
   have hne:ea≠a:=by
    rintro rfl
    rw[aA] at hea;cases hea
   have J:=XF.Inv.rem' (e:=a) I6 aA (λ_ z=>nomatch z) (λ_ _ z=>nomatch z) (λ_ z=>nomatch z) (λ_ z=>nomatch z)
   rw[show rem (upd Hq a (.xd [(fl,.int j)])) a=Hq from by
    funext b
    by_cases hb:b=a
    ·rw[hb,j4,hqn]
    ·rw[mY hb,upd_ne hb]] at J
   have odd:∃es ep,od.data=.dict es ep:=by
    obtain⟨o',es,ep,ho',hd',_⟩:=hns
    rw[hod] at ho';cases ho'
    exact⟨es,ep,hd'⟩
   refine⟨oe,od,_,hoec,by unfold notCls;rw[hoed],?_,hoe,by rw[hlk,hfl],Inv.held2 J ⟨hod,hqn,?_,?_,λv z=>?_⟩ ⟨hoe,by rw[upd_ne hne] at hea;exact hea,?_,?_,λv z=>by rw[hoed] at z;cases z⟩⟩
   ·obtain⟨o2,_,q2,q3,_⟩:=dd6
    rw[hoe] at q2;cases q2;exact q3
   ·exact aU (H:=upd Hq a (.xd [(fl,.int j)])) aA I6.free
   ·intro hb'
    have z:=I6.stkFree a (by rw[hst];exact Ad hfr hb')
    rw[aA] at z;cases z
   ·obtain⟨es,ep,q⟩:=odd
    rw[q] at z;cases z
   ·rintro rfl
    obtain⟨m,⟨o',es,ep,ho',hd',_⟩,_⟩:=I6.loc
    have ho':h6.get? X.env.locals=some o':=ho'
    rw[hoe] at ho';cases ho';rw[hoed] at hd';cases hd'
   ·intro hb'
    obtain⟨_,o',ho',hd'⟩:=I6.funs.mem hb'
    have ho':h6.get? ea=some o':=ho'
    rw[hoe] at ho';cases ho'
    exact hd' _ hoed
  obtain⟨ob,_,_,hobc,_,_,hob,_,I5⟩:=key hheld5 dd5 (hsm4.trans hsm5)
  obtain⟨tl,N,nm,q,bs,hdct,sn,sub,ab,col,dd,k0,k1,k2,k3,k5,hC,T⟩:=fN I.ok.mod.kin hK
  refine wpAny_handleBy_cons (codeAny_handlers_test (d9 I5 hg hm ?_ hd)) (by intro q;cases q)
  refine wpAny_excMatches_sub_self (I5.bk _ _ hC) hob hobc (T.hasType PySem.F.excBase_ValueError.hasBase) (codeAny_handlers_suite_as ?_)
  refine XF.pI (s:={ s1 with heap:=h5 }) hheld5 dd5 λh6 hfl6 dd6 hsm6=>?_
  obtain⟨oe,od,tk,hoec,hnc,hdi,hoe,hlk,I6⟩:=key hfl6 dd6 ((hsm4.trans hsm5).trans hsm6)
  have I7:=I6.weak (σ':=Z5 X.N.length none) (by rw[W2];exact I6.len.symm) (λj v z=>by
   rw[V3] at z
   split at z<;>cases z)
  refine iH (X:=X.held (X.pn++pins++[(a,od),(ea,oe)]) ea) I7 hN hi (.inl hl) (v:=.ref ea) rfl (λs9 I9=>?_) (.inr hl)
  refine wpAny_mono (ka [] s9 _ Hq (D.gone i) I9 (hsuite _ ea oe od tk (by simp) hoec hnc hdi (by simp) hlk)) (λf s10 z=>?_) (λ_ _ z=>z.elim)
  have gone:∀{σ':L2.St} {H2:Hp} {Q:Unit->Shared->Prop},L2.Inv (X.held (X.pn++pins++[(a,od),(ea,oe)]) ea) [] σ' H2 s10->(∀s11,L2.Inv X pins (σ'.set i none) H2 s11->Q () s11)->wpAny (model X.prog X.w) X.A (do bindName X.env n .none;unbindBehindTheSuite X.env n hp) Q X.xe s10:=by
   intro σ' H2 Q J k
   obtain⟨m,hn,hlk⟩:=J.loc
   refine wpAny_nameGoes_keeps hl hn hcls λh' v hn' hs'=>k _ ?_
   refine(((Inv.unheld2 I.ok.hd J).names (σ':=σ'.set i none) hs' (by simp) ⟨_,hn',λj y w e1 e2 e3=>?_⟩).tok _)
   by_cases hj:i=j
   ·subst hj
    rw[List.getElem?_set] at e2
    simp at e2
   ·rw[Y8 hj] at e2
    obtain⟨u,r,lk⟩:=hlk j y w e1 e2 e3
    refine⟨u,r,?_⟩
    rcases lk with ⟨a,b⟩ | ⟨a,c,e,z'⟩
    ·refine .inl ⟨a,?_⟩
     have:y≠n:=λe=>hj (ku hN (e▸e1) hi).symm
     simp [this,b]
    ·exact .inr ⟨a,c,e,z'.sameBut hs' (J.cne y c e)⟩
  cases f with
  | next=>obtain⟨σ',H2,J,q⟩:=z;exact gone J λs11 J'=>⟨_,H2,J',q⟩
  | brk=>obtain⟨σ',H2,J,q⟩:=z;exact gone J λs11 J'=>⟨_,H2,J',q⟩
  | cont=>obtain⟨σ',H2,J,q⟩:=z;exact gone J λs11 J'=>⟨_,H2,J',q⟩
  | ret u=>obtain⟨v,σ',H2,J,r,q⟩:=z;exact gone J λs11 J'=>⟨v,_,H2,J',r,q⟩
end
end XF
namespace XF
open PySem.W PySem.Calls PyProof.Rows L2
section
variable{X:Cx}
end
end XF
namespace XF
open PySem.W PySem.Calls PyProof.Rows L2
section
variable{X:Cx}
end
end XF
namespace DL
open PyProof.Rows L2
section
variable{X:Cx}{G:XD->Hp->Prop}{fi:DS->M (List D)}{c:DS->M Bool}{f:DS->M D}{t:D->DS->Option DS}
end
end DL
namespace DL
open PyProof.Rows L2
noncomputable def km(i:Int):Bool:=decide (i.natAbs.log2<1920)&&decide ((Str.ofString (toString i)).length<=1000)
theorem sy{i:Int}(h:km i=true):XF.XI i:=by
 unfold km at h
 rw[Ξ,decide_eq_true_eq,decide_eq_true_eq] at h
 exact h
structure XDef(P:Program)(w:World)(K:ε)(mg:Str->Option Value)(base:Heap)(k:Nat)(x fl:Str)(C:Addr):Prop where
 ok:∃(f:Addr) (fd:FuncData) (ps:List Str),XF.XInit K C f/\FnOk P w K mg base CX0 k f fd ps (XF.mI C fl)/\L2.cY K fd ps []
noncomputable def dP(x fl:Str)(fa:DS->M (List D)):DS->M Out:=λδ=>(fa δ).thn λds=>match ds with
 | [.int i]=>if km i then some (.error ⟨x,[(fl,.int i)]⟩) else none
 | _=>none
section
variable{X:Cx}{G:XD->Hp->Prop}{e:Expr}{fa:DS->M (List D)}{pos:Pos}
theorem jh{k:Nat}{x fl:Str}{C:Addr}{np cpos:Pos}{E:XK}(h:XDef X.prog X.w X.K X.mg X.base k x fl C)(hR:XF.kY X C (λd H=>E (.ref C) d H))(hG:∀x H,G x H->GX X.mg E x H)(hr:Room (k+1) X.A)
  (hc:X.calm=true) (hg:Gl X x) (hm:X.mg x=some (.ref C)) (ha:PDA X G [e] fa) (hdb:(x==("__debug__" : Str))=false:=by decide)
  (he:starEach [e] X.env=(false,eval e X.env)::starEach [] X.env:=by rfl) :
  PDS X G (.Raise (some (.Call (.Name x np) [e] [] cpos)) none pos) (dP x fl fa):=by
 obtain⟨f,fd,ps,M1,F,hb⟩:=h.ok
 obtain⟨_,t,pa,ha⟩:=ha
 refine⟨_,XF.xg hR M1 F hr hb hc hg hm pa hdb he,@λHr R0 P0 H0 δ O σ H Dn E1 k=>?_⟩
 refine ha δ O σ H _ E1.ev (aq (ay k) λds z vs H1 s1 rs=>?_)
 match ds,z,rs with
 | [.int i],z,rs =>
  by_cases hz:km i=true
  ·have z:ok (GS G Hr) (if km i=true then some (.error ⟨x,[(fl,.int i)]⟩) else none) (Fin X.K Hr R0 P0 H0 Dn):=z
   rw[if_pos hz] at z
   obtain⟨v,rfl,rv⟩:=d8 rs
   cases rv
   exact⟨i,rfl,sy hz,λa ha=>hG _ _ (z H1 (E1.ev.root.trans s1)) C hm a ha⟩
  ·have z:ok (GS G Hr) (if km i=true then some (.error ⟨x,[(fl,.int i)]⟩) else none) (Fin X.K Hr R0 P0 H0 Dn):=z
   rw[if_neg hz] at z
   exact z.elim
 | [],z,_=>exact z.elim
 | [.none],z,_=>exact z.elim
 | [.bool _],z,_=>exact z.elim
 | [.str _],z,_=>exact z.elim
 | [.list _],z,_=>exact z.elim
 | [.tuple _],z,_=>exact z.elim
 | [.dict _],z,_=>exact z.elim
 | d1::d2::r,z,_=>cases d1<;>exact z.elim
noncomputable def AG(a:Addr)(i:Nat)(j:Int):DS->M D:=λδ=>match δ[i]? with
 | some (.ex a')=>if a'=a then M.ret (.int j) else none
 | _=>none
theorem ev_xat{a:Addr}{i:Nat}{j:Int}{δ:DS}(h:δ[i]?=some (.ex a)):AG a i j δ=M.ret (.int j):=by unfold AG;rw[h];simp
theorem pd_xat{ea a C:Addr}{oe od:Obj}{fl n:Str}{i:Nat}{j:Int}{tk:Nat}{p1:Pos}(c:XF.XCls X.K C)(na:θ X.K (.ref C) fl=some none)(h1:(ea,oe)∈X.pn)(hcl:oe.cls=.ref C)(hnc:PySem.W.notCls oe=true)(hdi:oe.dict=some a)(h2:(a,od)∈X.pn)(hl:U4 fl od=some (some (.int j tk)))
  (hN:X.N[i]?=some n) (hvi:Vis X.env.scope n) (hdb:(n==("__debug__" : Str))=false:=by decide) (hcd:(n==("__classdict__" : Str))=false:=by decide) (hb:attributeBase (.Name n p1) fl X.env (eval (.Name n p1) X.env)=eval (.Name n p1) X.env:=by rfl):PD X G (.Attribute (.Name n p1) fl pos) (AG ea i j):=by
 refine⟨_,XF.pe_xat (v:=.int j) c na h1 hcl hnc hdi h2 hl ⟨tk,rfl⟩ (uk hN hvi hdb hcd) hb,λδ O σ H Q E k=>?_⟩
 unfold AG at k
 split at k
 ·rename_i a' e
  split at k
  ·rename_i z
   subst z
   exact⟨.ref a',E.at_ i _ e,rfl,k _ _ (λ_ _ h=>h) (.int _)⟩
  ·exact k.elim
 ·exact k.elim
open Classical in
noncomputable def gTryF(x fl:Str)(N i:Nat)(gb:DS->M Out)(gs:Addr->Int->DS->M Out):DS->M Out:=λδ=>match gb (noOw δ) with
 | none=>none
 | some (.ok o)=>some (.ok o)
 | some (.error y)=>match y.flds with
  | [(f,.int j)]=>if y.cls=x/\f=fl then cc N i (λa=>gs a j) else none
  | _=>none
end
section
variable{δ δ':DS}{y:XD}{x fl:Str}{N i n:Nat}{j:Int}{gb:DS->M Out}{gs:Addr->Int->DS->M Out}{o:Out}{fa:DS->M (List D)}{fi:DS->M (List D)}{c:DS->M Bool}{f:DS->M D}{t:D->DS->Option DS}{ds ys:List D}{d:D}{js:List Nat}
theorem lA(h:fa δ=M.ret [.int j])(hz:km j=true):dP x fl fa δ=some (.error ⟨x,[(fl,.int j)]⟩):=by
 unfold dP
 rw[h]
 show(if km j=true then _ else _)=_
 rw[if_pos hz]
theorem Ax{f:DS->M D}(h:f δ=some (.error y)):cF f δ=some (.error y):=by unfold cF;rw[h];rfl
end
end DL
namespace XF
open PySem.W PySem.Calls PyProof.Rows L2
section
variable{P:Program}{w:World}{K:ε}{mg:Str->Option Value}{base:Heap}
noncomputable def cxH(P:Program)(w:World)(K:Frag)(mg:Str->Option Value)(base:Heap)(N:List Str)(qual:Str)(scope:Scope)(f:Addr)(cdv:Value)(A:Around)(hv:Value)(outer:List Env)(s:Shared)(H:Hp):Cx :=
 { et CX0 P w K mg base N qual scope f cdv A outer s H E0 with A:=(A.mark (some hv)).deeper (envOfC qual scope s.heap.objs.size f cdv),calm:=false,xe:=λ_ _=>False }
def FnH(P:Program)(w:World)(K:Frag)(mg:Str->Option Value)(base:Heap)(k:Nat)(f:Addr)(fd:FuncData)(ps:List Str)(sp:Sp):Prop :=
 ∀(A:Around) (hv:Value) (outer:List Env) (s:Shared) (H:Hp) (args:Args) (us:List Value) (vs:List V) (Q:L2.VK),Room k A->Env0 P w K mg base A outer s H->BindsTo s fd args (ps.zip us)->bx vs us->sp vs H Q E0 ->
  codeAny (model P w) (A.mark (some hv)) (.call (.ref f) args) (CR CX0 outer P w H s Q E0) s
theorem fnH_of{x qual:Str}{st:Stmt}{f:Addr}{fd:FuncData}{N ps:List Str}{k:Nat}{sp:Sp}(F:Fun K x qual st f fd)(S:FnScope N ps (af st))(len:∀vs H Q E,sp vs H Q E->vs.length=ps.length)
  (hbody:∀(cdv:Value) (A:Around) (hv:Value) (outer:List Env) (s:Shared) (H:Hp) (vs:List V) (Q:L2.VK),sp vs H Q E0->∃t,PSs (cxH P w K mg base N qual (af st) f cdv A hv outer s H) (aB st) t/\t { nx:=λ_ H'=>Q .non H',rt:=Q } (L2.start N vs) H) :
  FnH P w K mg base (k+1) f fd ps sp:=by
 obtain⟨oc,od,kV,doc,pm,an,cdv,ct,osl,rfl,lk,hcd⟩:=F.ex
 intro A hv outer s H args us vs Q hr e0 hb r hsp
 have kin:K.In s.heap:=e0.mod.kin.keeps λb o e=>(e0.bs b o e).1
 have lim:s.heap.NoLimit:=e0.mod.nolimit.keeps λb o e=>(e0.bs b o e).1
 have kinds:∀y∈ps.zip us,(af st).names.lookup y.1=some .local\/((af st).names.lookup y.1=some .cell/\((cellsFrom (s.heap.objs.size+1) (af st).names []).lookup y.1).isSome=true):=λ⟨n,v⟩ hy =>
  (S.par n (List.of_mem_zip hy).1).elim .inl λq=>.inr ⟨q,PySem.W.cellsFrom_some _ _ _ (.inl q)⟩
 refine codeAny_call_function (A:=A.mark (some hv)) hr.depth (kin _ _ lk) rfl S.co S.gen rfl (PySem.W.codeRec_of kin hcd) (hb _ _ _ _ ?_)
 refine wpAny_newFunctionEnv_cells S.kind kinds λenv he s1 x=>?_
 subst he
 refine⟨lim.keeps x.toInCall.keep,codeAny_func ?_⟩
 obtain⟨t,ht,hq⟩:=hbody cdv A hv outer s H vs Q hsp
 have I0:L2.Inv (et CX0 P w K mg base N qual (af st) f cdv A outer s H E0) [] (L2.start N vs) H s1:=pO S hr.hd e0 (len _ _ _ _ hsp) r x
 have I:L2.Inv (cxH P w K mg base N qual (af st) f cdv A hv outer s H) [] (L2.start N vs) H s1 :=
  ⟨⟨I0.ok.mod,I0.ok.kind,I0.ok.glob,I0.ok.blt,I0.ok.above,I0.ok.inj,I0.ok.has,I0.ok.cab,(λz=>nomatch z),I0.ok.frames,I0.ok.stk,I0.ok.exf,I0.ok.bs,I0.ok.bsz,I0.ok.noex,I0.ok.exfs,I0.ok.funs,I0.ok.frf⟩,
   I0.os,I0.bare,I0.base,I0.loc,I0.cell,I0.free,I0.freeC,I0.pin,I0.hok,I0.len⟩
 refine wpAny_mono (ht [] s1 _ H _ I hq) (λfl s' hs=>?_) λe s' hs=>(show False from hs).elim
 cases fl with
 | ret u =>
  obtain⟨v,σ',H',J,rv,q⟩:=hs
  exact⟨v,H',J.os,J.bare,J.base,J.hok,rv,q⟩
 | next =>
  obtain⟨σ',H',J,q⟩:=hs
  exact⟨V.non,H',J.os,J.bare,J.base,J.hok,rfl,q⟩
 | brk =>
  obtain⟨_,_,_,q⟩:=hs
  exact q.elim
 | cont =>
  obtain⟨_,_,_,q⟩:=hs
  exact q.elim
theorem xG{x qual fl:Str}{st:Stmt}{f C:Addr}{fd:FuncData}{N:List Str}{k:Nat}{te:TE}(F0:Fun K x qual st f fd)(S:FnScope N N (af st))(hN:N.length=2)(ht:AX te)
  (hbody:∀(cdv:Value) (A:Around) (hv:Value) (outer:List Env) (s:Shared) (H:Hp),PSs (cxH P w K mg base N qual (af st) f cdv A hv outer s H) (aB st) (tSeq (rJ (tBI C (jD (jG 0) (jD te tQ)))) (sXF C (jG 0) (jG 1) fl))):FnH P w K mg base (k+1) f fd N (mI C fl):=by
 refine fnH_of F0 S (λvs H Q E h=>?_) (λcdv A hv outer s H vs Q h=>?_)
 ·obtain⟨e,i,rfl,_⟩:=h
  exact hN.symm
 ·obtain⟨e,i,rfl,x,he,q⟩:=h
  refine⟨_,hbody cdv A hv outer s H,?_⟩
  match N,hN with
  | [n0,n1],_ =>
   show rJ (tBI C (jD (jG 0) (jD te tQ))) _ _ _
   refine⟨.ref e,rfl,?_⟩
   refine ht _ _ _ i rfl x λz=>?_
   exact⟨e,.str z,rfl,he,.int i,rfl,.ref e,rfl,e,rfl,he,q⟩
end
section
variable{X:Cx}
theorem xy{k:Nat}{C f:Addr}{fd:FuncData}{ps:List Str}{fl:Str}{A0:Around}{hv:Value}{pins:List (Addr×Obj)}{σ:L2.St}{H:Hp}{s:Shared}{i:Int}{u:Value}{Q:Value->Shared->Prop}(hA:X.A=A0.mark (some hv))(M:XInit X.K C f)(F:FnH X.prog X.w X.K X.mg X.base k f fd ps (mI C fl))(hlp:ps.length=2)(hr:Room (k+1) A0)(hb:L2.cY X.K fd ps [])
  (I:L2.Inv X pins σ H s) (r:L2.bC (.int i) u) (hx:XI i)
  (q:∀(e a t:Addr) (s1:Shared),s.heap.objs.size<=e->H a=none->L2.Inv X pins σ (upd H a (.xd [(fl,.int i)])) s1->s1.heap.get? e=some ⟨.ref C,some a,.fields #[.ref t,.none,.none,.none,.bool false,.none],#[]⟩->upd H a (.xd [(fl,.int i)]) e=none->Q (.ref e) s1) :
  wpAny (model X.prog X.w) X.A (call (.ref C) [u]) Q X.xe s:=by
 obtain⟨bm,N,nm,qn,bs,hdct,sn,sub,ab,col,dd,k0,k1,k2,k3,k5,hC,T⟩:=fN I.kIn M.ex
 have hl:sizeLine=16777216:=sizeLine_eq
 have go:∀h' e,Heap.MadeExcOf s.heap h' e (.ref C) [u]->s.heap.objs.size<=e->wpAny (model X.prog X.w) (X.A.under (.builtin "type.__call__" ⟨[.ref C,u],[]⟩)) (call (.ref f) [.ref e,u]) (λr s'=>r=.none/\Q (.ref e) s') X.xe { s with heap:=h' }:=by
  intro h' e hm hsz
  obtain⟨t0,he,_,_⟩:=hm.there
  have hn:H e=none:=I.hok.fresh hsz
  have I2:L2.Inv X pins σ (upd H e (.ext (ExO C e none))) { s with heap:=h' }:=I.laid (t':=s.toks) hm.keeps hsz (qU ⟨t0,he⟩)
  have hq:mI C fl [.ref e,.int i] (upd H e (.ext (ExO C e none))) (λv H'=>v=.non/\∃a,upd H e (.ext (ExO C e none)) a=none/\a≠e/\H'=upd (upd (upd H e (.ext (ExO C e none))) a (.xd [(fl,.int i)])) e (.ext (ExO C e (some a)))) E0 :=
   ⟨e,i,rfl,hx,aA,λd hd ne=>⟨rfl,d,hd,ne,rfl⟩⟩
  have r2:bx [V.ref e,.int i] [Value.ref e,u]:=.cons rfl (.cons r .nil)
  have e0:=I2.env0
  rw[hA] at e0
  have e0':Env0 X.prog X.w X.K X.mg X.base A0 X.stack { s with heap:=h' } (upd H e (.ext (ExO C e none))):=⟨e0.frames,e0.mod,e0.bs,e0.bsz,e0.funs,e0.frf,e0.hok,e0.bare⟩
  have run:=F (A0.under (.builtin "type.__call__" ⟨[.ref C,u],[]⟩)) hv X.stack _ _ ⟨[Value.ref e,u],[]⟩ [Value.ref e,u] _ _ (hr.make C [u] []) (e0'.make C [u] []) (hb _ [Value.ref e,u] I2.kIn (by rw[hlp];rfl)) r2 hq
  rw[hA]
  refine wpAny_call (codeAny_mono run λr s' hq'=>?_)
  cases r with
  | error e=>exact(show False from hq').elim
  | ok fl' =>
   cases fl' with
   | ret u' =>
    obtain⟨v,H',I3,rv,ev,a,ha,ne,rfl⟩:=I2.after hq'
    subst ev
    have ha':H a=none:=by rw[upd_ne ne] at ha;exact ha
    have I4:=XF.Inv.rem' (e:=e) I3 aA (λ_ z=>nomatch z) (λ_ _ z=>nomatch z) (λ_ z=>nomatch z) (λ_ z=>nomatch z)
    have eq:rem (upd (upd (upd H e (.ext (ExO C e none))) a (.xd [(fl,.int i)])) e (.ext (ExO C e (some a)))) e=upd H a (.xd [(fl,.int i)]):=by
     funext b
     by_cases hb:b=e
     ·rw[hb,j4,upd_ne (Ne.symm ne),hn]
     ·rw[mY hb,upd_ne hb]
      by_cases hb2:b=a
      ·rw[hb2,aA,aA]
      ·rw[upd_ne hb2,upd_ne hb2,upd_ne hb]
    rw[eq] at I4
    obtain⟨⟨t1,he1⟩,_,_⟩:=(show cy X.prog X.w _ s'.heap e (.ext (ExO C e (some a))) from I3.hok e _ aA)
    exact⟨rv,q e a t1 s' hsz ha' I4 he1 (by rw[upd_ne (Ne.symm ne)];exact hn)⟩
   | next=>exact False.elim hq'
   | brk=>exact False.elim hq'
   | cont=>exact False.elim hq'
 obtain⟨hp,g,d,t,os⟩:=s
 exact p8 PySem.F.excBase_ValueError T I.kIn hC M.init M.fn (by simp only[ω,Y6];omega) go
end
end XF
namespace XF
open PySem.W PySem.Calls PyProof.Rows L2
theorem oZ:entryFor table "proto.unchain" = some Builtin.«proto.unchain»:=entryFor_of_tree (by kernel_rfl)
section
variable{prog:Program}{w:World}{A:Around}{E:Value->Shared->Prop}{env:Env}
theorem oU{e ea a t:Addr}{c:Value}{oe:Obj}{vs:Array Value}{s:Shared}{Q:Flow->Shared->Prop}(hh:A.handled=some (.ref ea))(hne:ea≠e)(hea:s.heap.get? ea=some oe)(hd:oe.data=.fields vs)(h2:vs[2]?=some .none)
  (he:s.heap.get? e=some ⟨c,some a,.fields #[.ref t,.none,.none,.none,.bool true,.none],#[]⟩)
  (hE:E (.ref e) { s with heap:=s.heap.update e (Obj.mapFields (·.setIfInBounds 2 (.ref ea))) }):wpAny (model prog w) A (raiseNew (.ref e):Sem Flow) Q E s:=by
 unfold raiseNew
 refine wpAny_bind (wpAny_handled ?_)
 rw[hh]
 dsimp only
 rw[if_pos (show(Value.ref ea != Value.ref e)=true from by simp [hne])]
 refine wpAny_bind (wpAny_holding (wpAny_runValue (codeAny_builtin oZ ?_)))
 unfold Builtin.«proto.unchain»
 dsimp only
 refine wpAny_bind (wpAny_field hea hd h2 ?_)
 rw[if_pos (show(Value.none==Value.none)=true from rfl)]
 refine wpAny_bind (wpAny_pure (wpAny_pure ?_))
 show wpAny _ _ (setField (.ref e) 2 (.ref ea) >>= λ_=>throw (.ref e)) _ _ _
 exact wpAny_bind (wpAny_setField (x:=.ref ea) (i:=2) he rfl (by show 2<6;decide) (wpAny_throw hE))
variable{nm q:Str}{C N:Addr}{bs bm:List Value}{hdct:Bool}{sn:List Str}{sub:List Value}{ab:Bool}{col:Option Bool}{dd:Option Addr}{k0 k1 k2 k3 k5:Option Value}{newId:String}
theorem ud{s:Shared}{x c:Sem Value}{ea:Addr}{Q:Flow->Shared->Prop}(hbase:bm.contains (.type "BaseException")=true)(hh:A.handled=some (.ref ea))
  (hc:∀s1 (Q':Value->Shared->Prop),Q' .none s1->wpAny (model prog w) A c Q' E s1)
  (h:wpAny (model prog w) A x (λv s₁=>∃e a t oe vs,v=.ref e/\s₁.heap.get? C=some (excClassObj nm q C N bs bm hdct sn sub ab col dd k0 k1 k2 k3 k5 newId)/\s₁.heap.get? e=some ⟨.ref C,some a,.fields #[.ref t,.none,.none,.none,.bool false,.none],#[]⟩/\ea≠e/\C≠e /\
   s₁.heap.get? ea=some oe/\oe.data=.fields vs/\vs[2]?=some .none/\∀h',h'.get? e=some ⟨.ref C,some a,.fields #[.ref t,.none,.ref ea,.none,.bool true,.none],#[]⟩->(∀b,b≠e->h'.get? b=s₁.heap.get? b)->E (.ref e) { s₁ with heap:=h' }) E s) :
  wpAny (model prog w) A (raiseStmt env (some x) (some c)) Q E s:=by
 have hcB:(Value.ref C::bm).contains (.type "BaseException")=true:=by rw[List.contains_cons,hbase,Bool.or_true]
 unfold raiseStmt
 refine wpAny_bind (wpAny_mono h (λv s₁ h₁=>?_) λ_ _ x=>x)
 obtain⟨e,a,t,oe,vs,rfl,hC,he,hne,hCe,hea,hd,h2,hE⟩:=h₁
 obtain⟨hp,g,d,tk,os⟩:=s₁
 refine wpAny_bind (wpAny_holding (hc _ _ (wpAny_bind (wpAny_pure ?_))))
 dsimp only
 repeat (first | with_reducible refine wpAny_loadPart_at he ?_ | with_reducible refine wpAny_loadPart_at hC ?_ | (with_reducible refine wpAny_isSubtype_exc hC ?_;rw[hcB]) | wp_step)
 have he0:hp.get? e=some ⟨.ref C,some a,.fields #[.ref t,.none,.none,.none,.bool false,.none],#[]⟩:=he
 have e1:(hp.update e (Obj.mapFields λx=>x.setIfInBounds 3 Value.none)).get? e=some ⟨.ref C,some a,.fields #[.ref t,.none,.none,.none,.bool false,.none],#[]⟩:=Heap.get?_update_self (Obj.mapFields λx=>x.setIfInBounds 3 Value.none) he0 rfl
 have e2:((hp.update e (Obj.mapFields λx=>x.setIfInBounds 3 Value.none)).update e (Obj.mapFields λx=>x.setIfInBounds 4 (Value.bool true))).get? e=some ⟨.ref C,some a,.fields #[.ref t,.none,.none,.none,.bool true,.none],#[]⟩:=Heap.get?_update_self (Obj.mapFields λx=>x.setIfInBounds 4 (Value.bool true)) e1 rfl
 have ot:∀b,b≠e->((hp.update e (Obj.mapFields λx=>x.setIfInBounds 3 Value.none)).update e (Obj.mapFields λx=>x.setIfInBounds 4 (Value.bool true))).get? b=hp.get? b:=λb n=>by
  rw[Heap.get?_update_other _ _ (Ne.symm n),Heap.get?_update_other _ _ (Ne.symm n)]
 refine oU (a:=a) (t:=t) (c:=.ref C) hh hne ((ot ea hne).trans hea) hd h2 e2 (hE _ ?_ λb n=>?_)
 ·exact Heap.get?_update_self (Obj.mapFields λx=>x.setIfInBounds 2 (Value.ref ea)) e2 rfl
 ·show(Heap.update _ e _).get? b=hp.get? b
  rw[Heap.get?_update_other _ _ (Ne.symm n)]
  exact ot b n
theorem lY{s:Shared}{ex:Expr}{j:Nat}{p2 pos:Pos}{ea:Addr}{Q:Flow->Shared->Prop}(hbase:bm.contains (.type "BaseException")=true)(hh:A.handled=some (.ref ea))
  (h:wpAny (model prog w) A (eval ex env) (λv s₁=>∃e a t oe vs,v=.ref e/\s₁.heap.get? C=some (excClassObj nm q C N bs bm hdct sn sub ab col dd k0 k1 k2 k3 k5 newId)/\s₁.heap.get? e=some ⟨.ref C,some a,.fields #[.ref t,.none,.none,.none,.bool false,.none],#[]⟩/\ea≠e/\C≠e /\
   s₁.heap.get? ea=some oe/\oe.data=.fields vs/\vs[2]?=some .none/\∀h',h'.get? e=some ⟨.ref C,some a,.fields #[.ref t,.none,.ref ea,.none,.bool true,.none],#[]⟩->(∀b,b≠e->h'.get? b=s₁.heap.get? b)->E (.ref e) { s₁ with heap:=h' }) E s) :
  wpAny (model prog w) A (exec (.Raise (some ex) (some (.Constant .none j p2)) pos) env) Q E s:=by
 rw[arm_exec_Raise]
 simp only[evalOpt,Option.map]
 refine wpAny_bind (wpAny_standAt (ud (C:=C) (nm:=nm) (q:=q) (N:=N) (bs:=bs) (bm:=bm) (hdct:=hdct) (sn:=sn) (sub:=sub) (ab:=ab) (col:=col) (dd:=dd) (k0:=k0) (k1:=k1) (k2:=k2) (k3:=k3) (k5:=k5) (newId:=newId) hbase hh (λs1 Q' hq=>?_)
  (wpAny_bind (wpAny_mono h (λv s₃ h₃=>wpAny_bind (wpAny_standAt (wpAny_pure h₃))) λ_ _ x=>x))))
 exact wpAny_bind (Constant_none (wpAny_bind (wpAny_standAt (wpAny_pure hq))))
end
section
variable{X:Cx}
abbrev heldX(X:Cx)(pn:List (Addr×Obj))(e:Addr):Cx:={ X with A:=X.A.mark (some (.ref e)),calm:=false,pn:=pn }
theorem Inv.heldX{pins:List (Addr×Obj)}{σ:L2.St}{H:Hp}{s:Shared}{e:Addr}{oe:Obj}(I:L2.Inv X pins σ H s)(he:s.heap.get? e=some oe/\H e=none/\e≠X.env.locals/\e∉X.fs/\∀v,oe.data≠.cell v):L2.Inv (XF.heldX X (X.pn++pins++[(e,oe)]) e) [] σ H s :=
 ⟨⟨I.ok.mod,I.ok.kind,I.ok.glob,I.ok.blt,I.ok.above,I.ok.inj,I.ok.has,I.ok.cab,(λz=>nomatch z),I.ok.frames,I.ok.stk,I.ok.exf,I.ok.bs,I.ok.bsz,I.ok.noex,I.ok.exfs,I.ok.funs,I.ok.frf⟩,
  I.os,I.bare,I.base,I.loc,I.cell,I.free,I.freeC,λp hp=>by
   have hp:p∈(X.pn++pins++[(e,oe)])++[]:=hp
   rw[Λ] at hp
   rcases Z6.mp hp with hp | hp
   ·exact I.pin p hp
   ·rw[Ψ.mp hp];exact he,I.hok,I.len⟩
theorem Inv.unheldX{pn pins pins':List (Addr×Obj)}{σ:L2.St}{H:Hp}{s:Shared}{e:Addr}(hd:X.calm=true->X.A.handled=none)(hpn:∀p∈X.pn++pins,p∈pn)(I:L2.Inv (XF.heldX X pn e) pins' σ H s):L2.Inv X pins σ H s :=
 ⟨⟨I.ok.mod,I.ok.kind,I.ok.glob,I.ok.blt,I.ok.above,I.ok.inj,I.ok.has,I.ok.cab,hd,I.ok.frames,I.ok.stk,I.ok.exf,I.ok.bs,I.ok.bsz,I.ok.noex,I.ok.exfs,I.ok.funs,I.ok.frf⟩,
  I.os,I.bare,I.base,I.loc,I.cell,I.free,I.freeC,λp hp=>I.pin p (Z1 _ (hpn p hp)),I.hok,I.len⟩
theorem xf{k:Nat}{x fl:Str}{C f ea:Addr}{oe:Obj}{vs:Array Value}{pn:List (Addr×Obj)}{fd:FuncData}{ps:List Str}{Eh:Option Addr->Hp->Prop}{np cpos pos p2:Pos}{j:Nat}{e:Expr}{ta:TA}(hR:kY X C Eh)(M:XInit X.K C f)(F:FnH X.prog X.w X.K X.mg X.base k f fd ps (mI C fl))(hlp:ps.length=2)(hr:Room (k+1) X.A)(hb:L2.cY X.K fd ps [])
  (hpn:∀p∈X.pn,p∈pn) (hin:(ea,oe)∈pn) (hod:oe.data=.fields vs) (ho2:vs[2]?=some .none)
  (hg:Gl X x) (hm:X.mg x=some (.ref C)) (ha:PA (XF.heldX X pn ea) [e] ta) (hdb:(x==("__debug__" : Str))=false:=by decide)
  (he:starEach [e] X.env=(false,eval e X.env)::starEach [] X.env:=by rfl) :
  PS (XF.heldX X pn ea) (.Raise (some (.Call (.Name x np) [e] [] cpos)) (some (.Constant .none j p2)) pos) (λ_ σ H=>ta σ H λvs H1=>∃i,vs=[.int i]/\XI i/\∀a,H1 a=none->Eh (some a) (upd H1 a (.xd [(fl,.int i)]))):=by
 intro pins s σ H D I h
 obtain⟨bm,N,nm,qn,bs,hdct,sn,sub,ab,col,dd,k0,k1,k2,k3,k5,hC,T⟩:=fN I.ok.mod.kin M.ex
 have hhd:(XF.heldX X pn ea).A.handled=some (.ref ea):=rfl
 refine lY (C:=C) (nm:=nm) (q:=qn) (N:=N) (bs:=bs) (bm:=bm) (hdct:=hdct) (sn:=sn) (sub:=sub) (ab:=ab) (col:=col) (dd:=dd) (k0:=k0) (k1:=k1) (k2:=k2) (k3:=k3) (k5:=k5) (newId := "ValueError.__new__") (T.hasType PySem.F.excBase_ValueError.hasBase) hhd ?_
 refine wpAny_Call_Name_kw (d9 I hg hm ?_ hdb)
 refine U2 (h₀:=X.base) I.ok.mod.kin M.kp (thn (ha cpos pins s σ H _ I h) λus s1 ⟨vs',H1,I1,r,i,ev,hx,q⟩=>⟨I1.kIn,?_⟩) he rfl
 subst ev
 obtain⟨u,rfl,ru⟩:=fu r
 have J1:L2.Inv X [] σ H1 s1:=Inv.unheldX (λ_=>hr.hd) (λp hp=>hpn p (by simpa using hp)) I1
 refine xy (X:=XF.heldX X pn ea) (A0:=X.A) (hv:=.ref ea) rfl M F hlp hr hb I1 ru hx λe2 a t s2 hsz ha0 I2 hge hn=>?_
 have J2:L2.Inv X [] σ (upd H1 a (.xd [(fl,.int i)])) s2:=Inv.unheldX (λ_=>hr.hd) (λp hp=>hpn p (by simpa using hp)) I2
 have new:s1.heap.get? e2=none:=Heap.get?_none_of_le hsz
 have lt:∀{b:Addr} {o:Obj},s1.heap.get? b=some o->b≠e2:=λ{b o} z w=>by rw[w,new] at z;cases z
 have p1:=(I1.pin (ea,oe) (Z1 _ hin)).1
 have p2':=(I2.pin (ea,oe) (Z1 _ hin)).1
 refine⟨e2,a,t,oe,vs,rfl,I2.bk _ _ hC,hge,lt p1,lt (I1.bk _ _ hC),p2',hod,ho2,λh' z k=>?_⟩
 have ne:∀{b:Addr} {u:HO},upd H1 a (.xd [(fl,.int i)]) b=some u->b≠e2:=λz w=>by rw[w,hn] at z;cases z
 have J3:L2.Inv X [] σ (upd H1 a (.xd [(fl,.int i)])) { s2 with heap:=h' }:=J2.call' (ch:=[e2]) rfl
  ⟨λb o q _ _ hx=>(k b λw=>hx (w▸List.mem_singleton_self _)).trans q,λb o q _ _ hx=>⟨o.slots,(k b λw=>hx (w▸List.mem_singleton_self _)).trans q⟩,λb o q n _=>n,λb o q hx=>⟨o,(k b λw=>hx (w▸List.mem_singleton_self _)).trans q⟩,λb xs q=>q,λb o u q=>q,λb ps q=>⟨#[],by rw[Array.append_empty];exact q⟩⟩
  (λb o q=>(J2.hok b o q).stay (λc v hc r=>(k c (by
   rcases hc with rfl | hc
   ·exact ne q
   ·exact ne hc)).trans r) (λ_ r=>r) λ_ _ r=>r) J2.bare λb hb'=>by
   rw[Ψ.mp hb']
   refine⟨.inr (Y9 J1.sz hsz),?_,λy c q=>?_,λp hp=>?_⟩
   ·obtain⟨m,⟨o,_,_,ho,_⟩,_⟩:=J1.loc
    exact Ne.symm (lt ho)
   ·obtain⟨v,o,ho,_⟩:=J1.cell y c q
    exact lt ho
   ·exact lt (J1.pin p hp).1
 exact hR [] σ H1 _ s1 _ e2 t _ _ J1 new J3 z rfl rfl rfl rfl (λw=>nomatch w) hn (q a ha0)
end
end XF
namespace XF
open PySem.W PySem.Calls PyProof.Rows L2
section
variable{X:Cx}{E:XK}{e o:Expr}{es:List Expr}{pos apos:Pos}
def XP(X:Cx)(E:XK)(pins:List (Addr×Obj))(σ:L2.St):Value->Shared->Prop:=λx s'=>∃H1 s1,L2.Inv X pins σ H1 s1/\CXE X.prog X.w X.stack H1 s1 E x s'
def PEx(X:Cx)(E:XK)(e:Expr)(t:TE):Prop:=∀(pins:List (Addr×Obj)) (s:Shared) (σ:L2.St) (H:Hp) (Q:L2.VK),L2.Inv X pins σ H s->t σ H Q->wpAny (model X.prog X.w) X.A (eval e X.env) (L2.EP X pins σ Q) (XP X E pins σ) s
def PAx(X:Cx)(E:XK)(es:List Expr)(t:TA):Prop:=∀(pos:Pos) (pins:List (Addr×Obj)) (s:Shared) (σ:L2.St) (H:Hp) (Q:List V->Hp->Prop),L2.Inv X pins σ H s->t σ H Q ->
 wpAny (model X.prog X.w) X.A (spliced (backTo pos (starEach es X.env))) (λus s'=>∃xs H',L2.Inv X pins σ H' s'/\bx xs us/\Q xs H') (XP X E pins σ) s
theorem pex_of{t:TE}(h:PE X.nox e t):PEx X E e t:=λpins s σ H Q I hq =>
 wpAny_mono (h pins s σ H Q (I.wish _) hq) (λv s' ⟨x,H',I',r,q⟩=>⟨x,H',I'.unwish,r,q⟩) λ_ _ z=>(show False from z).elim
theorem BA:PAx X E [] tQ:=λ_ _ _ _ H Q I h=>Calls.spliced_nil ⟨[],H,I,.nil,h⟩
theorem zk{te:TE}{t:TA}(ha:PEx X E e te)(hr:PAx X E es t)(hs:starEach (e::es) X.env=(false,eval e X.env)::starEach es X.env:=by rfl):PAx X E (e::es) (jD te t):=by
 intro pos pins s σ H Q I h
 rw[hs]
 show wpAny _ _ (spliced ((false,eval e X.env)::backTo pos (starEach es X.env))) _ _ s
 refine Calls.spliced_cons (thn (ha pins s σ H _ I h) λu s1 ⟨x,H1,I1,r1,q1⟩=>?_)
 exact thn (hr pos pins s1 σ H1 _ I1 q1) λus s2 ⟨xs,H2,I2,r2,q2⟩=>⟨x::xs,H2,I2,.cons r1 r2,q2⟩
theorem Bs{x1}{t:TA}(h:PAx X E es t):PEx X E (.Tuple es x1 pos) (tTup t):=by
 intro pins s σ H Q I hq
 refine wpAny_Tuple_spliced (thn (h pos pins s σ H _ I hq) λus s1 ⟨xs,H1,I1,r,z,q⟩=>⟨by rw[<-r.length];exact z,?_⟩)
 have hf:H1 s1.heap.objs.size=none:=I1.hok.fresh (ο _)
 refine⟨.ref s1.heap.objs.size,upd H1 s1.heap.objs.size (.tup xs),I1.laid (t':=s1.toks) (λb u e=>Heap.get?_push_of_some _ e) (ο _) ?_,rfl,q _ hf⟩
 exact⟨z,us,r,⟨_,Heap.get?_push_size _ rfl,rfl,_,rfl⟩⟩
theorem yQ{pl:Sem Bool}{k:Nat}{C f:Addr}{m:Str}{fd:FuncData}{ps:List Str}{sp:Sp}{ta:TE}{t:TA}(he:PE X.nox o ta)(c:Cls X.K C)(hm:Meth X.K C m f)(F:FnOk X.prog X.w X.K X.mg X.base (CXE X.prog X.w) k f fd ps sp)(hr:Room k X.A)(hb:L2.cY X.K fd ps [])(ha:PA X.nox (e::es) t)
  (hst:starEach (e::es) X.env=(false,eval e X.env)::starEach es X.env:=by rfl) (hpl:(backTo pos (starEach es X.env)).any (·.1)=false:=by rfl)
  (ht:eval (.Call (.Attribute o m apos) (e::es) [] pos) X.env=(do
   let ov <- eval o X.env
   standAt apos.atName
   let (f,first) <- holding [ov] (getMethod ov m pl)
   callWith pos f first (backTo pos (starEach (e::es) X.env)) (backToKw pos (keywordEach [] X.env))):=by rfl) :
  PEx X E (.Call (.Attribute o m apos) (e::es) [] pos) (tMeth C m sp [] E ta t):=by
 intro pins s σ H Q I h
 refine PySem.W.methodCall_KW (pl:=pl) (wpAny_mono (he pins s σ H _ (I.wish _) h) (λu s1 ⟨x,H1,I1,rx,a,dx,fs,ex,ea,l,q⟩=>?_) λ_ _ z=>(show False from z).elim) ht
 subst ex
 obtain rfl:u=Value.ref a:=rx
 refine nL I1.unwish ea c hm l ?_
 refine U2 (first:=[.ref a]) (h₀:=X.base) I.ok.mod.kin hm.kp (wpAny_mono (ha pos pins s1 σ H1 _ I1 q) (λus s2 ⟨vs,H2,I2',r,q2⟩=>⟨I2'.kIn,?_⟩) λ_ _ z=>(show False from z).elim) hst hpl
 have I2:=I2'.unwish
 have r2:bx (V.ref a::(vs++[])) (Value.ref a::(us++[])):=.cons rfl (by rw[Λ,Λ];exact r)
 have hl:(Value.ref a::us++[]).length=ps.length:=by
  have:=r2.length
  rw[F.len _ _ _ _ q2] at this
  exact this.symm
 refine wpAny_call (codeAny_mono (F.run X.A X.stack s2 H2 ⟨Value.ref a::us,[]⟩ (Value.ref a::(us++[])) _ Q E hr I2.env0 (show BindsTo s2 fd ⟨Value.ref a::us,[]⟩ (ps.zip (Value.ref a::(us++[]))) from hb s2 (Value.ref a::us) I2.kIn hl) r2 q2) λr s' hq=>?_)
 cases r with
 | error e=>exact⟨H2,s2,I2,hq⟩
 | ok fl =>
  cases fl with
  | ret u=>exact I2.after hq
  | next=>exact False.elim hq
  | brk=>exact False.elim hq
  | cont=>exact False.elim hq
noncomputable def tCanX(X:Cx)(E:XK)(e:Expr):TE:=λσ H Q=>∃t,PEx X E e t/\t σ H Q
theorem Bt:PEx X E e (tCanX X E e):=λpins s σ H Q I ⟨_,p,h⟩=>p pins s σ H Q I h
noncomputable def tTryA(X:Cx)(C:Addr)(i:Nat)(e:Expr)(suite:List Stmt):TS:=λD σ H=>∃Ex:XK,
 tCanX X Ex e σ H (λv H1=>D.nx (σ.set i (some v)) H1) /\
 ∀c d H',Ex c d H'->c=.ref C/\d=none/\∀pn ea oe vs,(∀p∈X.pn,p∈pn)->(ea,oe)∈pn->oe.data=.fields vs->vs[2]?=some .none->wQ (heldX X pn ea) suite D σ H'
theorem ug{x n:Str}{C:Addr}{i:Nat}{e:Expr}{suite:List Stmt}{b0:Stmt}{np hp pos xp apos:Pos}(hK:ef X.K C VE "ValueError.__new__" = true)
  (hown:∀ea,PassesOwnAt (model X.prog X.w) (X.A.mark (some (.ref ea))) X.A X.env X.xe) (hcalm:X.calm=true)
  (hst:X.stack=X.env::X.outer) (hfr:X.env.frame=some X.env.locals) (hg:Gl X x) (hm:X.mg x=some (.ref C)) (hN:X.N.Nodup) (hi:X.N[i]?=some n) (hx:Loc X.env.scope n)
  (hs:swapsWith e (some (.Name n xp)) apos.line X.env=pure false:=by rfl) (hf:X.fn n=true\/X.env.scope.names.lookup n=some .local:=by first | exact .inl rfl | exact .inr rfl | assumption) (hd:(x==("__debug__" : Str))=false:=by decide) :
  PS X (.Try [.Assign [.Name n xp] e apos] [.ExceptHandler (some (.Name x np)) none (b0::suite) hp] [] [] pos) (tTryA X C i e (b0::suite)):=by
 intro pins s σ H D I ⟨Ex,hb,hsu⟩
 refine wpAny_Try_except ?_
 have hw:wpAny (model X.prog X.w) X.A (execs [.Assign [.Name n xp] e apos] X.env) (λf s'=>f=.next/\∃σ' H',L2.Inv X pins σ' H' s'/\D.nx σ' H') (XP X Ex pins σ) s:=by
  refine wpAny_execs_cons (wpAny_Assign_Name (wpAny_mono (Bt pins s σ H _ I hb) (λv s1 ⟨y,H1,I1,r1,q1⟩=>?_) λ_ _ z=>z) hs)
  exact iH I1 hN hi hx r1 (λs2 I2=>wpAny_execs_nil ⟨rfl,_,H1,I2,q1⟩) hf
 refine wpAny_mono hw (λf s1 h1=>?_) (λe s1 h1=>?_)
 ·obtain⟨rfl,σ',H',I',q⟩:=h1
  exact wpAny_execs_nil (show SP X pins D .next s1 from⟨σ',H',I',q⟩)
 ·obtain⟨H1,s0,I0,ea,C',t,dx,H',B0,rfl,F⟩:=h1
  obtain⟨hc,hdn,hsuite⟩:=hsu _ _ _ F.wish
  cases hc
  subst hdn
  obtain⟨flv,fl⟩:=F.fl
  rw[hst] at fl
  refine nw (I.ok.frames.trans (by rw[hst])) hfr fl F.dict λh4 hheld4 dd4 hsm4=>?_
  refine pI (s:={ s1 with heap:=h4 }) hheld4 dd4 λh5 hheld5 dd5 hsm5=>?_
  have key:∀{h6:Heap},jB B0 (X.env::X.outer) ea (.ref C) (.ref t) .none h6->dI h6 ea none->s1.heap.UpToSlots h6->∃oe vs,oe.cls=.ref C/\h6.get? ea=some oe/\oe.data=.fields vs/\vs[2]?=some .none/\L2.Inv (heldX X (X.pn++pins++[(ea,oe)]) ea) [] σ H' { s1 with heap:=h6 }:=by
   intro h6 hfl6 dd6 hsm6
   have I6:=uP I0 F hfl6.1 hsm6
   obtain⟨oe,vs,hoe,hoec,hoed,_⟩:=hfl6.first
   obtain⟨o2,vs2,q2,_,q4,q5⟩:=dd6
   rw[hoe] at q2;cases q2
   rw[hoed] at q4;cases q4
   refine⟨oe,vs,hoec,hoe,hoed,q5 rfl,Inv.heldX I6 ⟨hoe,?_,?_,?_,λv z=>by rw[hoed] at z;cases z⟩⟩
   ·cases e:H' ea with
    | none=>rfl
    | some o =>
     obtain⟨ob,q⟩:=F.trk _ _ e
     rw[hfl6.2.1] at q;cases q
   ·rintro rfl
    obtain⟨m,⟨o',es,ep,ho',hd',_⟩,_⟩:=I6.loc
    have ho':h6.get? X.env.locals=some o':=ho'
    rw[hoe] at ho';cases ho';rw[hoed] at hd';cases hd'
   ·intro hb'
    obtain⟨_,o',ho',hd'⟩:=I6.funs.mem hb'
    have ho':h6.get? ea=some o':=ho'
    rw[hoe] at ho';cases ho'
    exact hd' _ hoed
  obtain⟨ob,_,hobc,hob,_,_,I5⟩:=key hheld5 dd5 (hsm4.trans hsm5)
  obtain⟨tl,N,nm,q,bs,hdct,sn,sub,ab,col,dd,k0,k1,k2,k3,k5,hC,T⟩:=fN I.ok.mod.kin hK
  refine wpAny_handleBy_cons (codeAny_handlers_test (d9 I5 hg hm ?_ hd)) (by intro q;cases q)
  refine wpAny_excMatches_sub_self (I5.bk _ _ hC) hob hobc (T.hasType PySem.F.excBase_ValueError.hasBase) (codeAny_handlers_suite ?_)
  refine pI (s:={ s1 with heap:=h5 }) hheld5 dd5 λh6 hfl6 dd6 hsm6=>?_
  obtain⟨oe,vs,hoec,hoe,hoed,ho2,I6⟩:=key hfl6 dd6 ((hsm4.trans hsm5).trans hsm6)
  refine wpAny_mono (ka [] _ _ H' D I6 (hsuite _ ea oe vs (λp hp=>by simp [hp]) (by simp) hoed ho2)) (λf s10 z=>?_) (λx s' z=>hown ea x s' z)
  have un:∀{σ':L2.St} {H2:Hp},L2.Inv (heldX X (X.pn++pins++[(ea,oe)]) ea) [] σ' H2 s10->L2.Inv X pins σ' H2 s10:=λJ=>Inv.unheldX I.ok.hd (λp hp=>Z1 _ hp) J
  cases f with
  | next=>obtain⟨σ',H2,J,q⟩:=z;exact⟨σ',H2,un J,q⟩
  | brk=>obtain⟨σ',H2,J,q⟩:=z;exact⟨σ',H2,un J,q⟩
  | cont=>obtain⟨σ',H2,J,q⟩:=z;exact⟨σ',H2,un J,q⟩
  | ret u=>obtain⟨v,σ',H2,J,r,q⟩:=z;exact⟨v,σ',H2,un J,r,q⟩
end
end XF
namespace DL
open PyProof.Rows L2
def PDx(X:Cx)(E:XK)(e:Expr)(f:DS->M D):Prop :=
 ∃t,XF.PEx X E e t/\∀{Hr:Hp} (δ:DS) (O:List Addr) (σ:St) (H:Hp) (Q:VK),Ev X.K Hr O H σ δ->ok (GS (GX X.mg E) Hr) (f δ) (λd=>∀v H',aJ H H'->Rep X.K O H' v d->Q v H')->t σ H Q
def Cw(X:Cx)(E:XK)(es:List Expr)(f:DS->M (List D)):Prop :=
 (∀δ ds,f δ=some (.ok ds)->ds.length=es.length)/\∃t,XF.PAx X E es t/\∀{Hr:Hp} (δ:DS) (O:List Addr) (σ:St) (H:Hp) (Q:List V->Hp->Prop),Ev X.K Hr O H σ δ->ok (GS (GX X.mg E) Hr) (f δ) (λds=>∀vs H',aJ H H'->Reps X.K O H' vs ds->Q vs H')->t σ H Q
section
variable{X:Cx}{E:XK}{e o:Expr}{es:List Expr}{f g:DS->M D}{fa:DS->M (List D)}{pos apos:Pos}
theorem y9(h:PD X.nox (λ_ _=>False) e f):PDx X E e (nX f):=by
 obtain⟨t,p,h⟩:=h
 exact⟨t,XF.pex_of p,λδ O σ H Q E0 k=>h δ O σ H Q E0 (ut (vO k))⟩
theorem zf:Cw X E [] az:=⟨λδ ds h=>by cases h;rfl,_,XF.BA,λδ O σ H Q E0 k=>k [] H (aJ.refl H) .nil⟩
theorem jg(ha:PDx X E e f)(hr:Cw X E es fa)(hs:starEach (e::es) X.env=(false,eval e X.env)::starEach es X.env:=by rfl):Cw X E (e::es) (ai f fa):=by
 obtain⟨t,p,ha⟩:=ha
 obtain⟨hl,u,q,hr⟩:=hr
 refine⟨λδ ds h=>?_,_,XF.zk p q hs,λδ O σ H Q E0 k=>?_⟩
 ·unfold ai at h
  match e1:f δ,h with
  | some (.ok x),h =>
   match e2:fa δ,h with
   | some (.ok xs),h =>
    rw[jW,jW] at h
    cases h
    rw[ω,ω,hl δ xs e2]
 ·refine ha δ O σ H _ E0 (aq (ay k) λd z v H1 s1 r=>?_)
  exact hr δ O σ H1 _ (E0.same s1) (aq (ay z) λds y vs H2 s2 rs=>y (v::vs) H2 (s1.trans s2) (.cons (r.same s2) rs))
theorem Bv{x1}(h:Cw X E es fa):PDx X E (.Tuple es x1 pos) (oi fa):=by
 obtain⟨_,t,p,h⟩:=h
 refine⟨_,XF.Bs p,λδ O σ H Q E0 k=>?_⟩
 refine h δ O σ H _ E0 (aq (ay k) λds z vs H1 s1 rs=>?_)
 by_cases hz:aN ds.length=true
 ·rw[if_pos hz] at z
  exact⟨by rw[rs.length];exact bj hz,λp hp=>z _ _ (s1.trans (bn hp)) (fH hp rs)⟩
 ·rw[if_neg hz] at z
  exact z.elim
theorem sk{pl:Sem Bool}{k n:Nat}{nm m:Str}{F:List D->M D}(h:DefMX X.prog X.w X.K X.mg X.base k nm m n F)(hr:Room k X.A)(hn:(e::es).length+1=n)(ho:PD X.nox (λ_ _=>False) o f)(ha:PDA X.nox (λ_ _=>False) (e::es) fa)
  (hst:starEach (e::es) X.env=(false,eval e X.env)::starEach es X.env:=by rfl) (hpl:(backTo pos (starEach es X.env)).any (·.1)=false:=by rfl)
  (ht:eval (.Call (.Attribute o m apos) (e::es) [] pos) X.env=(do
   let ov <- eval o X.env
   standAt apos.atName
   let (f,first) <- holding [ov] (getMethod ov m pl)
   callWith pos f first (backTo pos (starEach (e::es) X.env)) (backToKw pos (keywordEach [] X.env))):=by rfl) :
  PDx X E (.Call (.Attribute o m apos) (e::es) [] pos) (dMe nm m F (nX f) (λδ=>noX (fa δ))):=by
 obtain⟨C,f0,fd,ps,hN,c,hm,F1,hb⟩:=h.ex
 obtain⟨t,p,ho⟩:=ho
 obtain⟨hl,ta,pa,ha⟩:=ha
 refine⟨_,XF.yQ (pl:=pl) p c hm F1 hr hb pa hst hpl ht,@λHr δ O σ H Q E0 k=>?_⟩
 refine ho δ O σ H _ E0 (ut (aq (vO (ay k)) λx z v H1 s1 rx=>?_))
 cases hat:oC nm x with
 | none=>rw[hat] at z;exact z.elim
 | some r =>
  rw[hat] at z
  have z1:ok _ (if iU m r=true then (noX (fa δ)).thn λds=>F (x::ds) else none) _:=z
  clear z
  by_cases hf:iU m r=true
  ·rw[if_pos hf] at z1
   obtain⟨a,C',dx,fs,es',rfl,rfl,hN',h1,hn1,hk,rr⟩:=qe rx hat
   have hC:C'=C:=by
    have:=hN'.symm.trans hN
    simp at this
    exact this
   subst hC
   refine⟨a,dx,fs,rfl,h1,jK hk hf,?_⟩
   have k1:=jI (ay z1)
   refine ha δ O σ H1 _ (E0.same s1) ?_
   cases e1:fa δ with
   | none=>rw[e1] at k1;exact k1.elim
   | some r =>
    rw[e1] at k1
    cases r with
    | error y=>exact k1.elim
    | ok ds =>
     refine λvs H2 s2 rs=>?_
     refine⟨O,_::ds,?_,((E0.same s1).same s2).oo,.cons (rx.same s2) (by rw[Λ];exact rs),kl (aq k1 λd z v H3 s3 r=>z v H3 ((s1.trans s2).trans s3) r) λy q H3 s3=>q H3 (((E0.same s1).same s2).root.trans s3)⟩
     rw[Λ,ω,rs.length,hl δ ds e1]
     exact hn
  ·rw[if_neg hf] at z1;exact z1.elim
end
structure XDefH(P:Program)(w:World)(K:ε)(mg:Str->Option Value)(base:Heap)(k:Nat)(x fl:Str)(C:Addr):Prop where
 ok:∃(f:Addr) (fd:FuncData) (ps:List Str),XF.XInit K C f/\FnOk P w K mg base CX0 k f fd ps (XF.mI C fl)/\XF.FnH P w K mg base k f fd ps (XF.mI C fl)/\ps.length=2/\L2.cY K fd ps []
theorem XDefH.x{P:Program}{w:World}{K:ε}{mg:Str->Option Value}{base:Heap}{k:Nat}{x fl:Str}{C:Addr}(h:XDefH P w K mg base k x fl C):XDef P w K mg base k x fl C:=by
 obtain⟨f,fd,ps,a,b,_,_,c⟩:=h.ok
 exact⟨f,fd,ps,a,b,c⟩
noncomputable def nM(x:Str)(i:Nat)(f:DS->M D)(gs:DS->M Out):DS->M Out:=λδ=>match f δ with
 | none=>none
 | some (.ok d)=>M.ret (.nx (δ.set i (.vl d)))
 | some (.error y)=>match y.flds with
  | []=>if y.cls=x then gs δ else none
  | _=>none
section
variable{X:Cx}{G:XD->Hp->Prop}{e:Expr}{fa:DS->M (List D)}{f:DS->M D}{pos:Pos}
theorem xl{k:Nat}{x fl:Str}{C ea:Addr}{oe:Obj}{vs:Array Value}{pn:List (Addr×Obj)}{np cpos p2:Pos}{j:Nat}{E:XK}(h:XDefH X.prog X.w X.K X.mg X.base k x fl C)(hR:XF.kY X C (λd H=>E (.ref C) d H))(hG:∀x H,G x H->GX X.mg E x H)(hr:Room (k+1) X.A)
  (hpn:∀p∈X.pn,p∈pn) (hin:(ea,oe)∈pn) (hod:oe.data=.fields vs) (ho2:vs[2]?=some .none)
  (hg:Gl X x) (hm:X.mg x=some (.ref C)) (ha:PDA (XF.heldX X pn ea) G [e] fa) (hdb:(x==("__debug__" : Str))=false:=by decide)
  (he:starEach [e] X.env=(false,eval e X.env)::starEach [] X.env:=by rfl) :
  PDS (XF.heldX X pn ea) G (.Raise (some (.Call (.Name x np) [e] [] cpos)) (some (.Constant .none j p2)) pos) (dP x fl fa):=by
 obtain⟨f,fd,ps,M1,_,FH,hlp,hb⟩:=h.ok
 obtain⟨_,t,pa,ha⟩:=ha
 refine⟨_,XF.xf hR M1 FH hlp hr hb hpn hin hod ho2 hg hm pa hdb he,@λHr R0 P0 H0 δ O σ H Dn E1 k=>?_⟩
 refine ha δ O σ H _ E1.ev (aq (ay k) λds z vs H1 s1 rs=>?_)
 match ds,z,rs with
 | [.int i],z,rs =>
  by_cases hz:km i=true
  ·have z:ok (GS G Hr) (if km i=true then some (.error ⟨x,[(fl,.int i)]⟩) else none) (Fin X.K Hr R0 P0 H0 Dn):=z
   rw[if_pos hz] at z
   obtain⟨v,rfl,rv⟩:=d8 rs
   cases rv
   exact⟨i,rfl,sy hz,λa ha=>hG _ _ (z H1 (E1.ev.root.trans s1)) C hm a ha⟩
  ·have z:ok (GS G Hr) (if km i=true then some (.error ⟨x,[(fl,.int i)]⟩) else none) (Fin X.K Hr R0 P0 H0 Dn):=z
   rw[if_neg hz] at z
   exact z.elim
 | [],z,_=>exact z.elim
 | [.none],z,_=>exact z.elim
 | [.bool _],z,_=>exact z.elim
 | [.str _],z,_=>exact z.elim
 | [.list _],z,_=>exact z.elim
 | [.tuple _],z,_=>exact z.elim
 | [.dict _],z,_=>exact z.elim
 | d1::d2::r,z,_=>cases d1<;>exact z.elim
theorem um{x n:Str}{C:Addr}{i:Nat}{suite:List Stmt}{b0:Stmt}{np hp xp apos:Pos}{gs:DS->M Out}(hK:XF.ef X.K C XF.VE "ValueError.__new__" = true)
  (hown:∀ea,PassesOwnAt (model X.prog X.w) (X.A.mark (some (.ref ea))) X.A X.env X.xe) (hcalm:X.calm=true)
  (hst:X.stack=X.env::X.outer) (hfr:X.env.frame=some X.env.locals) (hg:Gl X x) (hm:X.mg x=some (.ref C)) (hN:X.N.Nodup) (hi:X.N[i]?=some n) (hx:Loc X.env.scope n)
  (he:∀E,PDx X E e f) (hsu:∀pn ea oe vs,(∀p∈X.pn,p∈pn)->(ea,oe)∈pn->oe.data=.fields vs->vs[2]?=some .none->jA (XF.heldX X pn ea) G (b0::suite) gs)
  (hs:swapsWith e (some (.Name n xp)) apos.line X.env=pure false:=by rfl) (hf:X.fn n=true\/X.env.scope.names.lookup n=some .local:=by first | exact .inl rfl | exact .inr rfl | assumption) (hd:(x==("__debug__" : Str))=false:=by decide) :
  PDS X G (.Try [.Assign [.Name n xp] e apos] [.ExceptHandler (some (.Name x np)) none (b0::suite) hp] [] [] pos) (nM x i f gs):=by
 refine⟨_,XF.ug hK hown hcalm hst hfr hg hm hN hi hx hs hf hd,@λHr R0 P0 H0 δ O σ H Dn E1 k=>?_⟩
 unfold nM at k
 cases e1:f δ with
 | none=>rw[e1] at k;exact k.elim
 | some r =>
  rw[e1] at k
  cases r with
  | ok d =>
   obtain⟨t,p,h⟩:=he E0
   refine⟨E0,⟨t,p,h δ O σ H _ E1.ev ?_⟩,λc d H' z=>z.elim⟩
   rw[e1]
   exact λv H1 s1 r=>k O _ H1 ((E1.same s1).set r)
  | error y =>
   obtain⟨yc,yf⟩:=y
   match yf,k,e1 with
   | [],k,e1 =>
    have k2:ok (GS G Hr) (if yc=x then gs δ else none) (Fin X.K Hr R0 P0 H0 Dn):=k
    clear k
    have Er:Ev X.K H O H σ δ:=⟨aJ.refl H,E1.ev.oo,E1.ev.len,E1.ev.at_,E1.ev.dis⟩
    by_cases hy:yc=x
    ·rw[if_pos hy] at k2
     subst hy
     obtain⟨t,p,h⟩:=he (λc d H'=>c=.ref C/\d=none/\aJ H H')
     refine⟨_,⟨t,p,h δ O σ H _ Er ?_⟩,λc d H' z=>⟨z.1,z.2.1,λpn ea oe vs i1 i2 i3 i4=>?_⟩⟩
     ·rw[e1]
      intro H' s C' hC'
      rw[hm] at hC'
      exact⟨Option.some.inj hC'.symm▸rfl,rfl,s⟩
     ·obtain⟨t2,p2,hB⟩:=hsu pn ea oe vs i1 i2 i3 i4
      exact⟨t2,p2,hB R0 P0 H0 δ O σ H' Dn (E1.same z.2.2) k2⟩
    ·rw[if_neg hy] at k2
     exact k2.elim
   | _::_,k,e1=>exact(show False from k).elim
end
section
variable{δ:DS}{x:Str}{i:Nat}{f:DS->M D}{gs:DS->M Out}{d:D}{r:M Out}
theorem uS(h:f δ=M.ret d):nM x i f gs δ=M.ret (.nx (δ.set i (.vl d))):=by unfold nM;rw[h];rfl
end
end DL
namespace L2
open PyProof.Rows PySem.Builtin PySem.Builtin.Str
section
variable{X:Cx}
end
end L2
namespace DL
open PyProof.Rows L2
section
variable{X:Cx}
end
end DL
namespace SL
open PyProof.Rows L2 DL
section
variable{K:ε}{mg:Str->Option Value}{A:An}{R0 O O':List Addr}{α:List (Option Addr)}{H:Hp}{μ:Sto}
theorem SR.newO(S:SR K mg R0 O α H μ){l:Addr}{o:HO}{ob:Ob}(hl:H l=none)(hm:Mu (upd H l o) l)(r:l∉R0->OR K mg R0 (l::O) (α++[some l]) (upd H l o) l ob):SR K mg R0 (l::O) (α++[some l]) (upd H l o) (μ++[ob]):=by
 have T:To O (l::O) H (upd H l o):=To.own hl
 have e:∀(k:Nat) (a:Addr),α[k]?=some (some a)->(α++[some l])[k]?=some (some a):=λk a h=>by
  rw[X9 (Z4.mp h).1];exact h
 have cs:∀(k:Nat) (a:Addr),(α++[some l])[k]?=some (some a)->α[k]?=some (some a)\/(k=α.length/\a=l):=λk a h=>by
  by_cases hk:k<α.length
  ·rw[X9 hk] at h;exact .inl h
  ·rw[Z8 (by omega)] at h
   have h0:k-α.length=0:=by
    have:=(Z4.mp h).1
    simp at this
    omega
   rw[h0] at h
   simp at h
   exact .inr ⟨by omega,h.symm⟩
 have ne:∀(k:Nat) (a:Addr),α[k]?=some (some a)->a≠l:=λk a h z=>by
  obtain⟨o,h3,_⟩:=S.tracked h
  rw[z,hl] at h3;cases h3
 refine⟨by rw[ζ,ζ,S.len];rfl,λi j a h1 h2=>?_,λb hb=>?_,λb hb=>ρ _ (S.sub b hb),λk a h=>?_⟩
 ·rcases cs i a h1 with h1 | ⟨h1,z⟩<;>rcases cs j a h2 with h2 | ⟨h2,z2⟩
  ·exact S.nd i j a h1 h2
  ·exact absurd z2 (ne i a h1)
  ·exact absurd z (ne j a h2)
  ·omega
 ·rcases Δ.mp hb with rfl | hb
  ·exact hm
  ·exact(S.oo b hb).new hl
 ·rcases cs k a h with h | ⟨rfl,rfl⟩
  ·obtain⟨ob,h1,h2⟩:=S.at_ k a h
   exact⟨ob,by rw[X9 (Z4.mp h1).1];exact h1,h2.to T e (λz=>ρ _ z) (upd_ne (ne k a h))⟩
  ·refine⟨ob,by rw[S.len,Z8 (ο _),Nat.sub_self];rfl,r λz=>?_⟩
   obtain⟨o,ho⟩:=(S.oo a (S.sub a z)).some
   rw[hl] at ho;cases ho
theorem SR.setO(S:SR K mg R0 O α H μ){k:Nat}{a:Addr}{o:HO}{ob0 ob:Ob}(h:α[k]?=some (some a))(hk:μ[k]?=some ob0)(T:To O O H (upd H a o))(hm:Mu (upd H a o) a)(r:OR K mg R0 O α (upd H a o) a ob):SR K mg R0 O α (upd H a o) (μ.set k ob):=by
 refine⟨by rw[Y3];exact S.len,S.nd,λl hl=>?_,S.sub,λj b hj=>?_⟩
 ·by_cases e:l=a
  ·subst e;exact hm
  ·exact(S.oo l hl).upd_ne e
 ·by_cases e:j=k
  ·subst e
   rw[h] at hj
   cases hj
   exact⟨ob,by rw[bH,if_pos rfl,if_pos (Z4.mp hk).1],r⟩
  ·obtain⟨ob,g1,g2⟩:=S.at_ j b hj
   have hb:b≠a:=λz=>e (S.nd j k a (z▸hj) h)
   exact⟨ob,by rw[bH,if_neg (λz=>e z.symm)];exact g1,g2.to T (λ_ _ h=>h) (λz=>z) (upd_ne hb)⟩
noncomputable def uf(es:List (Key×Val))(k:Key)(d:Val):List (Key×Val) :=
 if (es.any λe=>decide (e.1=k))=true then es.map (λe=>if e.1=k then (e.1,d) else e) else es++[(k,d)]
theorem put_vr{kvs:List (Key×V)}{es:List (Key×Val)}{k:Key}{v:V}{d:Val}(hk:kvs.map (·.1)=es.map (·.1))(r:VRs K O α H (kvs.map (·.2)) (es.map (·.2)))(rv:VR K O α H v d) :
  (j8 kvs k v).map (·.1)=(uf es k d).map (·.1)/\VRs K O α H ((j8 kvs k v).map (·.2)) ((uf es k d).map (·.2)):=by
 unfold j8 uf
 rw[oE k hk]
 by_cases c:(es.any λe=>decide (e.1=k))=true
 ·rw[if_pos c,if_pos c]
  clear c
  induction kvs generalizing es with
  | nil=>cases es with
   | nil=>exact⟨rfl,.nil⟩
   | cons e es=>cases hk
  | cons p kvs ih=>cases es with
   | nil=>cases hk
   | cons e es =>
    simp only[Z2,List.cons.injEq] at hk
    rw[Z2,Z2] at r
    cases r with
    | cons r1 rs =>
     obtain⟨i1,i2⟩:=ih hk.2 rs
     simp only[Z2]
     by_cases c:e.1=k
     ·rw[if_pos c,if_pos (by rw[hk.1];exact c)]
      exact⟨by rw[i1];simp [hk.1],.cons rv i2⟩
     ·rw[if_neg c,if_neg (by rw[hk.1];exact c)]
      exact⟨by rw[i1];simp [hk.1],.cons r1 i2⟩
 ·rw[if_neg c,if_neg c,X0,X0,X0,X0,hk]
  exact⟨rfl,r.append (.cons rv .nil)⟩
end
section
variable{X:Cx}{G:XD->Hp->Prop}{a b o e ix:Expr}{es rest:List Expr}{pos pos' lp tpos:Pos}{fo fi f:ar->Sto->R (Val×Sto)}
noncomputable def lH(fo fi f:ar->Sto->R (Val×Sto)):SG:=λ_ δ μ=>(f δ μ).thn λr=>(fo δ r.2).thn λp=>match p.1 with
 | .h k=>(fi δ p.2).thn λq=>match q.1 with
  | .d y=>match iz y,q.2[k]? with
   | some kk,some (.dct es)=>if es.length<1000000 then R.ret (.nx δ (q.2.set k (.dct (uf es kk r.1)))) else none
   | _,_=>none
  | _=>none
 | _=>none
theorem vA(hu:X.A.units+1<cLine)(ho:SX X G o fo)(hi:SX X G ix fi)(he:SX X G e f)(hs:swapsWith e (some (.Subscript o ix pos')) pos.line X.env=pure false:=by rfl):SS X G (.Assign [.Subscript o ix pos'] e pos) (lH fo fi f):=by
 obtain⟨t,p,he⟩:=he
 obtain⟨u,q,hi⟩:=hi
 obtain⟨w,pw,ho⟩:=ho
 refine⟨_,Bm hu pw q p hs,λA δ μ O α σ H Dn E k=>?_⟩
 refine he A δ μ O α σ H _ E (aD (bG (aI k) λx μ h=>Er.go E.st h) λr z v O1 α1 H1 T1 S1 r1=>?_)
 have E1:=E.go T1 S1
 refine ho A δ r.2 O1 α1 σ H1 _ E1 (aD (bG (aI z) λx μ h=>Er.go E1.st h) λpp y ov O2 α2 H2 T2 S2 r2=>?_)
 have E2:=E1.go T2 S2
 obtain⟨pv,pμ⟩:=pp
 match pv,y,r2 with
 | .h kk,y,r2 =>
  obtain⟨l,q3,rfl⟩:=r2.hinv
  refine hi A δ pμ O2 α2 σ H2 _ E2 (aD (bG (aI y) λx μ h=>Er.go E2.st h) λqq y kv O3 α3 H3 T3 S3 r3=>?_)
  obtain⟨qv,qμ⟩:=qq
  match qv,y,r3 with
  | .d yd,y,r3 =>
   dsimp only at y
   split at y
   ·rename_i ky es hq hk
    have q3':=T3.ex _ _ q3
    obtain⟨ob,g1,g2⟩:=S3.at_ kk l q3'
    rw[hk] at g1
    cases g1
    obtain⟨g3,g4,kvs,g5,g6,g7⟩:=g2
    by_cases hl:es.length<1000000
    ·rw[if_pos hl] at y
     have r1':=(r1.to (T2.to S1) T2.ex).to (T3.to S2) T3.ex
     obtain⟨p1,p2⟩:=put_vr (k:=ky) g6 g7 r1'
     have hlen:kvs.length=es.length:=by
      have:=congrArg List.length g6
      rwa[ι,ι] at this
     have T4:To O3 O3 H3 (upd H3 l (.dK (j8 kvs ky v))):=To.setD g5 g3
     refine⟨l,_,rfl,.inl ⟨kvs,ky,g5,nA hq r3.dinv,by rw[hlen,sizeLine_eq];omega,rfl⟩,?_⟩
     exact y O3 α3 σ _ ((E2.go T3 S3).go (Go.setL q3') (S3.setO q3' hk T4 (Mu.dct aA) ⟨g3,g4,_,aA,p1,p2.to T4 λ_ _ h=>h⟩)) (T1.trans (T2.trans (T3.trans (Go.setL q3'))))
    ·rw[if_neg hl] at y;exact y.elim
   ·exact y.elim
theorem wm{n:Nat}{δ:ar}{μ μ1 μ2 μ3:Sto}{v:Val}{k:Nat}{y:D}{kk:Key}{es:List (Key×Val)}(h1:f δ μ=R.ret (v,μ1))(h2:fo δ μ1=R.ret (.h k,μ2))(h3:fi δ μ2=R.ret (.d y,μ3))(hy:iz y=some kk)(h4:μ3[k]?=some (.dct es))(h5:es.length<1000000):lH fo fi f n δ μ=R.ret (.nx δ (μ3.set k (.dct (uf es kk v)))):=by
 unfold lH
 rw[h1,bf,h2,bf]
 dsimp only
 rw[h3,bf]
 dsimp only
 rw[hy,h4]
 dsimp only
 rw[if_pos h5]
noncomputable def r8:ar->Sto->R (Val×Sto):=λ_ μ=>R.ret (.h μ.length,μ++[.dct []])
theorem qg:SX X G (.Dict [] [] lp) r8:=by
 refine⟨_,yY,λA δ μ O α σ H Q E k p hp=>?_⟩
 have k:∀v O' α' H',Go O α H O' α' H'->SR X.K X.mg A.R0 O' α' H' (μ++[.dct []])->VR X.K O' α' H' v (.h μ.length)->Q v H':=k
 exact k _ _ _ _ (Go.newL hp) (E.sr.newO hp (Mu.dct aA) λz=>⟨υ,z,[],aA,rfl,.nil⟩) (.h E.sr.at_new)
end
section
variable{X:Cx}{G:XD->Hp->Prop}{a b e:Expr}{rest:List Expr}{pos:Pos}
noncomputable def sBl(f:ar->Sto->R (Val×Sto)):ar->Sto->R (Bool×Sto):=λδ μ=>(f δ μ).thn λr=>match r.1 with
 | .d (.bool b)=>R.ret (b,r.2)
 | _=>none
theorem ym{f:ar->Sto->R (Val×Sto)}(h:SX X G e f)(h1:∀whole,isTrue e X.env whole=(do let v <- whole;standAt e.pos;holding [v] (truthy v)):=by intro _;rfl):ST X G e (sBl f):=by
 obtain⟨t,p,h⟩:=h
 refine⟨_,yH p h1,λA δ μ O α σ H Q E k=>?_⟩
 refine h A δ μ O α σ H _ E (aD (aI k) λr z v O1 α1 H1 T1 S1 r1=>?_)
 obtain⟨p1,p2⟩:=r
 match p1,z,r1 with
 | .d (.bool c),z,r1=>exact⟨c,r1.dinv.bool_inv,z O1 α1 H1 T1 S1⟩
theorem Av{f:ar->Sto->R (Val×Sto)}{δ:ar}{μ μ':Sto}{b:Bool}(h:f δ μ=R.ret (.d (.bool b),μ')):sBl f δ μ=R.ret (b,μ'):=by
 unfold sBl;rw[h];rfl
def SW(X:Cx)(G:XD->Hp->Prop)(e:Expr)(f:ar->Sto->R (Bool×Sto)):Prop :=
 ∃t,PW X e t/\∀(A:An) (δ:ar) (μ:Sto) (O:List Addr) (α:List (Option Addr)) (σ:L2.St) (H:Hp) (Q:Bool->Hp->Prop),SEv X.K X.mg A O α H σ δ μ->okR (Er X.K X.mg G A.R0 O α H) (f δ μ) (λr=>∀O' α' H',Go O α H O' α' H'->SR X.K X.mg A.R0 O' α' H' r.2->Q r.1 H')->t σ H Q
noncomputable def Be(fa fb:ar->Sto->R (Bool×Sto)):ar->Sto->R (Bool×Sto):=λδ μ=>(fa δ μ).thn λr=>if r.1=true then fb δ r.2 else R.ret (false,r.2)
theorem A7{fa}(h:ST X G a fa):SW X G (.BoolOp .And [a] pos) fa:=by
 obtain⟨t,p,h⟩:=h
 exact⟨t,vG p,h⟩
theorem sw_and{fa fb}(h:ST X G a fa)(h2:SW X G (.BoolOp .And (b::rest) pos) fb):SW X G (.BoolOp .And (a::b::rest) pos) (Be fa fb):=by
 obtain⟨t,p,h⟩:=h
 obtain⟨u,q,h2⟩:=h2
 refine⟨_,yG p q,λA δ μ O α σ H Q E k=>?_⟩
 refine h A δ μ O α σ H _ E (aD (aI k) λr z O1 α1 H1 T1 S1=>?_)
 by_cases c:r.1=true
 ·rw[if_pos c] at z
  show if r.1=true then _ else Q false H1
  rw[if_pos c]
  exact h2 A δ r.2 O1 α1 σ H1 Q (E.go T1 S1) (aD (bG z λx μ h=>Er.go T1 h) λq y O2 α2 H2 T2 S2=>y O2 α2 H2 (T1.trans T2) S2)
 ·rw[if_neg c] at z
  show if r.1=true then _ else Q false H1
  rw[if_neg c]
  exact z O1 α1 H1 T1 S1
noncomputable def yw(fa:ar->Sto->R (Bool×Sto)):ar->Sto->R (Bool×Sto):=λδ μ=>(fa δ μ).thn λr=>R.ret (!r.1,r.2)
theorem yn{fa}(h:ST X G a fa):ST X G (.UnaryOp .Not a pos) (yw fa):=by
 obtain⟨t,p,h⟩:=h
 refine⟨_,yJ p,λA δ μ O α σ H Q E k=>?_⟩
 exact h A δ μ O α σ H _ E (aD (aI k) λr z O1 α1 H1 T1 S1=>z O1 α1 H1 T1 S1)
noncomputable def sNo:SG:=λ_ _ _=>none
theorem iy{st:Stmt}:SS X G st sNo:=⟨λ_ _ _=>False,λ_ _ _ _ _ _ h=>h.elim,λ_ _ _ _ _ _ _ _ _ k=>k.elim⟩
end
end SL
namespace DL
open PyProof.Rows L2
structure KD(P:Program)(w:World)(K:ε)(a:Addr)(kvs:List (Key×V)):Prop where
 z:kvs.length<=sizeLine
 hd:(a==sysModules)=false
 at_:∀h:Heap,K.In h->∃vs,KV kvs vs/\h.DictOf (bZ P w) a vs
structure KDD(P:Program)(w:World)(K:ε)(a:Addr)(es:List (Key×D)):Prop where
 ex:∃kvs,KD P w K a kvs/\kvs.map (·.1)=es.map (·.1)/\∀(O:List Addr) (H:Hp),Reps K O H (kvs.map (·.2)) (es.map (·.2))
section
variable{X:Cx}{G:XD->Hp->Prop}{i:Expr}{x:Str}{pos np apos cpos:Pos}{ty:TE}{a:Addr}{kvs:List (Key×V)}{es:List (Key×D)}{g:DS->M D}
theorem yT(T:KD X.prog X.w X.K a kvs)(hg:Gl X x)(hm:X.mg x=some (.ref a))(hi:PE X i ty)(m:M1 X (.Name x np) "get" apos i cpos)(hd:(x==("__debug__" : Str))=false:=by decide) :
  PE X (.Call (.Attribute (.Name x np) "get" apos) [i] [] cpos) (λσ H Q=>ty σ H λy H2=>∃k,y=kV k/\Q ((iB kvs k).getD .non) H2):=by
 intro pins s σ H Q I h
 refine wpAny_Call_method m.base m.few m.line PySem.F.plainAttrs_dict PySem.F.slot_dict_get PySem.F.type_dict_get (thn (je (v:=.ref a) hg hm rfl hd pins s σ H (λv H1=>v=.ref a/\ty σ H1 λy H2=>∃k,y=kV k/\Q ((iB kvs k).getD .non) H2) I ⟨rfl,h⟩) λu s1 ⟨x,H1,I1,rx,ex,q1⟩=>?_)
 subst ex
 obtain rfl:u=Value.ref a:=rx
 obtain⟨vs,rel,dd⟩:=T.at_ _ I1.kIn
 refine⟨dd.typeIs,λb q=>?_,?_⟩
 ·cases q
  obtain⟨ob,_,_,h1,h2,_⟩:=dd
  exact⟨ob,h1,h2.2.1⟩
 rw[m.trees]
 refine Calls.callWith_builtin rfl (Calls.evalArgs_plain (Calls.spliced_cons (thn (hi pins s1 σ H1 _ I1 q1) λiv s2 ⟨y,H2,I2,ry,k,ey,q2⟩=>Calls.spliced_nil ?_)))
 subst ey
 obtain⟨vs,rel,dd⟩:=T.at_ _ I2.kIn
 exact call_meetsIn PySem.F.slot_dict_get dd.typeIs PySem.F.entry_dict_get (PySem.F.args_dict_get_2 _ _) (meets_dict_get (bZ X.prog X.w) a (nB ry) T.hd) ⟨_,dd.mapOf,⟨_,H2,I2.tok _,(rel.val k).getD (show bC V.non Value.none from rfl),q2⟩⟩
noncomputable def rg(es:List (Key×D))(g:DS->M D):DS->M D:=λδ=>(g δ).thn λy=>match iz y with
 | some k=>M.ret ((iF es k).getD .none)
 | none=>none
theorem zh(T:KDD X.prog X.w X.K a es)(hg:Gl X x)(hm:X.mg x=some (.ref a))(hi:PD X G i g)(m:M1 X (.Name x np) "get" apos i cpos)(hd:(x==("__debug__" : Str))=false:=by decide):PD X G (.Call (.Attribute (.Name x np) "get" apos) [i] [] cpos) (rg es g):=by
 obtain⟨kvs,T,hk,rs⟩:=T.ex
 obtain⟨t,p,hi⟩:=hi
 refine⟨_,yT T hg hm p m hd,λδ O σ H Q E k=>?_⟩
 refine hi δ O σ H _ E (aq (ay k) λy z u H2 s2 ry=>?_)
 cases hy:iz y with
 | none=>rw[hy] at z;exact z.elim
 | some kk =>
  rw[hy] at z
  refine⟨kk,nA hy ry,(ok_ret z) _ H2 s2 ?_⟩
  cases h:iF es kk with
  | none=>rw[rE (K:=X.K) (O:=O) (H:=H2) hk h];exact .non
  | some d=>obtain⟨v,h1,h2⟩:=vq hk (rs O H2) h;rw[h1];exact h2
end
end DL
namespace SL
open PyProof.Rows L2 DL
section
variable{X:Cx}{G:XD->Hp->Prop}{x:Str}{pos np dp:Pos}{a:Addr}{es:List (Key×D)}
theorem vd{kvs:List (Key×V)}(T:KD X.prog X.w X.K a kvs):eF X (.type "dict") (λxs H Q=>xs=[.ref a]/\∀l,H l=none->Q (.ref l) (upd H l (.dK kvs))):=by
 intro pins s σ H xs us Q I r h
 obtain⟨rfl,q⟩:=h
 obtain⟨u,rfl,rx⟩:=fu r
 cases rx
 obtain⟨vs,rel,dd⟩:=T.at_ _ I.kIn
 refine kt_call_dict T.hd dd (by rw[<-rel.length];exact T.z) λh' dd' hs=>?_
 refine⟨.ref _,_,I.laid (a:=s.heap.objs.size) (o:=.dK kvs) (t':=s.toks) (λb q hq=>?_) (ο _) (uY T.z (beq_eq_false_iff_ne.mpr (Ne.symm (Z9 I.big))) rel dd'),rfl,q _ (I.hok.fresh (ο _))⟩
 exact(hs.2 b (Z9 (Heap.lt_size hq))).trans (Heap.get?_push_of_some _ hq)
noncomputable def tZ(es:List (Key×D)):ar->Sto->R (Val×Sto):=λ_ μ=>R.ret (.h μ.length,μ++[.dct (es.map λe=>(e.1,.d e.2))])
theorem yj{y:Str}(T:KDD X.prog X.w X.K a es)(hy:y = "dict")(hgd:Gl X y)(hmd:X.mg y=none)(hg:Gl X x)(hm:X.mg x=some (.ref a))(hd:(x==("__debug__" : Str))=false:=by decide)
  (he:starEach [.Name x np] X.env=(false,eval (.Name x np) X.env)::starEach [] X.env:=by rfl) (hpl:(backTo pos (starEach [] X.env)).any (·.1)=false:=by rfl):SX X G (.Call (.Name y dp) [.Name x np] [] pos) (tZ es):=by
 subst hy
 obtain⟨kvs,T,hk,rs⟩:=T.ex
 refine⟨_,py (vd T) hgd hmd rfl (dO (je (v:=.ref a) hg hm rfl hd) iQ he) (by decide) (by decide) he hpl,λA δ μ O α σ H Q E k=>⟨rfl,λl hl=>?_⟩⟩
 have k:∀v O' α' H',Go O α H O' α' H'->SR X.K X.mg A.R0 O' α' H' (μ++[.dct (es.map λe=>(e.1,.d e.2))])->VR X.K O' α' H' v (.h μ.length)->Q v H':=k
 refine k _ _ _ _ (Go.newL hl) (E.sr.newO hl (Mu.dct aA) λz=>⟨υ,z,kvs,aA,?_,?_⟩) (.h E.sr.at_new)
 ·rw[hk,Y7];rfl
 ·have:=VRs.data (α:=α++[some l]) (rs (l::O) (upd H l (.dK kvs)))
  rw[Y7] at this ⊢
  exact this
end
end SL
namespace SL
open PyProof.Rows L2 DL
section
variable{X:Cx}{G:XD->Hp->Prop}{lp:Pos}{ks:List (Option Expr)}{vs:List Expr}{fp:DS->M (List (Key×D))}
theorem SW.t{e:Expr}{f:ar->Sto->R (Bool×Sto)}(h:SW X G e f):ST X G e f:=by
 obtain⟨t,p,h⟩:=h
 exact⟨_,p.pt,h⟩
end
end SL
namespace DL
open PyProof.Rows L2
section
variable{X:Cx}{G:XD->Hp->Prop}{e:Expr}{fa:DS->M (List D)}{p pos:Pos}
end
end DL
namespace SL
open PyProof.Rows L2 DL
section
variable{X:Cx}{G:XD->Hp->Prop}{e tg:Expr}{p pos:Pos}{c:Str}{f:ar->Sto->R (Val×Sto)}
theorem yh{k:Nat}{F:List Val->Sto->R (Val×Sto)}(h:MkS X.prog X.w X.K X.mg X.base k c 1 F)(hr:Room (k+1) X.A)(hg:Gl X c)(hdb:(c==("__debug__" : Str))=false:=by decide):SX X G (.Call (.Name c p) [] [] pos) (sMk c F dS):=by
 obtain⟨C,f0,fd,ps,hN,hm,M,F1,hb⟩:=h.ex
 refine⟨_,yS M F1 hr hg hm hb .nil vN hdb,λA δ μ O α σ H Q E k=>?_⟩
 refine λx dx hx hd hne=>?_
 have s1:aJ H (upd H dx (.own x)):=bn hd
 have hx2:upd H dx (.own x) x=none:=by rw[upd_ne (Ne.symm hne)];exact hx
 have S2:=(E.sr.same s1).newI (l:=x) (dx:=dx) hN hx2
 have T2:Go O α H (x::O) (α++[some x]) (upd (upd H dx (.own x)) x (.ins C dx [])):=(Go.same s1).trans (Go.newL hx2)
 have k1:okR (Er X.K X.mg G A.R0 O α H) ((xv (F [.h μ.length] (μ++[.ins c []]))).thn λq=>match q.1 with
  | .d .none=>R.ret (.h μ.length,q.2)
  | _=>none) (λr=>∀v O' α' H',Go O α H O' α' H'->SR X.K X.mg A.R0 O' α' H' r.2->VR X.K O' α' H' v r.1->Q v H'):=k
 have k2:=qI (aI k1)
 have ha:(α++[some x])[μ.length]?=some (some x):=E.sr.at_new
 refine⟨A.R0,x::O,α++[some x],μ++[.ins c []],[.h μ.length],rfl,S2,.cons (.h ha) .nil,aD k2 λq y v O3 α3 H3 T3 S3 rv=>?_⟩
 obtain⟨q1,q2⟩:=q
 match q1,y,rv with
 | .d .none,y,rv =>
  have hv:v=.non:=by
   have:=rv.dinv
   cases this
   rfl
  exact⟨hv,y (.ref x) O3 α3 H3 (T2.trans T3) S3 (.h (T3.ex _ _ ha))⟩
end
end SL
namespace DL
open PyProof.Rows L2
section
variable{X:Cx}
noncomputable def ji:List D->Option D
 | [.int i,.int j]=>if decide (0<j/\j<1073741824)=true then some (.tuple [.int (i / j),.int (i % j)]) else none
 | _=>none
theorem io:lT X (.builtin "divmod") ji:=by
 refine⟨_,tF,λO H ds d vs Q oo rs e k=>?_⟩
 unfold ji at e
 split at e
 ·rename_i i j
  by_cases hj:decide (0<j/\j<1073741824)=true
  ·rw[if_pos hj] at e
   cases e
   have hj:=of_decide_eq_true hj
   obtain⟨v,v',rfl,r,r'⟩:=reps2 rs
   exact⟨i,j,by rw[r.int_inv,r'.int_inv],⟨hj.1,hj.2⟩,λp hp=>k _ _ (bn hp) (.tup (.inl (.inl aA)) (.cons (.int _) (.cons (.int _) .nil)))⟩
  ·rw[if_neg hj] at e;cases e
 ·cases e
end
end DL
namespace DL
open PyProof.Rows L2
section
variable{X:Cx}{G:XD->Hp->Prop}{i:Expr}{x:Str}{pos np:Pos}{a:Addr}{es:List (Key×D)}{g:DS->M D}
end
end DL
namespace SL
open PyProof.Rows L2 DL
section
variable{X:Cx}{G:XD->Hp->Prop}{a b:Expr}{pos:Pos}{fo fi:ar->Sto->R (Val×Sto)}
theorem st_cmp{op:CmpOp}{h:D->D->Option D}(hh:DOp X (compareOp op) h)(ha:SX X G a fo)(hb:SX X G b fi)(hm:behindInMarks op b=false):ST X G (.Compare a [op] [b] pos) (sBl (qx h fo fi)):=by
 obtain⟨rr,hr,hh⟩:=hh
 obtain⟨ta,pa,ha⟩:=ha
 obtain⟨tb,pb,hb⟩:=hb
 refine⟨_,mi hr pa pb hm,λA δ μ O α σ H Q E k=>?_⟩
 refine ha A δ μ O α σ H _ E (aD (aI (aI k)) λp z v O1 α1 H1 T1 S1 r1=>?_)
 have E1:=E.go T1 S1
 refine hb A δ p.2 O1 α1 σ H1 _ E1 (aD (bG (aI z) λx μ h=>Er.go T1 h) λq y u O2 α2 H2 T2 S2 r2=>?_)
 have r1':=r1.to (T2.to S1) T2.ex
 have hn:∀(k:Nat) (a:Addr) (xs:List Val),α2[k]?=some (some a)->0<=k->q.2[k]?=some (.lst xs)->a∉A.R0:=λk a xs h1 _ h2=>by
  obtain⟨ob,h3,h4⟩:=S2.at_ k a h1
  rw[h2] at h3
  cases h3
  exact h4.2.1
 split at y
 ·rename_i x' y' e1 e2
  have c1:=kB S2 (To.less S2.sub) hn r1' e1
  have c2:=kB S2 (To.less S2.sub) hn r2 e2
  cases e3:h x' y' with
  | none=>rw[e3] at y;exact y.elim
  | some d =>
   rw[e3] at y
   dsimp only at y
   by_cases hf:e7 d=true
   ·rw[if_pos hf] at y
    refine hh A.R0 H2 x' y' d v u _ (λl hl=>S2.oo l (S2.sub l hl)) c1 c2 e3 λv' H' s r=>?_
    match d,r,y with
    | .bool c,r,y=>exact⟨c,r.bool_inv,y O2 α2 H' ((T1.trans T2).trans (Go.same s)) (S2.same s)⟩
   ·rw[if_neg hf] at y;exact y.elim
 ·exact y.elim
end
end SL
namespace DL
open PyProof.Rows L2
noncomputable def Cg(p:Params)(l:List (Str×Tok×Value)):List DictEntry:=l.map λe=>⟨Z3 p e.1,.str e.1 e.2.1,e.2.2⟩
section
variable{P:Program}{w:World}{K:ε}{a:Addr}
theorem pY:∀(l:List (Str×Tok×Value)),∀e∈Cg w.params l,∃k,(bZ P w).is k e.key=true/\e.hash=(bZ P w).hash k
 | [],e,h=>nomatch h
 | x::l,e,h=>by
  rcases Δ.mp h with rfl | h
  ·exact⟨.inr x.1,iV P w x.1 x.2.1,rfl⟩
  ·exact pY l e h
theorem nV:∀(l:List (Str×Tok×Value)),Pairs (bZ P w) (Cg w.params l) (l.map λe=>((.inr e.1:Key),e.2.2))
 | []=>.nil
 | x::l=>.cons (iV P w x.1 x.2.1) rfl (nV l)
theorem kv_of:∀{l:List (Str×Tok×Value)} {vs:List V},bx vs (l.map (·.2.2))->KV ((l.map λe=>(.inr e.1:Key)).zip vs) (l.map λe=>((.inr e.1:Key),e.2.2))
 | [],_,.nil=>.nil
 | x::l,_,.cons r rs=>.cons ⟨rfl,r⟩ (kv_of rs)
theorem kdd_mk{l:List (Str×Tok×Value)}{vs:List V}{kd:List (Key×D)}{ep:Nat}(hl:W3 a K=some { cls:=.type "dict",data:=.dict (Cg w.params l).toArray ep })
  (hd:(a==sysModules)=false) (hn:(l.map (·.1)).Nodup) (hz:l.length<=1000) (hk:kd.map (·.1)=l.map λe=>(.inr e.1:Key)) (hv:bx vs (l.map (·.2.2))) (hr:∀(O:List Addr) (H:Hp),Reps K O H vs (kd.map (·.2))):KDD P w K a kd:=by
 have hlen:vs.length=l.length:=by have:=hv.length;rwa[ι] at this
 have e1:((l.map λe=>(.inr e.1:Key)).zip vs).map (·.1)=l.map λe=>(.inr e.1:Key):=List.map_fst_zip (by rw[ι];omega)
 have e2:((l.map λe=>(.inr e.1:Key)).zip vs).map (·.2)=vs:=List.map_snd_zip (by rw[ι];omega)
 refine⟨(l.map λe=>(.inr e.1:Key)).zip vs,⟨?_,hd,λh X=>⟨_,kv_of hv,_,_,_,X _ _ hl,⟨rfl,rfl,rfl⟩,rfl,λe he=>pY l e (by simpa using he),by simpa using nV l,?_⟩⟩,by rw[e1,hk],by rw[e2];exact hr⟩
 ·rw[List.length_zip,ι,sizeLine_eq];omega
 ·rw[Y7]
  have:(l.map λe=>(.inr e.1:Key))=(l.map (·.1)).map Sum.inr:=by rw[Y7];rfl
  show(l.map λe=>(.inr e.1:Key)).Nodup
  rw[this]
  exact List.Pairwise.map _ (λ_ _ h e=>h (Sum.inr.inj e)) hn
theorem sN{l:List (Str×Tok×Int×Tok)}{kd:List (Key×D)}{ep:Nat}(hl:W3 a K=some { cls:=.type "dict",data:=.dict (Cg w.params (l.map λe=>(e.1,e.2.1,.int e.2.2.1 e.2.2.2))).toArray ep })
  (hd:(a==sysModules)=false) (hn:(l.map (·.1)).Nodup) (hz:l.length<=1000) (hk:kd=l.map λe=>((.inr e.1:Key),.int e.2.2.1)):KDD P w K a kd:=by
 subst hk
 refine kdd_mk (vs:=l.map λe=>.int e.2.2.1) hl hd (by rw[Y7];exact hn) (by rw[ι];exact hz) (by rw[Y7,Y7];rfl) ?_ λO H=>?_
 ·clear hl hn hz
  induction l with
  | nil=>exact .nil
  | cons x l ih=>exact .cons ⟨_,rfl⟩ ih
 ·clear hl hn hz
  induction l with
  | nil=>exact .nil
  | cons x l ih=>exact .cons (.int _) ih
end
end DL
namespace DL
open PyProof.Rows L2
section
variable{X:Cx}
theorem op_inD(hu:X.A.units+1<cLine):OpR X (compareOp .In) (λx y H Q=>∃a o,y=.ref a/\tK H a x o/\Q (.bl o.isSome) H):=by
 intro pins s σ H x y u v Q I rx ry h
 obtain⟨a,o,rfl,g,q⟩:=h
 cases ry
 exact d_in hu I g rx λs' I'=>⟨.bl _,H,I',rfl,q⟩
theorem xn(hu:X.A.units+1<cLine):OpR X (compareOp .NotIn) (λx y H Q=>∃a o,y=.ref a/\tK H a x o/\Q (.bl (!o.isSome)) H):=by
 intro pins s σ H x y u v Q I rx ry h
 obtain⟨a,o,rfl,g,q⟩:=h
 cases ry
 exact Cm hu I g rx λs' I'=>⟨.bl _,H,I',rfl,q⟩
end
end DL
namespace SL
open PyProof.Rows L2 DL
section
variable{X:Cx}{G:XD->Hp->Prop}{pos apos cpos:Pos}{a b o e:Expr}{es:List Expr}{fo fi:ar->Sto->R (Val×Sto)}{fa:DS->M (List D)}
end
end SL
namespace SL
open PyProof.Rows L2 DL
noncomputable def spSX(K:ε)(mg:Str->Option Value)(n:Nat)(F:List Val->Sto->R (Val×Sto)):Sp:=λvs H Q E=>∃R0 O α μ xs,vs.length=n/\SR K mg R0 O α H μ/\VRs K O α H vs xs/\okR (Er K mg (GX mg E) R0 O α H) (F xs μ) (λr=>∀v O' α' H',Go O α H O' α' H'->SR K mg R0 O' α' H' r.2->VR K O' α' H' v r.1->Q v H')
structure DefSMX(P:Program)(w:World)(K:ε)(mg:Str->Option Value)(base:Heap)(k:Nat)(c m:Str)(n:Nat)(F:List Val->Sto->R (Val×Sto)):Prop where
 ex:∃(C f:Addr) (fd:FuncData) (ps:List Str),η K mainGlobals c=some (some (.ref C))/\Cls K C/\Meth K C m f/\FnOk P w K mg base (CXE P w) k f fd ps (spSX K mg n F)/\cY K fd ps []
noncomputable def gB(c m:Str)(F:List Val->Sto->R (Val×Sto))(fo:ar->Sto->R (Val×Sto))(fa:ar->Sto->R (List Val×Sto)):ar->Sto->R (Val×Sto):=λδ μ=>(fo δ μ).thn λr=>match r.1 with
 | .h k=>match r.2[k]? with
  | some (.ins c' fs)=>if c'=c/\fs.lookup m=none then (fa δ r.2).thn λq=>F (.h k::q.1) q.2 else none
  | _=>none
 | _=>none
section
variable{X:Cx}{G:XD->Hp->Prop}{e o:Expr}{es:List Expr}{pos apos cpos np:Pos}{c:Str}{fo:ar->Sto->R (Val×Sto)}{fa:ar->Sto->R (List Val×Sto)}
theorem gY{pl:Sem Bool}{k n:Nat}{m:Str}{F:List Val->Sto->R (Val×Sto)}{Ex:XK}(h:DefSMX X.prog X.w X.K X.mg X.base k c m n F)(hr:Room k X.A)(hx:du (CXE X.prog X.w) X Ex)(hG:∀x H,G x H->GX X.mg Ex x H)(hn:(e::es).length+1=n)(ho:SX X G o fo)(ha:SA X G (e::es) fa)
  (hst:starEach (e::es) X.env=(false,eval e X.env)::starEach es X.env:=by rfl) (hpl:(backTo pos (starEach es X.env)).any (·.1)=false:=by rfl)
  (ht:eval (.Call (.Attribute o m apos) (e::es) [] pos) X.env=(do
   let ov <- eval o X.env
   standAt apos.atName
   let (f,first) <- holding [ov] (getMethod ov m pl)
   callWith pos f first (backTo pos (starEach (e::es) X.env)) (backToKw pos (keywordEach [] X.env))):=by rfl) :
  SX X G (.Call (.Attribute o m apos) (e::es) [] pos) (gB c m F fo fa):=by
 obtain⟨C,f0,fd,ps,hN,hc,hm,F1,hb⟩:=h.ex
 obtain⟨t,p,ho⟩:=ho
 obtain⟨hl,ta,pa,ha⟩:=ha
 refine⟨_,qA (pl:=pl) p hc hm F1 hr hb .nil hx pa hst hpl ht,λA δ μ O α σ H Q E k=>?_⟩
 refine ho A δ μ O α σ H _ E (aD (aI k) λr z v O1 α1 H1 T1 S1 r1=>?_)
 obtain⟨p1,p2⟩:=r
 match p1,z,r1 with
 | .h kk,z,r1 =>
  obtain⟨l,hl',rfl⟩:=r1.hinv
  obtain⟨ob,g1,g2⟩:=S1.at_ kk l hl'
  dsimp only at z
  rw[g1] at z
  match ob,z,g2 with
  | .ins c' fs,z,g2 =>
   obtain⟨_,_,C',dx,vfs,hN',g4,g5,g6⟩:=g2
   dsimp only at z
   by_cases hcc:c'=c/\fs.lookup m=none
   ·rw[if_pos hcc] at z
    have zz:=z
    obtain⟨rfl,hlk⟩:=hcc
    have hC:C'=C:=by
     have:=hN'.symm.trans hN
     simp at this
     exact this
    subst hC
    refine⟨l,dx,vfs,rfl,g4,ls g5 hlk,?_⟩
    have E1:=E.go T1 S1
    have k1:=aI zz
    refine ha A δ p2 O1 α1 σ H1 _ E1 ?_
    cases e1:fa δ p2 with
    | none=>rw[e1] at k1;exact k1.elim
    | some r =>
     rw[e1] at k1
     cases r with
     | error x=>exact Er.go T1 k1
     | ok r =>
      refine λvs O2 α2 H2 T2 S2 rs=>?_
      refine⟨A.R0,O2,α2,r.2,.h kk::r.1,?_,S2,?_,bG (aD k1 λq y v O3 α3 H3 T3 S3 rv=>y v O3 α3 H3 (T1.trans (T2.trans T3)) S3 rv) λx μ' q O' α' H' T' S'=>hG x H' (q O' α' H' ((T1.trans T2).trans T') S')⟩
      ·rw[Λ,ω,rs.length,hl δ p2 r e1];exact hn
      ·rw[Λ];exact .cons (.h (T2.ex _ _ hl')) rs
   ·rw[if_neg hcc] at z;exact z.elim
noncomputable def mW(x:Str)(fd:DS->M (List D)):SG:=λ_ δ μ=>(ofM (fd (view δ)) μ).thn λds=>if aN ds.length=true then some (.error (⟨x,[]⟩,μ)) else none
theorem rM{x:Str}{C:Addr}{B newId initId:String}{bm:List Value}{Ex:XK}{fd:DS->M (List D)}(hR:rp X C (λH=>Ex (.ref C) none H))(hG:∀x H,G x H->GX X.mg Ex x H)(hK:X5 X.K C bm newId=true)(FB:ExcBaseFacts B newId initId bm)
  (hc:X.calm=true) (hg:Gl X x) (hm:X.mg x=some (.ref C)) (ha:PDA X G (e::es) fd) (hd:(x==("__debug__" : Str))=false:=by decide)
  (he:starEach (e::es) X.env=(false,eval e X.env)::starEach es X.env:=by rfl) (hpl:(backTo cpos (starEach es X.env)).any (·.1)=false:=by rfl) :
  SS X G (.Raise (some (.Call (.Name x np) (e::es) [] cpos)) none pos) (mW x fd):=by
 obtain⟨_,t,pa,ha⟩:=ha
 refine⟨_,sf hR hK FB hc hg hm pa hd he hpl,λA δ μ O α σ H Dn E1 k=>?_⟩
 refine ha (view δ) O σ H _ E1.view (aq (ln E1.sr (bG (aI k) λx μ h=>Er.go E1.st h)) λds z vs H1 s1 rs=>?_)
 by_cases hz:aN ds.length=true
 ·rw[if_pos hz] at z
  exact⟨by rw[rs.length];exact bj hz,hG _ _ (z O α H1 (E1.st.trans (Go.same s1)) (E1.sr.same s1)) C hm⟩
 ·rw[if_neg hz] at z
  exact z.elim
end
section
variable{P:Program}{w:World}{K:ε}{mg:Str->Option Value}{base:Heap}
theorem kJ{x qual:Str}{st:Stmt}{f:Addr}{fd:FuncData}{N ps:List Str}{k:Nat}{g:SG}(F0:Fun K x qual st f fd)(S:FnScope N ps (af st))
  (hbody:∀(cdv:Value) (A:Around) (outer:List PySem.Env) (s:Shared) (H:Hp) (E:XK),Room k (A.deeper (envOfC qual (af st) s.heap.objs.size f cdv)) ->
   SSs (et (CXE P w) P w K mg base N qual (af st) f cdv A outer s H E) (GX mg E) (aB st) g):FnOk P w K mg base (CXE P w) (k+1) f fd ps (spSX K mg ps.length (fW N.length g)):=by
 obtain⟨oc,od,kV,doc,pm,an,cdv,ct,osl,rfl,lk,hcd⟩:=F0.ex
 refine wc lk hcd S (λvs H Q E h=>?_) λA outer s H vs Q E hr h=>?_
 ·obtain⟨R0,O,α,μ,xs,hl,_⟩:=h
  exact hl
 ·obtain⟨R0,O,α,μ,xs,hl,S0,r,q⟩:=h
  obtain⟨t,p,hB⟩:=hbody cdv A outer s H E hr
  refine⟨t,p,hB ⟨R0,O,α,H⟩ (eI N.length xs) μ O α (L2.start N vs) H _ (pR N S0 r) ?_⟩
  have q1:=aI (show okR _ ((g μ.length (eI N.length xs) μ).thn Ci) _ from q)
  rw[<-S0.len] at q1
  refine aD q1 λo z=>?_
  cases o with
  | rt v μ'=>exact λu O' α' H' S' G' r'=>z u O' α' H' G' S' r'
  | nx δ μ'=>exact λO' α' σ' H' E' G'=>z .non O' α' H' G' E'.sr (.d .non)
  | bk δ μ'=>exact z.elim
  | ct δ μ'=>exact z.elim
end
noncomputable def slS:Sl->Option Val
 | .vl d=>some (.d d)
 | _=>none
noncomputable def pB(r:M Out)(μ:Sto):R OutS:=match r with
 | some (.ok (.nx δ))=>R.ret (.nx (δ.map slS) μ)
 | some (.ok (.rt d))=>R.ret (.rt (.d d) μ)
 | _=>none
def zR(k:OutS->Prop)(μ:Sto):Out->Prop
 | .nx δ=>k (.nx (δ.map slS) μ)
 | .rt d=>k (.rt (.d d) μ)
 | _=>False
theorem sx{G:XD->Sto->Prop}{G':XD->Prop}{r:M Out}{μ:Sto}{k:OutS->Prop}(h:okR G (pB r μ) k):ok G' r (zR k μ):=by
 match r,h with
 | some (.ok (.nx δ)),h=>exact h
 | some (.ok (.rt d)),h=>exact h
noncomputable def tY(x:Str)(N i:Nat)(gb:SG)(gs:Addr->DS->M Out):SG:=λ_ δ μ=>match gb μ.length δ μ with
 | none=>none
 | some (.ok o)=>some (.ok o)
 | some (.error y)=>if y.1.cls=x then pB (cc N i gs) y.2 else none
section
variable{K:ε}{H:Hp}{O:List Addr}
theorem AC{N i:Nat}{a:Addr}(oo:∀l∈O,Mu H l):EI K H O (λ_=>False) H O H ((Z5 N none).set i (some (.ref a))) (exS N i a):=by
 have no:∀{j:Nat} {s:Sl},(exS N i a)[j]?=some s->s.own->False:=λ{j s} h ho=>by
  unfold exS at h
  rw[DL.bH,V3] at h
  split at h<;>(try split at h)<;>(cases h;try exact ho)
 refine⟨⟨λ_ _ h=>h,oo,by unfold exS;simp,λj sl h=>?_,λj k l ds es _ h1=>(no h1 trivial).elim⟩,λl hl=>.inl hl,λb o _ h=>h,λl hl=>.inl hl,λj ds l h1 ho=>(no h1 ho).elim,λl hl=>hl⟩
 unfold exS at h
 rw[DL.bH,V3] at h
 rw[DL.bH]
 by_cases hij:i=j
 ·rw[if_pos hij] at h ⊢
  rw[W2] at h ⊢
  split at h
  ·rename_i hlt
   rw[if_pos hlt]
   cases h
   rfl
  ·cases h
 ·rw[if_neg hij] at h
  split at h
  ·cases h;trivial
  ·cases h
end
section
variable{X:Cx}{G:XD->Hp->Prop}
theorem wY{x n:Str}{C:Addr}{i:Nat}{B newId initId:String}{bm:List Value}{body suite:List Stmt}{b₀:Stmt}{np hp pos:Pos}{gb:SG}{gs:Addr->DS->M Out}(hK:X5 X.K C bm newId=true)(FB:ExcBaseFacts B newId initId bm)
  (hst:X.stack=X.env::X.outer) (hfr:X.env.frame=some X.env.locals) (hg:Gl X x) (hm:X.mg x=some (.ref C)) (hN:X.N.Nodup) (hi:X.N[i]?=some n) (hl:X.env.scope.names.lookup n=some .local)
  (hb:∀pn xe Ex,du (CXE X.prog X.w) (X.tri pn xe) Ex->SSs (X.tri pn xe) (GX X.mg Ex) body gb)
  (hs:∀pn ea oe,(ea,oe)∈pn->oe.cls=.ref C->jA (X.held pn ea) (λ_ _=>False) (b₀::suite) (gs ea))
  (hd:(x==("__debug__" : Str))=false:=by decide) :
  SS X G (.Try body [.ExceptHandler (some (.Name x np)) (some n) (b₀::suite) hp] [] [] pos) (tY x X.N.length i gb gs):=by
 refine⟨_,xc hK FB hst hfr hg hm hN hi hl hd,λA δ μ O α σ H Dn E k=>?_⟩
 have E':SEv X.K X.mg ⟨A.R0,O,α,H⟩ O α H σ δ μ:=⟨E.sr,Go.refl,E.len,E.at_⟩
 unfold tY at k
 rw[<-E.sr.len] at k
 cases e:gb α.length δ μ with
 | none=>rw[e] at k;exact k.elim
 | some r =>
  rw[e] at k
  cases r with
  | ok o =>
   refine⟨E0,λpn xe hps=>?_,λc d H' z=>z.elim⟩
   obtain⟨t,p,hB⟩:=hb pn xe E0 hps
   refine⟨t,p,hB ⟨A.R0,O,α,H⟩ δ μ O α σ H Dn E' ?_⟩
   show okR _ (gb α.length δ μ) _
   rw[e]
   have k:jC X.K X.mg A O α H Dn o:=k
   show jC X.K X.mg ⟨A.R0,O,α,H⟩ O α H Dn o
   cases o with
   | nx δ' μ'=>exact λO1 α1 σ1 H1 E1 T1=>k O1 α1 σ1 H1 ⟨E1.sr,E.st.trans T1,E1.len,E1.at_⟩ T1
   | rt v μ'=>exact λv O1 α1 H1 S1 T1 r1=>k v O1 α1 H1 S1 (E.st.trans T1) r1
   | bk δ' μ'=>exact λO1 α1 σ1 H1 E1 T1=>k O1 α1 σ1 H1 ⟨E1.sr,E.st.trans T1,E1.len,E1.at_⟩ T1
   | ct δ' μ'=>exact λO1 α1 σ1 H1 E1 T1=>k O1 α1 σ1 H1 ⟨E1.sr,E.st.trans T1,E1.len,E1.at_⟩ T1
  | error y =>
   obtain⟨y,μ1⟩:=y
   have k:okR _ (if y.cls=x then pB (cc X.N.length i gs) μ1 else none) (jC X.K X.mg A O α H Dn):=k
   by_cases hy:y.cls=x
   ·rw[if_pos hy] at k
    refine⟨λc _ H'=>c=.ref C/\∃O' α',Go O α H O' α' H'/\SR X.K X.mg A.R0 O' α' H' μ1,λpn xe hps=>?_,λc d H' z=>⟨z.1,λpn ea oe hin hoe=>?_⟩⟩
    ·obtain⟨t,p,hB⟩:=hb pn xe _ hps
     refine⟨t,p,hB ⟨A.R0,O,α,H⟩ δ μ O α σ H Dn E' ?_⟩
     show okR _ (gb α.length δ μ) _
     rw[e]
     intro O' α' H' T' S' C' hC'
     have hC':X.mg y.cls=some (.ref C'):=hC'
     rw[hy,hm] at hC'
     split
     ·exact⟨Option.some.inj hC'.symm▸rfl,O',α',T',S'⟩
     ·exact λa ha=>⟨Option.some.inj hC'.symm▸rfl,O',α',T'.trans (Go.same (bn ha)),S'.same (bn ha)⟩
     ·trivial
    ·obtain⟨_,O',α',T',S'⟩:=z
     obtain⟨t,p,hB⟩:=hs pn ea oe hin hoe
     refine⟨t,p,hB O' (λ_=>False) H' (exS X.N.length i ea) O' _ H' (Dn.gone i) (AC S'.oo) ?_⟩
     have k0:ok (λ_=>False) (cc X.N.length i gs) (zR (jC X.K X.mg A O α H Dn) μ1):=sx k
     have k1:=ay (lG k0 ea)
     refine kl (aq (jI k1) λo q=>?_) λy z=>z.elim
     have q:zR (jC X.K X.mg A O α H Dn) μ1 (o.gone i):=q
     cases o with
     | nx δ2 =>
      intro O2 σ2 H2 F
      have sm:aJ H' H2:=λb u h=>F.keep b u (λz=>z) h
      refine q O' α' (σ2.set i none) H2 ⟨S'.same sm,(E.st.trans T').trans (Go.same sm),?_,λj v hj=>?_⟩ (T'.trans (Go.same sm))
      ·rw[Y3,ι,Y3];exact F.ev.len
      ·rw[Φ,DL.bH] at hj
       rw[DL.bH]
       by_cases hij:i=j
       ·rw[if_pos hij] at hj
        split at hj<;>cases hj
       ·rw[if_neg hij] at hj ⊢
        cases hs2:δ2[j]? with
        | none=>rw[hs2] at hj;cases hj
        | some sl =>
         rw[hs2] at hj
         have at2:=F.ev.at_ j sl hs2
         cases sl with
         | vl d =>
          cases hj
          obtain⟨v,h1,h2⟩:=at2
          exact⟨v,h1,.d (h2.to (.less F.sub))⟩
         | _=>cases hj
     | rt d =>
      intro v H2 kp r
      have sm:aJ H' H2:=λb u h=>kp b u (λz=>z) h
      exact q v O' α' H2 (S'.same sm) ((E.st.trans T').trans (Go.same sm)) (.d r)
     | bk δ2=>exact q.elim
     | ct δ2=>exact q.elim
   ·rw[if_neg hy] at k
    exact k.elim
end
end SL
namespace SL
open PyProof.Rows L2 DL
section
variable{X:Cx}{G:XD->Hp->Prop}{e o:Expr}{es:List Expr}{pos apos:Pos}{c:Str}{fo:ar->Sto->R (Val×Sto)}{fa:ar->Sto->R (List Val×Sto)}
theorem vw{pl:Sem Bool}{k n:Nat}{m:Str}{F:List Val->Sto->R (Val×Sto)}(h:DefSMX X.prog X.w X.K X.mg X.base k c m n F)(hr:Room k X.A)(hn:(e::es).length+1=n)(ho:SX X G o fo)(ha:SA X G (e::es) fa)
  (hst:starEach (e::es) X.env=(false,eval e X.env)::starEach es X.env:=by rfl) (hpl:(backTo pos (starEach es X.env)).any (·.1)=false:=by rfl)
  (ht:eval (.Call (.Attribute o m apos) (e::es) [] pos) X.env=(do
   let ov <- eval o X.env
   standAt apos.atName
   let (f,first) <- holding [ov] (getMethod ov m pl)
   callWith pos f first (backTo pos (starEach (e::es) X.env)) (backToKw pos (keywordEach [] X.env))):=by rfl) :
  SX X G (.Call (.Attribute o m apos) (e::es) [] pos) (xa c m F fo fa):=by
 obtain⟨C,f0,fd,ps,hN,hc,hm,F1,hb⟩:=h.ex
 obtain⟨t,p,ho⟩:=ho
 obtain⟨hl,ta,pa,ha⟩:=ha
 refine⟨_,qA (pl:=pl) p hc hm F1 hr hb .nil kj pa hst hpl ht,λA δ μ O α σ H Q E k=>?_⟩
 refine ho A δ μ O α σ H _ E (aD (aI k) λr z v O1 α1 H1 T1 S1 r1=>?_)
 obtain⟨p1,p2⟩:=r
 match p1,z,r1 with
 | .h kk,z,r1 =>
  obtain⟨l,hl',rfl⟩:=r1.hinv
  obtain⟨ob,g1,g2⟩:=S1.at_ kk l hl'
  dsimp only at z
  rw[g1] at z
  match ob,z,g2 with
  | .ins c' fs,z,g2 =>
   obtain⟨_,_,C',dx,vfs,hN',g4,g5,g6⟩:=g2
   dsimp only at z
   by_cases hcc:c'=c/\fs.lookup m=none
   ·rw[if_pos hcc] at z
    have zz:=z
    obtain⟨rfl,hlk⟩:=hcc
    have hC:C'=C:=by
     have:=hN'.symm.trans hN
     simp at this
     exact this
    subst hC
    refine⟨l,dx,vfs,rfl,g4,ls g5 hlk,?_⟩
    have E1:=E.go T1 S1
    have k1:=aI zz
    refine ha A δ p2 O1 α1 σ H1 _ E1 ?_
    cases e1:fa δ p2 with
    | none=>rw[e1] at k1;exact k1.elim
    | some r =>
     rw[e1] at k1
     cases r with
     | error x=>exact Er.go T1 k1
     | ok r =>
      refine λvs O2 α2 H2 T2 S2 rs=>?_
      refine⟨A.R0,O2,α2,r.2,.h kk::r.1,?_,S2,?_,bG (aD (qI k1) λq y v O3 α3 H3 T3 S3 rv=>y v O3 α3 H3 (T1.trans (T2.trans T3)) S3 rv) λx μ' q=>q.elim⟩
      ·rw[Λ,ω,rs.length,hl δ p2 r e1];exact hn
      ·rw[Λ];exact .cons (.h (T2.ex _ _ hl')) rs
   ·rw[if_neg hcc] at z;exact z.elim
end
end SL
namespace SL
open PyProof.Rows L2 DL
noncomputable def rZ(x fl:Str)(N i:Nat)(gb:SG)(gs:Addr->Int->DS->M Out):SG:=λ_ δ μ=>match gb μ.length δ μ with
 | none=>none
 | some (.ok o)=>some (.ok o)
 | some (.error y)=>match y.1.flds with
  | [(f,.int j)]=>if y.1.cls=x/\f=fl then pB (cc N i (λa=>gs a j)) y.2 else none
  | _=>none
section
variable{X:Cx}{G:XD->Hp->Prop}
theorem wX{x n fl:Str}{C:Addr}{i:Nat}{body suite:List Stmt}{b₀:Stmt}{np hp pos:Pos}{gb:SG}{gs:Addr->Int->DS->M Out}(hK:XF.ef X.K C XF.VE "ValueError.__new__" = true)
  (hst:X.stack=X.env::X.outer) (hfr:X.env.frame=some X.env.locals) (hg:Gl X x) (hm:X.mg x=some (.ref C)) (hN:X.N.Nodup) (hi:X.N[i]?=some n) (hl:X.env.scope.names.lookup n=some .local)
  (hb:∀pn xe Ex,du (CXE X.prog X.w) (X.tri pn xe) Ex->SSs (X.tri pn xe) (GX X.mg Ex) body gb)
  (hs:∀pn ea oe a od j tk,(ea,oe)∈pn->oe.cls=.ref C->PySem.W.notCls oe=true->oe.dict=some a->(a,od)∈pn->U4 fl od=some (some (.int j tk))->jA (X.held pn ea) (λ_ _=>False) (b₀::suite) (gs ea j))
  (hd:(x==("__debug__" : Str))=false:=by decide) :
  SS X G (.Try body [.ExceptHandler (some (.Name x np)) (some n) (b₀::suite) hp] [] [] pos) (rZ x fl X.N.length i gb gs):=by
 refine⟨_,XF.xb (fl:=fl) hK hst hfr hg hm hN hi hl hd,λA δ μ O α σ H Dn E k=>?_⟩
 have E':SEv X.K X.mg ⟨A.R0,O,α,H⟩ O α H σ δ μ:=⟨E.sr,Go.refl,E.len,E.at_⟩
 unfold rZ at k
 rw[<-E.sr.len] at k
 cases e:gb α.length δ μ with
 | none=>rw[e] at k;exact k.elim
 | some r =>
  rw[e] at k
  cases r with
  | ok o =>
   refine⟨E0,λpn xe hps=>?_,λc d H' z=>z.elim⟩
   obtain⟨t,p,hB⟩:=hb pn xe E0 hps
   refine⟨t,p,hB ⟨A.R0,O,α,H⟩ δ μ O α σ H Dn E' ?_⟩
   show okR _ (gb α.length δ μ) _
   rw[e]
   have k:jC X.K X.mg A O α H Dn o:=k
   show jC X.K X.mg ⟨A.R0,O,α,H⟩ O α H Dn o
   cases o with
   | nx δ' μ'=>exact λO1 α1 σ1 H1 E1 T1=>k O1 α1 σ1 H1 ⟨E1.sr,E.st.trans T1,E1.len,E1.at_⟩ T1
   | rt v μ'=>exact λv O1 α1 H1 S1 T1 r1=>k v O1 α1 H1 S1 (E.st.trans T1) r1
   | bk δ' μ'=>exact λO1 α1 σ1 H1 E1 T1=>k O1 α1 σ1 H1 ⟨E1.sr,E.st.trans T1,E1.len,E1.at_⟩ T1
   | ct δ' μ'=>exact λO1 α1 σ1 H1 E1 T1=>k O1 α1 σ1 H1 ⟨E1.sr,E.st.trans T1,E1.len,E1.at_⟩ T1
  | error y =>
   obtain⟨⟨yc,yf⟩,μ1⟩:=y
   dsimp only at k
   split at k
   ·rename_i f j
    by_cases hy:yc=x/\f=fl
    ·rw[if_pos hy] at k
     obtain⟨rfl,rfl⟩:=hy
     refine⟨λc d H'=>c=.ref C/\∃a H1,d=some a/\H1 a=none/\H'=upd H1 a (.xd [(f,.int j)])/\∃O' α',Go O α H O' α' H1/\SR X.K X.mg A.R0 O' α' H1 μ1,λpn xe hps=>?_,λc d H' z=>?_⟩
     ·obtain⟨t,p,hB⟩:=hb pn xe _ hps
      refine⟨t,p,hB ⟨A.R0,O,α,H⟩ δ μ O α σ H Dn E' ?_⟩
      show okR _ (gb α.length δ μ) _
      rw[e]
      intro O' α' H' T' S' C' hC'
      have hC':X.mg yc=some (.ref C'):=hC'
      rw[hm] at hC'
      exact λa ha=>⟨Option.some.inj hC'.symm▸rfl,a,H',rfl,ha,rfl,O',α',T',S'⟩
     ·obtain⟨z1,a,H1,z2,z4,z5,O',α',T',S'⟩:=z
      refine⟨z1,a,H1,j,z2,z4,z5,λpn ea oe od tk i1 i2 i3 i4 i5 i6=>?_⟩
      obtain⟨t,p,hB⟩:=hs pn ea oe a od j tk i1 i2 i3 i4 i5 i6
      refine⟨t,p,hB O' (λ_=>False) H1 (exS X.N.length i ea) O' _ H1 (Dn.gone i) (AC S'.oo) ?_⟩
      have k0:ok (λ_=>False) (cc X.N.length i (λa=>gs a j)) (zR (jC X.K X.mg A O α H Dn) μ1):=sx k
      have k1:=ay (lG k0 ea)
      refine kl (aq (jI k1) λo q=>?_) λy z=>z.elim
      have q:zR (jC X.K X.mg A O α H Dn) μ1 (o.gone i):=q
      cases o with
      | nx δ2 =>
       intro O2 σ2 H2 F
       have sm:aJ H1 H2:=λb u h=>F.keep b u (λz=>z) h
       refine q O' α' (σ2.set i none) H2 ⟨S'.same sm,(E.st.trans T').trans (Go.same sm),?_,λj v hj=>?_⟩ (T'.trans (Go.same sm))
       ·rw[Y3,ι,Y3];exact F.ev.len
       ·rw[Φ,DL.bH] at hj
        rw[DL.bH]
        by_cases hij:i=j
        ·rw[if_pos hij] at hj
         split at hj<;>cases hj
        ·rw[if_neg hij] at hj ⊢
         cases hs2:δ2[j]? with
         | none=>rw[hs2] at hj;cases hj
         | some sl =>
          rw[hs2] at hj
          have at2:=F.ev.at_ j sl hs2
          cases sl with
          | vl d =>
           cases hj
           obtain⟨v,h1,h2⟩:=at2
           exact⟨v,h1,.d (h2.to (.less F.sub))⟩
          | _=>cases hj
      | rt d =>
       intro v H2 kp r
       have sm:aJ H1 H2:=λb u h=>kp b u (λz=>z) h
       exact q v O' α' H2 (S'.same sm) ((E.st.trans T').trans (Go.same sm)) (.d r)
      | bk δ2=>exact q.elim
      | ct δ2=>exact q.elim
    ·rw[if_neg hy] at k
     exact k.elim
   ·exact k.elim
end
end SL
namespace SL
open PyProof.Rows L2 DL
noncomputable def nZ(es:List (Key×Val))(k:Key):List (Key×Val):=es.filter λe=>decide (e.1≠k)
noncomputable def r6(fo fi:ar->Sto->R (Val×Sto)):ar->Sto->R (Val×Sto):=λδ μ=>(fo δ μ).thn λp=>match p.1 with
 | .h k=>match p.2[k]? with
  | some (.dct _)=>(fi δ p.2).thn λq=>match q.1 with
   | .d y=>match iz y,q.2[k]? with
    | some kk,some (.dct es)=>match es.find? (λe=>decide (e.1=kk)) with
     | some e=>R.ret (e.2,q.2.set k (.dct (nZ es kk)))
     | none=>none
    | _,_=>none
   | _=>none
  | _=>none
 | _=>none
section
variable{K:ε}{O:List Addr}{α:List (Option Addr)}{H:Hp}
theorem rb{k:Key}:∀{kvs:List (Key×V)} {es:List (Key×Val)},kvs.map (·.1)=es.map (·.1)->VRs K O α H (kvs.map (·.2)) (es.map (·.2)) ->
  (kQ kvs k).map (·.1)=(nZ es k).map (·.1)/\VRs K O α H ((kQ kvs k).map (·.2)) ((nZ es k).map (·.2))/\∀e,es.find? (λe=>decide (e.1=k))=some e->∃v,iB kvs k=some v/\VR K O α H v e.2
 | [],[],_,_=>⟨rfl,.nil,λe h=>nomatch h⟩
 | [],_::_,hk,_=>nomatch hk
 | _::_,[],hk,_=>nomatch hk
 | p::kvs,e::es,hk,r=>by
  simp only[Z2,List.cons.injEq] at hk
  rw[Z2,Z2] at r
  cases r with
  | cons r1 rs =>
   obtain⟨i1,i2,i3⟩:=rb (k:=k) hk.2 rs
   unfold kQ nZ at i1 i2 ⊢
   by_cases c:e.1=k
   ·have c':p.1=k:=by rw[hk.1];exact c
    rw[List.filter_cons_of_neg (by simpa using c'),List.filter_cons_of_neg (by simpa using c)]
    refine⟨i1,i2,λx h=>?_⟩
    rw[List.find?_cons_of_pos (by simpa using c)] at h
    cases h
    exact⟨p.2,iE c',r1⟩
   ·have c':¬p.1=k:=by rw[hk.1];exact c
    rw[List.filter_cons_of_pos (by simpa using c'),List.filter_cons_of_pos (by simpa using c)]
    refine⟨by rw[Z2,Z2,hk.1,i1],.cons r1 i2,λx h=>?_⟩
    rw[List.find?_cons_of_neg (by simpa using c)] at h
    rw[gA c']
    exact i3 x h
end
section
variable{X:Cx}{G:XD->Hp->Prop}{e o:Expr}{es:List Expr}{pos apos cpos:Pos}{fo fi:ar->Sto->R (Val×Sto)}
theorem vx(ho:SX X G o fo)(hi:SX X G e fi)(m:M1 X o "pop" apos e cpos):SX X G (.Call (.Attribute o "pop" apos) [e] [] cpos) (r6 fo fi):=by
 obtain⟨t,p,ho⟩:=ho
 obtain⟨u,q,hi⟩:=hi
 refine⟨_,yX p q m,λA δ μ O α σ H Q E k=>?_⟩
 refine ho A δ μ O α σ H _ E (aD (aI k) λr z v O1 α1 H1 T1 S1 r1=>?_)
 have E1:=E.go T1 S1
 obtain⟨p1,p2⟩:=r
 match p1,z,r1 with
 | .h kk,z,r1 =>
  obtain⟨l,hl,rfl⟩:=r1.hinv
  obtain⟨ob,g1,g2⟩:=S1.at_ kk l hl
  dsimp only at z
  rw[g1] at z
  match ob,z,g2 with
  | .dct es0,z,g2 =>
   refine⟨l,rfl,.inl ⟨_,.inl g2.2.2.choose_spec.1⟩,?_⟩
   have z:okR _ ((fi δ p2).thn _) _:=z
   refine hi A δ p2 O1 α1 σ H1 _ E1 (aD (bG (aI z) λx μ h=>Er.go T1 h) λqq y kv O3 α3 H3 T3 S3 r3=>?_)
   obtain⟨qv,qμ⟩:=qq
   match qv,y,r3 with
   | .d yd,y,r3 =>
    dsimp only at y
    split at y
    ·rename_i ky es hq hk
     have q3':=T3.ex _ _ hl
     obtain⟨ob,g1,g2⟩:=S3.at_ kk l q3'
     rw[hk] at g1
     cases g1
     obtain⟨g3,g4,kvs,g5,g6,g7⟩:=g2
     obtain⟨d1,d2,d3⟩:=rb (k:=ky) g6 g7
     split at y
     ·rename_i ee he
      obtain⟨v,hv,rv⟩:=d3 ee he
      refine⟨kvs,ky,v,g5,nA hq r3.dinv,hv,?_⟩
      have T4:To O3 O3 H3 (upd H3 l (.dK (kQ kvs ky))):=To.setD g5 g3
      exact y v O3 α3 _ (T1.trans (T3.trans (Go.setL q3'))) (S3.setO q3' hk T4 (Mu.dct aA) ⟨g3,g4,_,aA,d1,d2.to T4 λ_ _ h=>h⟩) (rv.to T4 λ_ _ h=>h)
     ·exact y.elim
    ·exact y.elim
theorem wu{δ:ar}{μ μ1:Sto}{k:Nat}{y:D}{kk:Key}{e0:Key×Val}{es:List (Key×Val)}(h1:fo δ μ=R.ret (.h k,μ1))(h2:μ1[k]?=some (.dct es))(h3:fi δ μ1=R.ret (.d y,μ1))(hy:iz y=some kk)(h4:es.find? (λe=>decide (e.1=kk))=some e0):r6 fo fi δ μ=R.ret (e0.2,μ1.set k (.dct (nZ es kk))):=by
 unfold r6
 rw[h1,bf]
 dsimp only
 rw[h2]
 dsimp only
 rw[h3,bf]
 dsimp only
 rw[hy,h2]
 dsimp only
 rw[h4]
noncomputable def r9(fo fi:ar->Sto->R (Val×Sto)):ar->Sto->R (Val×Sto):=λδ μ=>(fo δ μ).thn λp=>match p.1 with
 | .h k=>(fi δ p.2).thn λq=>match q.1 with
  | .d y=>match iz y,q.2[k]? with
   | some kk,some (.dct es)=>match es.find? (λe=>decide (e.1=kk)) with
    | some e=>R.ret (e.2,q.2)
    | none=>none
   | _,_=>none
  | _=>none
 | _=>none
theorem vy(hu:X.A.units+1<cLine)(ho:SX X G o fo)(hi:SX X G e fi)(hs:NoSl e):SX X G (.Subscript o e pos) (r9 fo fi):=by
 obtain⟨t,p,ho⟩:=ho
 obtain⟨u,q,hi⟩:=hi
 refine⟨_,Bu hu p q hs,λA δ μ O α σ H Q E k=>?_⟩
 refine ho A δ μ O α σ H _ E (aD (aI k) λr z v O1 α1 H1 T1 S1 r1=>?_)
 have E1:=E.go T1 S1
 obtain⟨p1,p2⟩:=r
 match p1,z,r1 with
 | .h kk,z,r1 =>
  obtain⟨l,hl,rfl⟩:=r1.hinv
  have z:okR _ ((fi δ p2).thn _) _:=z
  refine hi A δ p2 O1 α1 σ H1 _ E1 (aD (bG (aI z) λx μ h=>Er.go T1 h) λqq y kv O3 α3 H3 T3 S3 r3=>?_)
  obtain⟨qv,qμ⟩:=qq
  match qv,y,r3 with
  | .d yd,y,r3 =>
   dsimp only at y
   split at y
   ·rename_i ky es hq hk
    have q3':=T3.ex _ _ hl
    obtain⟨ob,g1,g2⟩:=S3.at_ kk l q3'
    rw[hk] at g1
    cases g1
    obtain⟨g3,g4,kvs,g5,g6,g7⟩:=g2
    obtain⟨d1,d2,d3⟩:=rb (k:=ky) g6 g7
    split at y
    ·rename_i ee he
     obtain⟨v,hv,rv⟩:=d3 ee he
     exact⟨l,v,rfl,.inl ⟨kvs,ky,.inl g5,nA hq r3.dinv,hv.symm⟩,y v O3 α3 H3 (T1.trans T3) S3 rv⟩
    ·exact y.elim
   ·exact y.elim
theorem wv{δ:ar}{μ μ1 μ2:Sto}{k:Nat}{y:D}{kk:Key}{e0:Key×Val}{es:List (Key×Val)}(h1:fo δ μ=R.ret (.h k,μ1))(h3:fi δ μ1=R.ret (.d y,μ2))(hy:iz y=some kk)(h2:μ2[k]?=some (.dct es))(h4:es.find? (λe=>decide (e.1=kk))=some e0):r9 fo fi δ μ=R.ret (e0.2,μ2):=by
 unfold r9
 rw[h1,bf]
 dsimp only
 rw[h3,bf]
 dsimp only
 rw[hy,h2]
 dsimp only
 rw[h4]
noncomputable def r0(n:Bool)(fi fo:ar->Sto->R (Val×Sto)):ar->Sto->R (Bool×Sto):=λδ μ=>(fi δ μ).thn λq=>(fo δ q.2).thn λp=>match q.1,p.1 with
 | .d y,.h k=>match iz y,p.2[k]? with
  | some kk,some (.dct es)=>R.ret (cond n (!(es.any λe=>decide (e.1=kk))) (es.any λe=>decide (e.1=kk)),p.2)
  | _,_=>none
 | _,_=>none
theorem vZ{n:Bool}{ti to:TE}{A:An}{δ:ar}{μ:Sto}{O:List Addr}{α:List (Option Addr)}{σ:L2.St}{H:Hp}{Q:Bool->Hp->Prop}
  (hi:∀(A:An) (δ:ar) (μ:Sto) (O:List Addr) (α:List (Option Addr)) (σ:L2.St) (H:Hp) (Q:VK),SEv X.K X.mg A O α H σ δ μ->okR (Er X.K X.mg G A.R0 O α H) (fi δ μ) (λr=>∀v O' α' H',Go O α H O' α' H'->SR X.K X.mg A.R0 O' α' H' r.2->VR X.K O' α' H' v r.1->Q v H')->ti σ H Q)
  (ho:∀(A:An) (δ:ar) (μ:Sto) (O:List Addr) (α:List (Option Addr)) (σ:L2.St) (H:Hp) (Q:VK),SEv X.K X.mg A O α H σ δ μ->okR (Er X.K X.mg G A.R0 O α H) (fo δ μ) (λr=>∀v O' α' H',Go O α H O' α' H'->SR X.K X.mg A.R0 O' α' H' r.2->VR X.K O' α' H' v r.1->Q v H')->to σ H Q)
  (E:SEv X.K X.mg A O α H σ δ μ) (k:okR (Er X.K X.mg G A.R0 O α H) (r0 n fi fo δ μ) (λr=>∀O' α' H',Go O α H O' α' H'->SR X.K X.mg A.R0 O' α' H' r.2->Q r.1 H')) :
  ti σ H λy H1=>to σ H1 λx H2=>∃a o,x=.ref a/\tK H2 a y o/\Q (cond n (!o.isSome) o.isSome) H2:=by
 refine hi A δ μ O α σ H _ E (aD (aI k) λr z v O1 α1 H1 T1 S1 r1=>?_)
 have E1:=E.go T1 S1
 refine ho A δ r.2 O1 α1 σ H1 _ E1 (aD (bG (aI z) λx μ h=>Er.go T1 h) λq y u O2 α2 H2 T2 S2 r2=>?_)
 have r1':=r1.to (T2.to S1) T2.ex
 obtain⟨p1,p2⟩:=r
 obtain⟨q1,q2⟩:=q
 dsimp only at y r1' r2 S2
 split at y
 ·rename_i yd kk
  obtain⟨l,hl,rfl⟩:=r2.hinv
  split at y
  ·rename_i ky es hq hk
   obtain⟨ob,g1,g2⟩:=S2.at_ kk l hl
   rw[hk] at g1
   cases g1
   obtain⟨g3,g4,kvs,g5,g6,g7⟩:=g2
   have y:∀O' α' H',Go O α H O' α' H'->SR X.K X.mg A.R0 O' α' H' q2->Q (cond n (!(es.any λe=>decide (e.1=ky))) (es.any λe=>decide (e.1=ky))) H':=y
   refine⟨l,iB kvs ky,rfl,.inl ⟨kvs,ky,.inl g5,nA hq r1'.dinv,rfl⟩,?_⟩
   rw[<-mC,oE ky g6]
   exact y O2 α2 H2 (T1.trans T2) S2
  ·exact y.elim
 ·exact y.elim
theorem yo(hu:X.A.units+1<cLine)(hi:SX X G e fi)(ho:SX X G o fo)(hm:behindInMarks .In o=false:=by rfl):ST X G (.Compare e [.In] [o] pos) (r0 false fi fo):=by
 obtain⟨t,p,ho⟩:=ho
 obtain⟨u,q,hi⟩:=hi
 refine⟨_,mi (op_inD hu) q p hm,λA δ μ O α σ H Q E k=>?_⟩
 exact vZ (Q:=λb H=>∃c,V.bl b=.bl c/\Q c H) hi ho E (aD k λr z O' α' H' T S=>⟨_,rfl,z O' α' H' T S⟩)
theorem wW(hu:X.A.units+1<cLine)(hi:SX X G e fi)(ho:SX X G o fo)(hm:behindInMarks .NotIn o=false:=by rfl):ST X G (.Compare e [.NotIn] [o] pos) (r0 true fi fo):=by
 obtain⟨t,p,ho⟩:=ho
 obtain⟨u,q,hi⟩:=hi
 refine⟨_,mi (xn hu) q p hm,λA δ μ O α σ H Q E k=>?_⟩
 exact vZ (Q:=λb H=>∃c,V.bl b=.bl c/\Q c H) hi ho E (aD k λr z O' α' H' T S=>⟨_,rfl,z O' α' H' T S⟩)
theorem nU{n:Bool}{δ:ar}{μ μ1 μ2:Sto}{k:Nat}{y:D}{kk:Key}{es:List (Key×Val)}(h1:fi δ μ=R.ret (.d y,μ1))(h2:fo δ μ1=R.ret (.h k,μ2))(hy:iz y=some kk)(h3:μ2[k]?=some (.dct es)):r0 n fi fo δ μ=R.ret (cond n (!(es.any λe=>decide (e.1=kk))) (es.any λe=>decide (e.1=kk)),μ2):=by
 unfold r0
 rw[h1,bf,h2,bf]
 dsimp only
 rw[hy,h3]
noncomputable def fj(F:List D->M D)(fa:ar->Sto->R (List Val×Sto)):ar->Sto->R (Val×Sto):=λδ μ=>(fa δ μ).thn λq=>match dW q.1 with
 | some ds=>(ofM (F ds) q.2).thn λd=>R.ret (.d d,q.2)
 | none=>none
theorem wS{k n:Nat}{x:Str}{p:Pos}{F:List D->M D}{Ex:XK}{fa:ar->Sto->R (List Val×Sto)}(h:DefX X.prog X.w X.K X.mg X.base k x n F)(hr:Room k X.A)(hx:du (CXE X.prog X.w) X Ex)(hG:∀x H,G x H->GX X.mg Ex x H)(hg:Gl X x)(hn:(e::es).length=n)(ha:SA X G (e::es) fa)
  (hdb:(x==("__debug__" : Str))=false:=by decide) (he:starEach (e::es) X.env=(false,eval e X.env)::starEach es X.env:=by rfl) (hpl:(backTo pos (starEach es X.env)).any (·.1)=false:=by rfl) :
  SX X G (.Call (.Name x p) (e::es) [] pos) (fj F fa):=by
 obtain⟨f,fd,ps,F1,hm,hk,hb⟩:=h.ex
 obtain⟨hl,t,pa,ha⟩:=ha
 refine⟨_,ke F1 hr hg hm hk hb .nil hx pa hdb he hpl,λA δ μ O α σ H Q E k=>?_⟩
 have k1:=aI k
 refine ha A δ μ O α σ H _ E ?_
 cases e1:fa δ μ with
 | none=>rw[e1] at k1;exact k1.elim
 | some r =>
  rw[e1] at k1
  cases r with
  | error x=>exact k1
  | ok r =>
   have hlen:=hl δ μ r e1
   refine λvs O1 α1 H1 T1 S1 rs=>?_
   obtain⟨r1,r2⟩:=r
   have k9:okR (Er X.K X.mg G A.R0 O α H) (match dW r1 with | some ds=>(ofM (F ds) r2).thn λd=>R.ret (Val.d d,r2) | none=>none) (λr=>∀v O' α' H',Go O α H O' α' H'->SR X.K X.mg A.R0 O' α' H' r.2->VR X.K O' α' H' v r.1->Q v H'):=k1
   cases e2:dW r1 with
   | none=>rw[e2] at k9;exact k9.elim
   | some ds =>
    rw[e2] at k9
    clear k1
    have e3:=gk e2
    subst e3
    have k2:=aI k9
    refine⟨O1,ds,?_,S1.oo,?_,?_⟩
    ·rw[Λ,rs.length,hlen];exact hn
    ·rw[Λ];exact rs.undata
    ·exact kl (aq (ln S1 (bG k2 λx μ h=>Er.go T1 h)) λd z v H2 s2 r=>z v O1 α1 H2 (T1.trans (Go.same s2)) (S1.same s2) (.d r)) λy q H2 s2=>hG y H2 (q H2 s2)
theorem BN{β:Type}{G:XD->Sto->Prop}{r:M β}{μ:Sto}{k:β->Prop}(h:okR G (ofM (noX r) μ) k):ok (λ_=>False) r k:=by
 match r,h with
 | some (.ok a),h=>exact h
theorem wT{k n:Nat}{x:Str}{p:Pos}{F:List D->M D}{fa:ar->Sto->R (List Val×Sto)}(h:DefX X.prog X.w X.K X.mg X.base k x n F)(hr:Room k X.A)(hg:Gl X x)(hn:(e::es).length=n)(ha:SA X G (e::es) fa)
  (hdb:(x==("__debug__" : Str))=false:=by decide) (he:starEach (e::es) X.env=(false,eval e X.env)::starEach es X.env:=by rfl) (hpl:(backTo pos (starEach es X.env)).any (·.1)=false:=by rfl) :
  SX X G (.Call (.Name x p) (e::es) [] pos) (fj (λds=>noX (F ds)) fa):=by
 obtain⟨f,fd,ps,F1,hm,hk,hb⟩:=h.ex
 obtain⟨hl,t,pa,ha⟩:=ha
 refine⟨_,ke F1 hr hg hm hk hb .nil kj pa hdb he hpl,λA δ μ O α σ H Q E k=>?_⟩
 have k1:=aI k
 refine ha A δ μ O α σ H _ E ?_
 cases e1:fa δ μ with
 | none=>rw[e1] at k1;exact k1.elim
 | some r =>
  rw[e1] at k1
  cases r with
  | error x=>exact k1
  | ok r =>
   have hlen:=hl δ μ r e1
   refine λvs O1 α1 H1 T1 S1 rs=>?_
   obtain⟨r1,r2⟩:=r
   have k9:okR (Er X.K X.mg G A.R0 O α H) (match dW r1 with | some ds=>(ofM (noX (F ds)) r2).thn λd=>R.ret (Val.d d,r2) | none=>none) (λr=>∀v O' α' H',Go O α H O' α' H'->SR X.K X.mg A.R0 O' α' H' r.2->VR X.K O' α' H' v r.1->Q v H'):=k1
   cases e2:dW r1 with
   | none=>rw[e2] at k9;exact k9.elim
   | some ds =>
    rw[e2] at k9
    clear k1
    have e3:=gk e2
    subst e3
    have k2:=aI k9
    refine⟨O1,ds,?_,S1.oo,?_,?_⟩
    ·rw[Λ,rs.length,hlen];exact hn
    ·rw[Λ];exact rs.undata
    ·exact ng (aq (BN k2) λd z v H2 s2 r=>z v O1 α1 H2 (T1.trans (Go.same s2)) (S1.same s2) (.d r))
theorem BQ{β:Type}(r:M β):noX (noX r)=noX r:=by
 match r with
 | none=>rfl
 | some (.ok a)=>rfl
 | some (.error x)=>rfl
theorem wR{k n:Nat}{x:Str}{p:Pos}{F:List D->M D}{fa:ar->Sto->R (List Val×Sto)}(h:Def X.prog X.w X.K X.mg X.base k x n F)(hr:Room k X.A)(hg:Gl X x)(hn:(e::es).length=n)(ha:SA X G (e::es) fa)
  (hdb:(x==("__debug__" : Str))=false:=by decide) (he:starEach (e::es) X.env=(false,eval e X.env)::starEach es X.env:=by rfl) (hpl:(backTo pos (starEach es X.env)).any (·.1)=false:=by rfl) :
  SX X G (.Call (.Name x p) (e::es) [] pos) (fj (λds=>noX (F ds)) fa):=by
 have:=wT (p:=p) (pos:=pos) h.x hr hg hn ha hdb he hpl
 simp only[BQ] at this
 exact this
theorem sW{F:List D->M D}{fa:ar->Sto->R (List Val×Sto)}{δ:ar}{μ μ1:Sto}{ds:List D}{d:D}(h1:fa δ μ=R.ret (ds.map Val.d,μ1))(h2:F ds=M.ret d):fj F fa δ μ=R.ret (.d d,μ1):=by
 unfold fj
 rw[h1,bf]
 dsimp only
 rw[n9]
 dsimp only
 rw[h2]
 rfl
theorem AB{F:List D->M D}{fa:ar->Sto->R (List Val×Sto)}{δ:ar}{μ μ1:Sto}{ds:List D}{y:XD}(h1:fa δ μ=R.ret (ds.map Val.d,μ1))(h2:F ds=some (.error y)):fj F fa δ μ=some (.error (y,μ1)):=by
 unfold fj
 rw[h1,bf]
 dsimp only
 rw[n9]
 dsimp only
 rw[h2]
 rfl
section
variable{f:ar->Sto->R (Val×Sto)}{fa:ar->Sto->R (List Val×Sto)}{g h:SG}{n i:Nat}{δ:ar}{μ:Sto}{z:XD×Sto}
theorem ik(h1:g n δ μ=some (.error z)):bN g h n δ μ=some (.error z):=by unfold bN;rw[h1];rfl
theorem uV(h1:f δ μ=some (.error z)):e5 i f n δ μ=some (.error z):=by unfold e5;rw[h1];rfl
theorem qZ(h1:f δ μ=some (.error z)):fv f n δ μ=some (.error z):=by unfold fv;rw[h1];rfl
theorem Ax(h1:f δ μ=some (.error z)):fG f n δ μ=some (.error z):=by unfold fG;rw[h1];rfl
theorem Cd(h1:f δ μ=some (.error z)):lH fo fi f n δ μ=some (.error z):=by unfold lH;rw[h1];rfl
theorem lB{xs:List Val}(h1:g μ.length (eI n xs) μ=some (.error z)):fW n g xs μ=some (.error z):=by unfold fW;rw[h1];rfl
theorem Ce(h1:f δ μ=some (.error z)):bb f fa δ μ=some (.error z):=by unfold bb;rw[h1];rfl
theorem Az{v:Val}{μ1:Sto}(h0:f δ μ=R.ret (v,μ1))(h1:fa δ μ1=some (.error z)):bb f fa δ μ=some (.error z):=by unfold bb;rw[h0,bf];show R.thn (fa δ μ1) _=_;rw[h1];rfl
theorem Cf{F:List D->M D}(h1:fa δ μ=some (.error z)):fj F fa δ μ=some (.error z):=by unfold fj;rw[h1];rfl
theorem fA{c m:Str}{F:List Val->Sto->R (Val×Sto)}{k:Nat}{μ1 μ2:Sto}{fs:List (Str×Val)}{xs:List Val}{r:R (Val×Sto)}(h1:fo δ μ=R.ret (.h k,μ1))(h2:μ1[k]?=some (.ins c fs))(h3:fs.lookup m=none)(h4:fa δ μ1=R.ret (xs,μ2))(h5:F (.h k::xs) μ2=r):gB c m F fo fa δ μ=r:=by
 unfold gB
 rw[h1,bf]
 dsimp only
 rw[h2]
 dsimp only
 rw[if_pos ⟨rfl,h3⟩,h4,bf]
 exact h5
theorem Ay{x:Str}{fd:DS->M (List D)}{ds:List D}(h1:fd (view δ)=M.ret ds)(hs:aN ds.length=true):mW x fd n δ μ=some (.error (⟨x,[]⟩,μ)):=by
 unfold mW
 rw[h1]
 show(if aN ds.length=true then _ else none)=_
 rw[if_pos hs]
theorem es_try{x:Str}{N:Nat}{gs:Addr->DS->M Out}{o:OutS}(h1:g μ.length δ μ=R.ret o):tY x N i g gs n δ μ=R.ret o:=by unfold tY;rw[h1];rfl
theorem Cb{x:Str}{N:Nat}{gs:Addr->DS->M Out}{y:XD}{μ1:Sto}{r:R OutS}(h1:g μ.length δ μ=some (.error (y,μ1)))(hy:y.cls=x)(h2:pB (cc N i gs) μ1=r):tY x N i g gs n δ μ=r:=by
 unfold tY
 rw[h1]
 dsimp only
 rw[if_pos hy]
 exact h2
theorem Ap{x fl:Str}{N:Nat}{gs:Addr->Int->DS->M Out}{j:Int}{μ1:Sto}{r:R OutS}(h1:g μ.length δ μ=some (.error (⟨x,[(fl,.int j)]⟩,μ1)))(h2:pB (cc N i (λa=>gs a j)) μ1=r):rZ x fl N i g gs n δ μ=r:=by
 unfold rZ
 rw[h1]
 dsimp only
 rw[if_pos ⟨rfl,rfl⟩]
 exact h2
end
end
end SL
namespace CT
open L2 DL SL
noncomputable def cg:List (Key×D):=[(.inr "sign",.int 60),(.inr "least",.int 1000),(.inr "most",.int 7000),(.inr "apart",.int 80),(.inr "shy",.int 200),(.inr "begin",.int 2),(.inr "end",.int 1)]
noncomputable def cH:List (Key×D):=[(.inr "set",.int 3),(.inr "cut",.int 2),(.inr "uncut",.int 2),(.inr "cues",.int 2),(.inr "drop",.int 2),(.inr "show",.int 2),(.inr "broken",.int 2),(.inr "price",.int 2),(.inr "time",.int 3),(.inr "both",.int 6),(.inr "rows",.int 5),(.inr "part",.int 3),(.inr "join",.int 3)]
noncomputable def fw:DS->M Out:=(bo (ci (dj eJ (dCB kt (ai (d2 oIx (aj 0) (dC (.int 0))) az)) (ai (dC (.int 2)) az)) (tgN 3))
  (bo (ci (dj eJ (dCB kt (ai (d2 oIx (aj 0) (dC (.int 1))) az)) (ai (dC (.int 2)) az)) (tgN 4))
  (bo (ci (dj eJ (dCB kt (ai (d2 oIx (aj 0) (dC (.int 2))) az)) (ai (dC (.int 2)) az)) (tgN 5))
  (bo (ci (dj eJ (dCB kt (ai (d2 oIx (aj 0) (dC (.int 3))) az)) (ai (aj 2) az)) (tgN 6))
  (cF (kD ((dFV (aj 3))::((dC (.str ":"))::((dFV (aj 4))::((dC (.str ":"))::((dFV (aj 5))::((dFV (aj 1))::((dFV (aj 6))::[]))))))) Str.empty))))))
noncomputable def eC:List D->M D:=run 7 fw
noncomputable def eS:DS->M Out:=(bo (ci (d2 iT (aj 0) (dC (.int 1000))) (tgN 1))
  (bo (ci (d2 iT (aj 1) (dC (.int 60))) (tgN 2))
  (cF (br (λds=>noX (eC ds)) (ai (oi (ai (d2 iT (aj 2) (dC (.int 60))) (ai (d2 di (aj 2) (dC (.int 60))) (ai (d2 di (aj 1) (dC (.int 60))) (ai (d2 di (aj 0) (dC (.int 1000))) az))))) (ai (dC (.str ".")) (ai (dC (.int 3)) az)))))))
noncomputable def dM:List D->M D:=run 3 eS
noncomputable def cO:DS->M Out:=(cF (br (λds=>noX (dM ds)) (ai (aj 1) az)))
noncomputable def bP:List D->M D:=run 2 cO
noncomputable def gp:DS->M Out:=(cF (dG (d2 oNe (aj 0) (dC (.str ""))) (dCB sD (ai (gz 1 [] (tgN 0) (jz (aj 0)) kS (d2 zv (aj 0) (dC (.str "0123456789")))) az))))
noncomputable def cx:List D->M D:=run 1 gp
noncomputable def gn:DS->M Out:=(cF (dG (d2 oEq (dCB gE (ai (aj 0) az)) (aj 1)) (br (λds=>noX (cx ds)) (ai (aj 0) az))))
noncomputable def bR:List D->M D:=run 2 gn
noncomputable def gg:DS->M Out:=(bo (gIf (dB (br (λds=>noX (bR ds)) (ai (aj 0) (ai (dC (.int 2)) az)))) (cF (dC (.bool true))) dF)
  (cF (dG (dX fk fk (dC (.int 3)) (dCB gE (ai (aj 0) az)) (dC (.int 20))) (dG (br (λds=>noX (cx ds)) (ai (aj 0) az)) (d2 oNe (d2 oIx (aj 0) (dC (.int 0))) (dC (.str "0")))))))
noncomputable def ff:List D->M D:=run 1 gg
noncomputable def fm:DS->M Out:=(cF (dG (br (λds=>noX (bR ds)) (ai (aj 0) (ai (dC (.int 2)) az))) (d2 oLt (dCB iS (ai (aj 0) az)) (dC (.int 60)))))
noncomputable def cb:List D->M D:=run 1 fm
noncomputable def fx:DS->M Out:=(bo (gIf (ja (dB (dIs "str" (aj 0)))) (qR "NoTime" (ai (dC (.str "this is no text")) az)) dF)
  (bo (ci (dj cr (aj 0) (ai (dC (.str ":")) az)) (tgN 3))
  (bo (ci (dj cr (d2 oIx (aj 3) (dC (.int 2))) (ai (dC (.str ":")) az)) (tgN 4))
  (bo (ci (dj cr (d2 oIx (aj 4) (dC (.int 2))) (ai (aj 1) az)) (tgN 5))
  (bo (gIf (ja (oj (dB (br (λds=>noX (ff ds)) (ai (d2 oIx (aj 3) (dC (.int 0))) az))) (oj (dB (br (λds=>noX (cb ds)) (ai (d2 oIx (aj 4) (dC (.int 0))) az))) (dB (br (λds=>noX (cb ds)) (ai (d2 oIx (aj 5) (dC (.int 0))) az)))))) (qR "NoTime" (ai (dC (.str "these are no hours, minutes and seconds")) az)) dF)
  (bo (gIf (ja (dB (br (λds=>noX (bR ds)) (ai (d2 oIx (aj 5) (dC (.int 2))) (ai (aj 2) az))))) (qR "NoTime" (ai (dC (.str "the figures behind the seconds are none, too few or too many")) az)) dF)
  (cF (oi (ai (dCB iS (ai (d2 oIx (aj 3) (dC (.int 0))) az)) (ai (dCB iS (ai (d2 oIx (aj 4) (dC (.int 0))) az)) (ai (dCB iS (ai (d2 oIx (aj 5) (dC (.int 0))) az)) (ai (dCB iS (ai (d2 oIx (aj 5) (dC (.int 2))) az)) az))))))))))))
noncomputable def eD:List D->M D:=run 6 fx
noncomputable def eU:DS->M Out:=(bo (ci (br eD (ai (aj 0) (ai (dC (.str ".")) (ai (dC (.int 3)) az)))) (tgN 1))
  (bo (ci (d2 b5 (d2 oV (dC (.int 60)) (d2 b5 (d2 oV (dC (.int 60)) (d2 oIx (aj 1) (dC (.int 0)))) (d2 oIx (aj 1) (dC (.int 1))))) (d2 oIx (aj 1) (dC (.int 2)))) (tgN 2))
  (cF (d2 b5 (d2 oV (dC (.int 1000)) (aj 2)) (d2 oIx (aj 1) (dC (.int 3)))))))
noncomputable def dN:List D->M D:=run 3 eU
noncomputable def cP:DS->M Out:=(cF (br dN (ai (aj 1) az)))
noncomputable def bE:List D->M D:=run 2 cP
noncomputable def gi:SL.SG:=(bN (iI "Desk" "cues" (aY 0) r8)
  (bN (iI "Desk" "clock" (aY 0) (bq (dC (nI "Thousandths" []))))
  (bN (iI "Desk" "settings" (aY 0) (tZ cg))
  (iI "Desk" "cuts" (aY 0) (vD (sJ az))))))
noncomputable def cm:List SL.Val->SL.Sto->SL.R (SL.Val×SL.Sto):=SL.fW 1 gi
noncomputable def b6:DS->M Out:=(bo (gIf (ja (dB (dIs "str" (aj 0)))) uN dF)
  (bo (ci (dj cr (aj 0) (ai (dC (.str "\n")) az)) (tgN 1))
  (bo (ci (dj jH (d2 oIx (aj 1) (dC (.int 0))) (ai (dC (.str " ")) az)) (tgN 2))
  (bo (gIf (dB (d2 oEq (d2 oIx (aj 2) (dC (.int 0))) (dC (.str "cues")))) (cF (oi (ai (aj 2) (ai (d2 oIx (aj 1) (dC (.int 2))) az)))) dF)
  (cF (oi (ai (dj jH (aj 0) (ai (dC (.str " ")) az)) (ai (dC (.str "")) az))))))))
noncomputable def aS:List D->M D:=run 3 b6
noncomputable def kH:DS->M Out:=(bo (gIf (dB (d2 oEq (d2 oIx (aj 0) (dC (.int 0))) (dC (.str "clock")))) (cF (dOrV (d2 oEq (tj (aj 0) (p5 (dC (.int 1))) wz) (lE (ai (dC (.str "thousandths")) az))) (dG (d2 oEq (dCB gE (ai (aj 0) az)) (dC (.int 5))) (d2 oEq (d2 oIx (aj 0) (dC (.int 1))) (dC (.str "frames")))))) dF)
  (bo (gIf (dB (d2 oEq (d2 oIx (aj 0) (dC (.int 0))) (dC (.str "move")))) (cF (dG (d2 oGe (dCB gE (ai (aj 0) az)) (dC (.int 5))) (d2 oEq (d2 di (dCB gE (ai (aj 0) az)) (dC (.int 2))) (dC (.int 1))))) dF)
  (cF (d2 oEq (rg cH (d2 oIx (aj 0) (dC (.int 0)))) (dCB gE (ai (aj 0) az))))))
noncomputable def fV:List D->M D:=run 1 kH
noncomputable def hW:DS->M Out:=(cF (dj pq (dC (.str " ")) (ai (lE (ai (dMe "Thousandths" "show" (λds=>noX (bP ds)) (aj 0) (ai (d2 oIx (aj 1) (dC (.int 0))) az)) (ai (dMe "Thousandths" "show" (λds=>noX (bP ds)) (aj 0) (ai (d2 oIx (aj 1) (dC (.int 1))) az)) (ai (d2 oIx (aj 1) (dC (.int 2))) (ai (d2 oIx (aj 1) (dC (.int 3))) az))))) az)))
noncomputable def eQ:List D->M D:=run 2 hW
noncomputable def ge:DS->M Out:=(cF (dj pq (dC (.str "\n")) (ai (gz 1 [0] (tgN 0) (jz (aj 1)) kS (br (λds=>noX (eQ ds)) (ai (aj 1) (ai (aj 0) az)))) az)))
noncomputable def dv:List D->M D:=run 2 ge
noncomputable def dr:SL.SG:=(bN (sIf (r0 true (aY 1) (sAt "Desk" "cues" (aY 0))) (mW "NoName" (ai (dC (.str "no cues stand by this name")) az)) dY)
  (fG (r9 (sAt "Desk" "cues" (aY 0)) (aY 1))))
noncomputable def bD:List SL.Val->SL.Sto->SL.R (SL.Val×SL.Sto):=SL.fW 2 dr
noncomputable def gH:DS->M Out:=(bo (gIf (dOr (ja (dB (dIs "str" (aj 0)))) (ja (dB (dX fk fk (dC (.int 1)) (dCB gE (ai (aj 0) az)) (dC (.int 8)))))) (cF (dC (.bool false))) dF)
  (cF (dCB sD (ai (gz 1 [] (tgN 0) (jz (aj 0)) kS (dX fk fk (dC (.str "a")) (aj 0) (dC (.str "z")))) az))))
noncomputable def d7:List D->M D:=run 1 gH
noncomputable def hZ:DS->M Out:=(bo (gIf (ja (dB (br (λds=>noX (d7 ds)) (ai (aj 0) az)))) uN dF)
  (cF (aj 0)))
noncomputable def fU:List D->M D:=run 1 hZ
noncomputable def jM:DS->M Out:=(cF (dG (dIs "int" (aj 0)) (sZ (dIs "bool" (aj 0)))))
noncomputable def eR:List D->M D:=run 1 jM
noncomputable def ed:DS->M Out:=(cF (dG (dX fk fk (dC (.str "!")) (aj 0) (dC (.str "~"))) (d2 oNe (dCB BO (ai (aj 0) az)) (dC (.int 37)))))
noncomputable def cC:List D->M D:=run 1 ed
noncomputable def jl:DS->M Out:=(cF (dG (dX fk fk (dC (.int 1)) (dCB gE (ai (aj 0) az)) (dC (.int 30))) (dCB sD (ai (gz 1 [] (tgN 0) (jz (aj 0)) kS (br (λds=>noX (cC ds)) (ai (aj 0) az))) az))))
noncomputable def fE:List D->M D:=run 1 jl
noncomputable def gf:DS->M Out:=(cF (dG (dIs "str" (aj 0)) (dCB sD (ai (gz 1 [] (tgN 0) (jz (dj jH (aj 0) (ai (dC (.str " ")) az))) kS (br (λds=>noX (fE ds)) (ai (aj 0) az))) az))))
noncomputable def e9:List D->M D:=run 1 gf
noncomputable def kI:DS->M Out:=(bo (gIf (dOr (ja (dB (dIs "tuple" (aj 0)))) (dB (d2 oNe (dCB gE (ai (aj 0) az)) (dC (.int 4))))) (cF (dC (.bool false))) dF)
  (bo (gIf (dOr (ja (dB (br (λds=>noX (eR ds)) (ai (d2 oIx (aj 0) (dC (.int 0))) az)))) (ja (dB (br (λds=>noX (eR ds)) (ai (d2 oIx (aj 0) (dC (.int 1))) az))))) (cF (dC (.bool false))) dF)
  (cF (dG (dX fk oLt (dC (.int 0)) (d2 oIx (aj 0) (dC (.int 0))) (d2 oIx (aj 0) (dC (.int 1)))) (dG (br (λds=>noX (d7 ds)) (ai (d2 oIx (aj 0) (dC (.int 2))) az)) (br (λds=>noX (e9 ds)) (ai (d2 oIx (aj 0) (dC (.int 3))) az)))))))
noncomputable def gW:List D->M D:=run 1 kI
noncomputable def eM:DS->M Out:=(bo (ci (dj mf (aj 1) (ai (dC (.str " ")) (ai (dC (.int 3)) az))) (tgN 3))
  (bo (gIf (dB (d2 oNe (dCB gE (ai (aj 3) az)) (dC (.int 4)))) (dP "NoCue" "row" (ai (aj 2) az)) dF)
  (bo (nM "NoTime" 4 (oi (ai (dMe "Thousandths" "read" bE (nX (aj 0)) (λδ=>noX ((ai (d2 oIx (aj 3) (dC (.int 0))) az) δ))) (ai (dMe "Thousandths" "read" bE (nX (aj 0)) (λδ=>noX ((ai (d2 oIx (aj 3) (dC (.int 1))) az) δ))) (ai (nX (d2 oIx (aj 3) (dC (.int 2)))) (ai (nX (d2 oIx (aj 3) (dC (.int 3)))) az))))) (dP "NoCue" "row" (ai (aj 2) az)))
  (bo (gIf (ja (dB (br (λds=>noX (gW ds)) (ai (aj 4) az)))) (dP "NoCue" "row" (ai (aj 2) az)) dF)
  (cF (aj 4))))))
noncomputable def cw:List D->M D:=run 5 eM
noncomputable def gG:DS->M Out:=(cF (dIf (dTr (aj 0)) (dj jH (aj 0) (ai (dC (.str "\n")) az)) (lE az)))
noncomputable def fD:List D->M D:=run 1 gG
noncomputable def db:DS->M Out:=(bo (ci (br cw (ai (aj 0) (ai (aj 4) (ai (aj 3) az)))) (tgN 5))
  (bo (gIf (rf 2 (oj (dTr (aj 2)) (dB (d2 oLt (d2 oIx (aj 5) (dC (.int 0))) (d2 oIx (d2 oIx (aj 2) (d1 BP (dC (.int 1)))) (dC (.int 0))))))) (dP "NoCue" "row" (ai (aj 3) az)) dF)
  (qS 2 (aj 5))))
noncomputable def d4:DS->M Out:=(bo (gIf (ja (dB (dIs "str" (aj 1)))) (dP "NoCue" "row" (ai (dC (.int 1)) az)) dF)
  (bo (nN 2 (sJ az))
  (bo (lQ (ri (ai (br (λds=>noX (fD ds)) (ai (aj 1) az)) az)) (mF 2 (fF (tgN 3) (fF (tgN 4) o9))) db)
  (sR 2))))
noncomputable def bK:List D->M D:=run 6 d4
noncomputable def cW:SL.SG:=(bN (e5 3 (bq (br (λds=>noX (fU ds)) (ai (d2 oIx (aj 1) (dC (.int 1))) az))))
  (lH (sAt "Desk" "cues" (aY 0)) (aY 3) (fj bK (bb (sAt "Desk" "clock" (aY 0)) (bb (aY 2) dS)))))
noncomputable def bp:List SL.Val->SL.Sto->SL.R (SL.Val×SL.Sto):=SL.fW 4 cW
noncomputable def dA:SL.SG:=(bN (fv (gB "Desk" "cues_by" bD (aY 0) (bb (aY 1) dS)))
  (fv (r6 (sAt "Desk" "cues" (aY 0)) (aY 1))))
noncomputable def cn:List SL.Val->SL.Sto->SL.R (SL.Val×SL.Sto):=SL.fW 2 dA
noncomputable def cZ:SL.SG:=(bN (e5 3 (bq (d2 oIx (aj 1) (dC (.int 0)))))
  (sIf (b4 (dB (d2 oEq (aj 3) (dC (.str "clock"))))) sNo (sIf (b4 (dB (d2 oEq (aj 3) (dC (.str "set"))))) sNo (sIf (b4 (dB (d2 oEq (aj 3) (dC (.str "cut"))))) sNo (sIf (b4 (dB (d2 oEq (aj 3) (dC (.str "uncut"))))) sNo (sIf (b4 (dB (d2 oEq (aj 3) (dC (.str "cues"))))) (fv (gB "Desk" "put_cues" bp (aY 0) (bb (aY 1) (bb (aY 2) dS)))) (sIf (b4 (dB (d2 oEq (aj 3) (dC (.str "drop"))))) (fv (gB "Desk" "drop_cues" cn (aY 0) (bb (bq (d2 oIx (aj 1) (dC (.int 1)))) dS))) (sIf (b4 (dB (d2 oEq (aj 3) (dC (.str "move"))))) sNo (sIf (b4 (dB (d2 oEq (aj 3) (dC (.str "time"))))) sNo (sIf (b4 (dB (d2 oEq (aj 3) (dC (.str "both"))))) sNo (sIf (b4 (dB (d2 oEq (aj 3) (dC (.str "part"))))) sNo sNo)))))))))))
noncomputable def bB:List SL.Val->SL.Sto->SL.R (SL.Val×SL.Sto):=SL.fW 4 cZ
noncomputable def fM:SL.SG:=(bN (e5 2 (bq (br (λds=>noX (aS ds)) (ai (aj 1) az))))
  (bN (e5 3 (bq (d2 oIx (aj 2) (dC (.int 0)))))
  (bN (sIf (b4 (ja (dB (br (λds=>noX (fV ds)) (ai (aj 3) az))))) (mW "NoRow" (ai (dC (.str "there is no such row")) az)) dY)
  (bN (sIf (b4 (dB (d2 oEq (d2 oIx (aj 3) (dC (.int 0))) (dC (.str "show"))))) (fG (fj (λds=>noX (dv ds)) (bb (sAt "Desk" "clock" (aY 0)) (bb (gB "Desk" "cues_by" bD (aY 0) (bb (bq (d2 oIx (aj 3) (dC (.int 1)))) dS)) dS)))) dY)
  (bN (sIf (b4 (dB (d2 oEq (d2 oIx (aj 3) (dC (.int 0))) (dC (.str "broken"))))) sNo dY)
  (bN (sIf (b4 (dB (d2 oEq (d2 oIx (aj 3) (dC (.int 0))) (dC (.str "price"))))) sNo dY)
  (bN (sIf (b4 (dB (d2 oEq (d2 oIx (aj 3) (dC (.int 0))) (dC (.str "rows"))))) sNo dY)
  (bN (fv (gB "Desk" "change" bB (aY 0) (bb (aY 3) (bb (bq (d2 oIx (aj 2) (dC (.int 1)))) dS))))
  (fG (bq (dC (.str "ok"))))))))))))
noncomputable def bc:List SL.Val->SL.Sto->SL.R (SL.Val×SL.Sto):=SL.fW 4 fM
end CT
open L2 DL
local macro_rules | `(tactic| walk_at "call")=>`(tactic| fail)
local macro_rules | `(tactic| walk_at "cond")=>`(tactic| first | rfl | omega | (simp only[Bool.or_eq_false_iff,Bool.and_eq_false_iff,Bool.or_eq_true,Ξ,Bool.not_eq_false',Bool.not_eq_true',decide_eq_false_iff_not,decide_eq_true_eq,Bool.not_true,Bool.not_false,Bool.false_or,V7,Bool.false_and,Bool.true_or,isD,tyD];omega) | (simp [isD,tyD];done) | (simp [isD,tyD];omega))
local macro_rules | `(tactic| walk_at "side")=>`(tactic| first | assumption | omega | decide | exact AR (by omega) (by omega) | exact bMul_r (by omega) (by omega) | exact wG (by omega) (by omega) | rfl)
local macro_rules | `(tactic| walk_at "ev1")=>`(tactic| (first
 | with_reducible assumption | with_reducible exact ao | exact ad rfl | with_reducible exact ak | with_reducible exact ev_next | with_reducible exact ev_nopart
 | with_reducible apply av | with_reducible apply ae | with_reducible apply ev_1
 | with_reducible exact kr | with_reducible exact o_sub | with_reducible exact sB | with_reducible exact pC | with_reducible exact o_le | with_reducible exact o_gt | with_reducible exact o_ge | with_reducible exact sC | with_reducible exact o_ne
 | (with_reducible refine vR ?_;walk_at "side") | (with_reducible refine iR ?_;walk_at "side") | (with_reducible refine cG ?_;walk_at "side")
 | ((with_reducible show oIx _ (Θ (OfNat.ofNat _))=some _);exact rfl) | with_reducible exact zp | with_reducible exact o_pow9 | with_reducible exact o_pow15 | with_reducible exact o_pow18 | with_reducible exact o_pow4 | with_reducible exact o_pow7 | with_reducible exact o_pow8 | with_reducible exact vQ | with_reducible exact o_pow12 | with_reducible exact o_pow19 | with_reducible exact o_pow20 | with_reducible exact o_pow24 | ((with_reducible show mF _ _ _ _=some _);exact rfl) | ((with_reducible show BP _=some _);exact rfl)
 | ((with_reducible show aN _=true);exact rfl) | with_reducible apply cj | with_reducible exact o_max | with_reducible exact o_min | with_reducible exact zt | with_reducible exact zr | with_reducible exact o_intI | with_reducible exact o_intB
 | with_reducible apply aQ | walk_at "call"
 | (with_reducible refine b3 ?_ ?_ ?_) | with_reducible apply gL | with_reducible apply qV | (with_reducible apply aK;with_reducible apply bh) | with_reducible apply bA | (with_reducible apply jm;with_reducible apply bA)
 | with_reducible apply bh | (with_reducible apply aK;with_reducible apply mw) | with_reducible apply ev_par | (with_reducible apply aK;with_reducible apply ev_par)
 | with_reducible apply bQ | with_reducible apply b7 | with_reducible apply wl | with_reducible apply gM
 | with_reducible apply jN | with_reducible apply gr | with_reducible apply ev_cut | with_reducible apply qW
 | with_reducible apply kM | with_reducible apply uT
 | with_reducible apply pU | with_reducible apply uU | with_reducible apply ev_orV | with_reducible apply eX | with_reducible apply Ak
 | ((with_reducible show(_:Bool)=false);walk_at "cond")
 | ((with_reducible show(if _=true then _ else _)=_);first | (refine vX rfl ?_) | (refine sO rfl ?_) | (refine ite_t (by omega) ?_) | (refine ite_f (by omega) ?_) | (refine vX (by walk_at "cond") ?_) | (refine sO (by walk_at "cond") ?_))))
local macro_rules | `(tactic| walk_at "ev")=>`(tactic| repeat (walk_at "ev1"))
namespace CT
end CT
open NumText
namespace TX
noncomputable def S(l:List Nat):Str:=⟨l.toArray⟩
theorem L_S(l:List Nat):(S l).cps.toList=l:=by unfold S;simp
theorem S_L(x:Str):S x.cps.toList=x:=by unfold S;simp
theorem eG(a b:List Nat):S a++S b=S (a++b):=by
 have:(S a++S b).cps=(S (a++b)).cps:=by
  show a.toArray++b.toArray=(a++b).toArray
  simp
 cases h1:S a++S b
 cases h2:S (a++b)
 rw[h1,h2] at this
 cases this
 rfl
theorem cJ(l:List Nat):(S l).length=l.length:=by unfold S;show l.toArray.size=_;simp
theorem wJ{a b:List Nat}(h:S a=S b):a=b:=by rw[<-L_S a,h,L_S]
theorem S_nil:S []=Str.empty:=rfl
noncomputable def e8(n:Nat):List Nat:=if h:n=0 then [] else e8 (n / 10)++[48+n % 10]
decreasing_by omega
theorem dE:e8 0=[]:=by unfold e8;rfl
theorem eo{n:Nat}(h:n≠0):e8 n=e8 (n / 10)++[48+n % 10]:=by
 rw[e8]
 simp [h]
noncomputable def fg(k n:Nat):List Nat:=Z5 (k-(e8 n).length) 48++e8 n
theorem B8{k n:Nat}(h:0<n\/0<k):fg k n=fg (k-1) (n / 10)++[48+n % 10]:=by
 unfold fg
 by_cases hn:n=0
 ·subst hn
  rw[dE]
  have hk:0<k:=by omega
  obtain⟨k,rfl⟩:∃j,k=j+1:=⟨k-1,by omega⟩
  simp only[Nat.zero_div,Nat.zero_mod,dE,Λ,Y6,Nat.sub_zero,Nat.add_sub_cancel,Nat.add_zero]
  rw[List.replicate_succ']
 ·rw[eo hn,ζ]
  have e:k-((e8 (n / 10)).length+[48+n % 10].length)=k-1-(e8 (n / 10)).length:=by
   show k-((e8 (n / 10)).length+1)=_
   omega
  rw[e,X4]
theorem lR(n:Nat):∀c∈e8 n,48<=c/\c<=57:=by
 induction n using Nat.strongRecOn with
 | _ n ih =>
  by_cases h:n=0
  ·subst h;rw[dE];intro c hc;cases hc
  ·rw[eo h]
   intro c hc
   rcases Z6.mp hc with hc | hc
   ·exact ih (n / 10) (by omega) c hc
   ·rw[Ψ] at hc
    omega
theorem gJ(k n:Nat):∀c∈fg k n,48<=c/\c<=57:=by
 intro c hc
 unfold fg at hc
 rcases Z6.mp hc with hc | hc
 ·have:=List.eq_of_mem_replicate hc
  omega
 ·exact lR n c hc
theorem n8(j:Nat):∀n,n<10 ^ j->(e8 n).length<=j:=by
 induction j with
 | zero =>
  intro n hn
  have:n=0:=by simpa using hn
  subst this
  rw[dE]
  exact ο _
 | succ j ih =>
  intro n hn
  by_cases h:n=0
  ·subst h;rw[dE];exact W4 _
  ·rw[eo h,ζ]
   have h1:n / 10<10 ^ j:=by
    rw[Nat.pow_succ] at hn
    omega
   have:=ih (n / 10) h1
   show _+1<=_
   omega
theorem ly{k n:Nat}(h:n<10 ^ k):(fg k n).length=k:=by
 unfold fg
 have:=n8 k n h
 rw[ζ,W2]
 omega
theorem sX(j:Nat):∀n,10 ^ j<=n->j+1<=(e8 n).length:=by
 induction j with
 | zero =>
  intro n hn
  have h:n≠0:=by
   have:10 ^ 0=1:=rfl
   omega
  rw[eo h,ζ]
  show 0+1<=_+1
  omega
 | succ j ih =>
  intro n hn
  have p:=Nat.pow_pos (n:=j) (show 0<10 by decide)
  rw[Nat.pow_succ] at hn
  have h:n≠0:=by omega
  have:=ih (n / 10) (by omega)
  rw[eo h,ζ]
  show _<=_+1
  omega
theorem toDig(n:Nat):(Nat.toDigits 10 n).map Char.toNat=if n=0 then [48] else e8 n:=by
 have one:∀d:Nat,d<10->(Nat.digitChar d).toNat=48+d:=by decide
 induction n using Nat.strongRecOn with
 | _ n ih =>
  by_cases h:n<10
  ·rw[Nat.toDigits_of_lt_base h]
   show [(Nat.digitChar n).toNat]=_
   rw[one n h]
   by_cases hz:n=0
   ·subst hz;rfl
   ·rw[if_neg hz,eo hz,show n / 10=0 by omega,dE,show n % 10=n by omega]
    rfl
  ·have hm:n % 10<10:=Nat.mod_lt n (by decide)
   have t:Nat.toDigits 10 (n / 10)++Nat.toDigits 10 (n % 10)=Nat.toDigits 10 (10*(n / 10)+n % 10):=Nat.toDigits_append_toDigits (by decide) (by omega) hm
   rw[Nat.div_add_mod] at t
   rw[<-t,X0,ih (n / 10) (by omega),if_neg (by omega),if_neg (by omega),Nat.toDigits_of_lt_base hm,eo (n:=n) (by omega)]
   show _++[(Nat.digitChar (n % 10)).toNat]=_
   rw[one _ hm]
theorem A9(n:Nat):Str.ofString (toString ((n:Nat):Int))=S (if n=0 then [48] else e8 n):=by
 rw[<-toDig,<-PySem.W.KIN.signs_num,S_L]
theorem wL{n k:Nat}(hk:1<=k):Txt.zfill (Str.ofString (toString ((n:Nat):Int))) (k:Int)=S (fg k n):=by
 rw[A9]
 have hd:∀c∈(if n=0 then [48] else e8 n),48<=c/\c<=57:=by
  by_cases h:n=0
  ·rw[if_pos h];intro c hc;rw[Ψ] at hc;omega
  ·rw[if_neg h];exact lR n
 have hf:fg k n=Z5 (k-(if n=0 then [48] else e8 n).length) 48++(if n=0 then [48] else e8 n):=by
  by_cases h:n=0
  ·subst h
   rw[if_pos rfl]
   unfold fg
   rw[dE]
   show Z5 (k-0) 48++[]=Z5 (k-1) 48++[48]
   rw[Λ,<-List.replicate_succ']
   congr 1
   omega
  ·rw[if_neg h]
   rfl
 rw[hf]
 generalize (if n=0 then [48] else e8 n)=l at *
 unfold Txt.zfill
 rw[cJ]
 by_cases hl:(k:Int)<=(l.length:Nat)
 ·rw[if_pos hl]
  have:k-l.length=0:=by omega
  rw[this]
  rfl
 ·rw[if_neg hl]
  have e:((k:Int)).toNat-l.length=k-l.length:=by omega
  rw[e]
  have hp:zfilled (S l) (k-l.length)=Builtin.Str.padded (S l) (k-l.length) 0 48:=by
   unfold zfilled
   cases l with
   | nil=>rfl
   | cons c r =>
    have hc:=hd c υ
    have h0:(S (c::r)).cps[0]?=some c:=rfl
    rw[h0]
    split
    ·rename_i z
     cases z
     omega
    ·rename_i z
     cases z
     omega
    ·rfl
  rw[hp]
  unfold Builtin.Str.padded S
  simp
theorem yb(cs:List Nat)(c:Nat):digitsVal (cs++[c])=digitsVal cs*10+(c-48):=digitsVal_snoc cs c
theorem ye(n:Nat):digitsVal (e8 n)=n:=by
 induction n using Nat.strongRecOn with
 | _ n ih =>
  by_cases h:n=0
  ·subst h;rw[dE];rfl
  ·rw[eo h,yb,ih (n / 10) (by omega)]
   omega
theorem wM(j:Nat)(l:List Nat):digitsVal (Z5 j 48++l)=digitsVal l:=by
 induction j with
 | zero=>rfl
 | succ j ih =>
  rw[List.replicate_succ,U8]
  show digitsVal (48::_)=_
  rw[digitsVal_zero]
  exact ih
theorem mB(k n:Nat):digitsVal (fg k n)=n:=by
 unfold fg
 rw[wM,ye]
theorem nH{l:List Nat}(h:∀c∈l,48<=c/\c<=57)(h1:l≠[])(h2:l.length<=640):iS [.str (S l)]=some (.int ((digitsVal l:Nat):Int)):=by
 have e:=intText_digits (x:=S l) (by rw[L_S];exact h) (by rw[L_S];exact h1) (by rw[cJ];omega)
 rw[L_S] at e
 show(match PySem.intText? (S l) with | some n=>if (S l).length<=640 then some (Θ n) else none | none=>none)=_
 rw[e]
 show(if (S l).length<=640 then _ else _)=_
 rw[cJ,if_pos h2]
theorem rm(l:List Nat)(c i:Nat):StrLaws.At (S l) ⟨#[c]⟩ (S l).length i↔l[i]?=some c:=by
 have:=StrLaws.subAt_one (S l) c i
 rw[L_S] at this
 exact this
theorem BC{u v:List Nat}{c:Nat}(hc:c∉u):Txt.partition (S (u++c::v)) ⟨#[c]⟩=(S u,⟨#[c]⟩,S v):=by
 have hu:(u++c::v)[u.length]?=some c:=by rw[Z8 (ο _)];simp
 unfold Txt.partition
 rcases StrLaws.occ_head (S (u++c::v)) ⟨#[c]⟩ 1 (ο 1) with ⟨_,hn⟩ | ⟨i,r,h0,hi,hn⟩
 ·exact absurd ((rm _ c _).mpr hu) (hn u.length)
 ·have e:i=u.length:=by
   rcases Nat.lt_trichotomy i u.length with h | h | h
   ·exfalso
    have h1:=(rm _ c i).mp hi
    rw[X9 h] at h1
    exact hc (U9 h1)
   ·exact h
   ·exact absurd ((rm _ c _).mpr hu) (hn u.length h)
  subst e
  rw[h0]
  show(Builtin.Str.strSub _ 0 u.length,_,Builtin.Str.strSub _ (u.length+1) _)=_
  have s1:Builtin.Str.strSub (S (u++c::v)) 0 u.length=S u:=by
   rw[<-S_L (Builtin.Str.strSub _ _ _),StrLaws.strSub_toList,L_S]
   simp
  have s2:Builtin.Str.strSub (S (u++c::v)) (u.length+1) (S (u++c::v)).length=S v:=by
   rw[<-S_L (Builtin.Str.strSub _ _ _),StrLaws.strSub_toList,L_S,cJ]
   have e:u++c::v=(u++[c])++v:=by simp
   have l1:u.length+1=(u++[c]).length:=by simp
   rw[e,l1,List.drop_left]
   congr 1
   refine List.take_of_length_le ?_
   rw[ζ]
   omega
  rw[s1,s2]
theorem BB{u:List Nat}{c:Nat}(hc:c∉u):Txt.partition (S u) ⟨#[c]⟩=(S u,Str.empty,Str.empty):=by
 unfold Txt.partition
 rcases StrLaws.occ_head (S u) ⟨#[c]⟩ 1 (ο 1) with ⟨h0,_⟩ | ⟨i,r,h0,hi,hn⟩
 ·rw[h0]
 ·exact absurd (U9 ((rm _ c i).mp hi)) hc
end TX
namespace DL
section
variable{δ:DS}{f g k:DS->M D}{fa:DS->M (List D)}{x d:D}
theorem bL{h:Str->List D->Option D}{z:Str}{xs:List D}(h1:f δ=M.ret (.str z))(h2:fa δ=M.ret xs)(h3:h z xs=some d):dj h f fa δ=M.ret d:=by
 unfold dj
 rw[h1]
 show(fa δ).thn _=_
 rw[h2]
 show M.lift (h z xs)=_
 rw[h3]
 rfl
theorem sU{z:Str}(h1:f δ=M.ret (.str z))(hz:aN z.length=true):dFV f δ=M.ret (.str z):=by
 unfold dFV
 rw[h1]
 show(match rF (.str z) with | some z=>M.ret (W1 z) | none=>none)=_
 unfold rF
 dsimp only
 rw[if_pos hz]
theorem Ai{out:Str}(hz:aN out.length=true):kD [] out δ=M.ret (.str out):=by unfold kD;rw[if_pos hz]
theorem fO{fs:List (DS->M D)}{out z y:Str}(h1:f δ=M.ret (.str z))(hz:aN (out++z).length=true)(h2:kD fs (out++z) δ=M.ret (.str y)):kD (f::fs) out δ=M.ret (.str y):=by
 show(f δ).thn _=_
 rw[h1]
 show(if aN (out++z).length=true then _ else _)=_
 rw[if_pos hz,h2]
theorem fP{h h':D->D->Option D}{y w:D}{b1 b2:Bool}(h1:f δ=M.ret x)(h2:g δ=M.ret y)(h3:h x y=some (.bool b1))(h4:k δ=M.ret w)(h5:h' y w=some (.bool b2)):dX h h' f g k δ=M.ret (.bool (b1&&b2)):=by
 unfold dX
 rw[h1,aR,h2,aR,h3,pG,aR]
 cases b1
 ·rfl
 ·show(k δ).thn _=_
  rw[h4,aR,h5]
  rfl
theorem Ca{fl fh:DS->M (Option Int)}{lo hi:Option Int}(h1:f δ=M.ret x)(h2:fl δ=M.ret lo)(h3:fh δ=M.ret hi)(h4:zw lo hi x=some d):tj f fl fh δ=M.ret d:=by
 unfold tj;rw[h1,aR,h2,aR,h3,aR,h4];rfl
theorem ni{i j:Int}:fk (.int i) (.int j)=some (.bool (decide (i<=j))):=rfl
theorem o_neS{a b:Str}(ha:PyData.strOk a=true)(hb:PyData.strOk b=true):oNe (.str a) (.str b)=some (.bool (!(a==b))):=by
 unfold oNe flat
 simp [V8,PyData.depth,PyData.eqv,ha,hb]
end
end DL
namespace TX
theorem S_beq(a b:List Nat):(S a==S b)=decide (a=b):=by
 by_cases h:a=b
 ·subst h
  rw[decide_eq_true rfl]
  exact beq_self_eq_true _
 ·rw[decide_eq_false h]
  refine beq_eq_false_iff_ne.mpr λe=>h (wJ e)
noncomputable def isF(c:Nat):Bool:=decide (48<=c/\c<=57)
noncomputable def gc(l:List Nat):Bool:=!decide (l=[])&&l.all isF
noncomputable def kF(k:Nat)(l:List Nat):Bool:=decide (l.length=k)&&gc l
noncomputable def hrs(l:List Nat):Bool:=kF 2 l||(decide (3<=l.length/\l.length<=20)&&(gc l&&!decide (l.head?=some 48)))
noncomputable def six(l:List Nat):Bool:=kF 2 l&&decide (digitsVal l<60)
theorem nD{l:List Nat}(h0:l≠[])(h:∀c∈l,48<=c/\c<=57):gc l=true:=by
 unfold gc
 rw[decide_eq_false h0,Bool.not_false,V7,W8]
 exact λc hc=>decide_eq_true (h c hc)
theorem nF{l:List Nat}(h:gc l=true):l≠[]:=by
 unfold gc at h
 rw[Ξ] at h
 simpa using h.1
theorem pN{l:List Nat}(h:gc l=true):∀c∈l,48<=c/\c<=57:=by
 unfold gc at h
 rw[Ξ,W8] at h
 exact λc hc=>of_decide_eq_true (h.2 c hc)
noncomputable def pre(c:Nat)(l:List Nat):List Nat:=l.takeWhile (· != c)
noncomputable def post(c:Nat)(l:List Nat):List Nat:=(l.dropWhile (· != c)).drop 1
theorem Bo(c:Nat)(l:List Nat):c∉pre c l:=by
 induction l with
 | nil=>intro h;cases h
 | cons a r ih =>
  unfold pre at ih ⊢
  by_cases h:a=c
  ·subst h
   rw[List.takeWhile_cons_of_neg (by simp)]
   intro h;cases h
  ·rw[U1 (by simpa using h)]
   intro hm
   rcases Δ.mp hm with e | e
   ·exact h e.symm
   ·exact ih e
theorem fZ{c:Nat}{u v:List Nat}(h:c∉u):pre c (u++c::v)=u/\post c (u++c::v)=v:=by
 induction u with
 | nil =>
  unfold pre post
  rw[List.nil_append,List.takeWhile_cons_of_neg (by simp),List.dropWhile_cons_of_neg (by simp)]
  exact⟨rfl,rfl⟩
 | cons a r ih =>
  have ha:a≠c:=λe=>h (e▸υ)
  have ih:=ih (λe=>h (ρ _ e))
  unfold pre post at ih ⊢
  rw[U8,U1 (by simpa using ha),List.dropWhile_cons_of_pos (by simpa using ha),ih.1,ih.2]
  exact⟨rfl,rfl⟩
theorem m3{c:Nat}{u:List Nat}(h:c∉u):pre c u=u/\post c u=[]:=by
 induction u with
 | nil=>exact⟨rfl,rfl⟩
 | cons a r ih =>
  have ha:a≠c:=λe=>h (e▸υ)
  have ih:=ih (λe=>h (ρ _ e))
  unfold pre post at ih ⊢
  rw[U1 (by simpa using ha),List.dropWhile_cons_of_pos (by simpa using ha),ih.1,ih.2]
  exact⟨rfl,rfl⟩
theorem AI(c:Nat)(l:List Nat):(c∉l/\pre c l=l/\post c l=[])\/l=pre c l++c::post c l:=by
 by_cases h:c∈l
 ·right
  induction l with
  | nil=>cases h
  | cons a r ih =>
   by_cases ha:a=c
   ·subst ha
    have:=fZ (c:=a) (u:=[]) (v:=r) (by simp)
    rw[List.nil_append] at this
    rw[this.1,this.2]
    rfl
   ·have hr:c∈r:=by
     rcases Δ.mp h with e | e
     ·exact absurd e.symm ha
     ·exact e
    have ih:=ih hr
    unfold pre post at ih ⊢
    rw[U1 (by simpa using ha),List.dropWhile_cons_of_pos (by simpa using ha),U8,<-ih]
 ·exact .inl ⟨h,m3 h⟩
theorem sw(c:Nat)(l:List Nat):∃w,Txt.partition (S l) ⟨#[c]⟩=(S (pre c l),w,S (post c l)):=by
 rcases AI c l with ⟨h,e1,e2⟩ | e
 ·rw[e1,e2]
  exact⟨_,BB h⟩
 ·have:=BC (c:=c) (v:=post c l) (Bo c l)
  rw[<-e] at this
  exact⟨_,this⟩
theorem qz(c:Nat)(l:List Nat):(pre c l).length<=l.length/\(post c l).length<=l.length:=by
 rcases AI c l with ⟨h,e1,e2⟩ | e
 ·rw[e1,e2]
  exact⟨ο _,W4 _⟩
 ·have:=congrArg List.length e
  rw[ζ,ω] at this
  omega
theorem uu{c:Nat}{l:List Nat}(hl:l.length<=1000):∃w,cr (S l) [.str ⟨#[c]⟩]=some (.tuple [.str (S (pre c l)),.str w,.str (S (post c l))]):=by
 obtain⟨w,e⟩:=sw c l
 refine⟨w,?_⟩
 unfold cr
 dsimp only
 rw[if_pos,e]
 rw[Ξ]
 refine⟨rfl,?_⟩
 rw[cJ]
 exact bi (by omega)
theorem vW{l:List Nat}{i:Int}{c:Nat}(hl:l.length<=1000)(h0:0<=i)(h:l[i.toNat]?=some c):oIx (.str (S l)) (.int i)=some (.str ⟨#[c]⟩):=by
 show(if aN (S l).length=true then _ else _)=_
 rw[if_pos (by rw[cJ];exact bi (by omega)),L_S]
 have e:=L2.wI h
 rw[U3 h0] at e
 rw[e]
 rfl
end TX
open CT TX
namespace TX
theorem zm{l:List Nat}(h:∀c∈l,c<1114112):PyData.strOk (S l)=true:=by
 unfold PyData.strOk S
 rw[<-Array.all_toList]
 simpa using h
theorem o_neT{a b:List Nat}(ha:∀c∈a,c<1114112)(hb:∀c∈b,c<1114112):oNe (.str (S a)) (.str (S b))=some (.bool (!decide (a=b))):=by rw[o_neS (zm ha) (zm hb),S_beq]
def Uc(l:List Nat):Prop:=∀c∈l,c<1114112
theorem lenT{l:List Nat}(h:l.length<=1000):gE [.str (S l)]=some (.int ((l.length:Nat):Int)):=by
 show(if aN (S l).length=true then _ else _)=_
 rw[cJ,if_pos (bi (by omega))]
theorem vg(l:List Nat)(p:Nat->Bool):gR (l.map λc=>Y2 (p c))=some (l.map p):=by
 induction l with
 | nil=>rfl
 | cons a r ih =>
  show(gR (r.map λc=>Y2 (p c))).map _=_
  rw[ih]
  rfl
end TX
namespace CT
theorem BZ(c:Nat):zv (.str ⟨#[c]⟩) (.str "0123456789")=some (.bool (isF c)):=by
 show some (Y2 _)=_
 rw[StrLaws.found_one]
 congr 2
 unfold isF
 have:("0123456789" : Str).cps.toList=[48,49,50,51,52,53,54,55,56,57]:=by decide
 rw[this]
 refine decide_eq_decide.mpr ?_
 simp only[Δ,U7,or_false]
 omega
theorem jb{l:List Nat}(hl:l.length<=1000)(hu:Uc l):cx [.str (S l)]=M.ret (.bool (gc l)):=by
 refine bv (bA ?_)
 have h1:oNe (.str (S l)) (.str "")=some (.bool (!decide (l=[]))):=o_neT (b:=[]) hu (λ_ h=>nomatch h)
 refine eX (av (ad rfl) ao h1) ?_
 refine cj (ae (gN (ds:=dH (S l)) (ys:=l.map λc=>.bool (isF c)) (jO (x:=.str (S l)) (ad rfl) rfl) ?_ ?_) ak) ?_
 ·unfold dH
  rw[ι,L_S]
  exact bi (by omega)
 ·have:=sV (t:=tgN 0) (f:=d2 zv (aj 0) (dC (.str "0123456789"))) (h:=λd=>match d with | .str z=>.bool (z.cps.toList.all isF) | _=>.none) (λδ=>∃x,δ=[x]) (dH (S l)) [.un] ⟨_,rfl⟩ (λd hd δ hδ=>by
   obtain⟨x,rfl⟩:=hδ
   unfold dH at hd
   obtain⟨c,_,rfl⟩:=V0.mp hd
   refine⟨[.vl (.str ⟨#[c]⟩)],rfl,?_,_,rfl⟩
   refine av (ad rfl) ao ?_
   rw[BZ]
   simp)
  refine Eq.trans this ?_
  unfold dH
  rw[Y7,L_S]
  congr 1
  refine List.map_congr_left λc _=>?_
  show Y2 _=_
  simp
 ·show(gR _).map _=_
  rw[vg]
  show some (Y2 _)=_
  rw[List.all_map]
  rfl
theorem fL{l:List Nat}{k:Nat}(hl:l.length<=1000)(hu:Uc l):bR [.str (S l),.int (k:Nat)]=M.ret (.bool (kF k l)):=by
 have h1:=jb hl hu
 have h2:=lenT hl
 refine bv (bA ?_)
 unfold kF
 refine eX (av (cj (by walk_at "ev") h2) (ad rfl) ?_) (by walk_at "ev")
 rw[sC]
 congr 2
 refine decide_eq_decide.mpr ?_
 omega
theorem gU{l:List Nat}(hl:l.length<=1000)(hu:Uc l):cb [.str (S l)]=M.ret (.bool (six l)):=by
 have h1:=fL (k:=2) hl hu
 refine bv (bA ?_)
 unfold six
 by_cases h:kF 2 l=true
 ·rw[h,V7]
  rw[h] at h1
  refine jq (aQ (ds:=[.str (S l),.int 2]) (by walk_at "ev") h1) ?_
  have h2:=h
  unfold kF at h2
  rw[Ξ,decide_eq_true_eq] at h2
  have h3:=nH (pN h2.2) (nF h2.2) (by omega)
  refine av (cj (ae (ad rfl) ak) h3) ao ?_
  first | rw[sB] | rw[pC]
  congr 2
  refine decide_eq_decide.mpr ?_
  omega
 ·have h:=Bool.not_eq_true _▸h
  rw[h,Bool.false_and]
  rw[h] at h1
  exact pV (aQ (ds:=[.str (S l),.int 2]) (by walk_at "ev") h1)
theorem ro{l:List Nat}(hl:l.length<=1000)(hu:Uc l):ff [.str (S l)]=M.ret (.bool (hrs l)):=by
 have h1:=fL (k:=2) hl hu
 have h2:=jb hl hu
 refine bv ?_
 unfold hrs gg
 by_cases h:kF 2 l=true
 ·rw[h,Bool.true_or]
  rw[h] at h1
  refine gL (b:=true) (bQ (aQ (ds:=[.str (S l),.int 2]) (by walk_at "ev") h1)) (sO rfl (jm (bA ao)))
 ·have h:=Bool.not_eq_true _▸h
  rw[h,Bool.false_or]
  rw[h] at h1
  refine gL (b:=false) (bQ (aQ (ds:=[.str (S l),.int 2]) (by walk_at "ev") h1)) (vX rfl (qV (bA ?_)))
  have h3:=lenT hl
  have hc:dX fk fk (dC (.int 3)) (dCB gE (ai (aj 0) az)) (dC (.int 20)) (dg 1 [.str (S l)])=M.ret (.bool (decide (3<=l.length/\l.length<=20))):=by
   have:=fP (h:=fk) (h':=fk) (f:=dC (.int 3)) (g:=dCB gE (ai (aj 0) az)) (k:=dC (.int 20)) (δ:=dg 1 [.str (S l)]) ao (cj (ae (ad rfl) ak) h3) ni ao ni
   rw[this]
   congr 2
   rw[<-Bool.decide_and]
   refine decide_eq_decide.mpr ?_
   omega
  cases hb:gc l with
  | false =>
   rw[hb] at h2
   refine eX hc ?_
   rw[Bool.false_and]
   exact pV (aQ (ds:=[.str (S l)]) (by walk_at "ev") h2)
  | true =>
   rw[hb] at h2
   refine eX hc (eX (aQ (ds:=[.str (S l)]) (by walk_at "ev") h2) ?_)
   cases l with
   | nil=>exact absurd rfl (nF hb)
   | cons c r =>
    refine av (av (ad rfl) ao (vW (c:=c) hl (by decide) rfl)) ao ?_
    have:oNe (.str (S [c])) (.str (S [48]))=some (.bool (!decide ([c]=[48]))):=o_neT (λd hd=>hu d (by rw[Ψ] at hd;rw[hd];exact υ)) (by decide)
    refine Eq.trans this ?_
    congr 3
    refine decide_eq_decide.mpr ?_
    simp
end CT
namespace TX
theorem vj{l:List Nat}(c:Nat)(h:Uc l):Uc (pre c l):=λx hx=>h x ((List.takeWhile_sublist _).subset hx)
theorem ju{l:List Nat}(c:Nat)(h:Uc l):Uc (post c l):=λx hx=>h x ((List.dropWhile_sublist _).subset (List.mem_of_mem_drop hx))
noncomputable def pH(l:List Nat):List Nat:=pre 58 l
noncomputable def pM(l:List Nat):List Nat:=pre 58 (post 58 l)
noncomputable def pS(sg:Nat)(l:List Nat):List Nat:=pre sg (post 58 (post 58 l))
noncomputable def pT(sg:Nat)(l:List Nat):List Nat:=post sg (post 58 (post 58 l))
noncomputable def good(sg k:Nat)(l:List Nat):Bool:=hrs (pH l)&&(six (pM l)&&six (pS sg l))&&kF k (pT sg l)
theorem iX{k:Nat}{l:List Nat}(h:kF k l=true):l.length=k/\gc l=true:=by
 unfold kF at h
 rw[Ξ,decide_eq_true_eq] at h
 exact h
theorem md{l:List Nat}(h:six l=true):l.length=2/\gc l=true/\digitsVal l<60:=by
 unfold six at h
 rw[Ξ,decide_eq_true_eq] at h
 exact⟨(iX h.1).1,(iX h.1).2,h.2⟩
theorem v6{l:List Nat}(h:hrs l=true):l.length<=20/\gc l=true:=by
 unfold hrs at h
 simp only[Bool.or_eq_true,Ξ,decide_eq_true_eq] at h
 rcases h with h | h
 ·have:=iX h
  exact⟨by omega,this.2⟩
 ·exact⟨h.1.2,h.2.1⟩
theorem mr{l:List Nat}(h:gc l=true)(hl:l.length<=100):iS [.str (S l)]=some (.int ((digitsVal l:Nat):Int)):=nH (pN h) (nF h) (by omega)
end TX
namespace CT
theorem Aj{δ:DS}{f:DS->M D}{z:Str}(h:f δ=M.ret (.str z)):dIs "str" f δ=M.ret (.bool true):=by
 rw[gM h]
 simp [isD,tyD]
theorem oS{l:List Nat}{sg k:Nat}(hl:l.length<=900)(hu:Uc l)(hk:k<=100)(hg:good sg k l=true) :
  eD [.str (S l),.str ⟨#[sg]⟩,.int (k:Nat)]=M.ret (.tuple [.int (digitsVal (pH l):Nat),.int (digitsVal (pM l):Nat),.int (digitsVal (pS sg l):Nat),.int (digitsVal (pT sg l):Nat)]):=by
 have hg0:=hg
 unfold good at hg0
 rw[Ξ,Ξ,Ξ] at hg0
 obtain⟨⟨g1,g2,g3⟩,g4⟩:=hg0
 obtain⟨w1,p1⟩:=uu (c:=58) (l:=l) (by omega)
 have l1:=qz 58 l
 obtain⟨w2,p2⟩:=uu (c:=58) (l:=post 58 l) (by omega)
 have l2:=qz 58 (post 58 l)
 obtain⟨w3,p3⟩:=uu (c:=sg) (l:=post 58 (post 58 l)) (by omega)
 have l3:=qz sg (post 58 (post 58 l))
 have e1:=ro (l:=pH l) (by unfold pH;omega) (vj _ hu)
 have e2:=gU (l:=pM l) (by unfold pM;omega) (vj _ (ju _ hu))
 have e3:=gU (l:=pS sg l) (by unfold pS;omega) (vj _ (ju _ (ju _ hu)))
 have e4:=fL (l:=pT sg l) (k:=k) (by unfold pT;omega) (ju _ (ju _ (ju _ hu)))
 rw[g1] at e1
 rw[g2] at e2
 rw[g3] at e3
 rw[g4] at e4
 have i1:=mr (v6 g1).2 (by have:=(v6 g1).1;omega)
 have i2:=mr (md g2).2.1 (by have:=(md g2).1;omega)
 have i3:=mr (md g3).2.1 (by have:=(md g3).1;omega)
 have i4:=mr (iX g4).2 (by have:=(iX g4).1;omega)
 refine bv ?_
 unfold fx
 refine b3 (b:=false) (b7 (b:=true) (bQ (Aj (ad rfl)))) rfl ?_
 refine aK (bh (bL (ad rfl) (ae ao ak) p1)) ?_
 refine aK (bh (bL (av (ad rfl) ao rfl) (ae ao ak) p2)) ?_
 refine aK (bh (bL (av (ad rfl) ao rfl) (ae (ad rfl) ak) p3)) ?_
 refine b3 (b:=false) (b7 (b:=true) (uU (b1:=true) (bQ (aQ (ae (av (ad rfl) ao rfl) ak) e1)) (uU (b1:=true) (b2:=true) (bQ (aQ (ae (av (ad rfl) ao rfl) ak) e2)) (bQ (aQ (ae (av (ad rfl) ao rfl) ak) e3))))) rfl ?_
 refine b3 (b:=false) (b7 (b:=true) (bQ (aQ (ae (av (ad rfl) ao rfl) (ae (ad rfl) ak)) e4))) rfl ?_
 refine bA (jN (ae (cj (ae (av (ad rfl) ao rfl) ak) i1) (ae (cj (ae (av (ad rfl) ao rfl) ak) i2) (ae (cj (ae (av (ad rfl) ao rfl) ak) i3) (ae (cj (ae (av (ad rfl) ao rfl) ak) i4) ak)))) rfl)
end CT
namespace TX
theorem zo{v:Int}(h:v.natAbs<1267650600228229401496703205376):kt [.int v]=some (.str (Str.ofString (toString v))):=by
 refine if_pos ?_
 by_cases hz:v.natAbs=0
 ·rw[hz];decide
 ·have:v.natAbs.log2<100:=(Nat.log2_lt hz).mpr (by
   have e:(2:Nat) ^ 100=1267650600228229401496703205376:=by decide
   omega)
  omega
theorem uz{n k m:Nat}(hk:0<k)(hk2:k<1267650600228229401496703205376)(h:n / k=m):iT (.int (n:Nat)) (.int (k:Nat))=some (.int (m:Nat)):=by
 rw[iR (wG (by omega) (by omega)),<-h]
 rfl
theorem uw{n k m:Nat}(hk:0<k)(h:n % k=m):di (.int (n:Nat)) (.int (k:Nat))=some (.int (m:Nat)):=by
 rw[cG (by omega),<-h]
 rfl
theorem kK{k n j:Nat}(h:n<10 ^ j):(fg k n).length<=k+j:=by
 unfold fg
 have:=n8 j n h
 rw[ζ,W2]
 omega
theorem pads:∀k:Nat,k<=100->PadOk (k:Nat)=true:=λk hk=>(show ∀k:Nat,k<101->PadOk (k:Nat)=true by decide +kernel) k (by omega)
theorem kX{n k:Nat}(hk:1<=k)(hk2:k<=100):eJ (Str.ofString (toString ((n:Nat):Int))) [.int (k:Nat)]=some (.str (S (fg k n))):=by
 unfold eJ
 dsimp only
 rw[if_pos (pads k hk2),wL hk]
noncomputable def txt(sg k h m s t:Nat):List Nat:=fg 2 h++58::(fg 2 m++58::(fg 2 s++sg::fg k t))
theorem xM{n:Nat}(h:n≠0):∃c r,e8 n=c::r/\c≠48:=by
 induction n using Nat.strongRecOn with
 | _ n ih =>
  rw[eo h]
  by_cases hz:n / 10=0
  ·rw[hz,dE]
   exact⟨_,_,rfl,by omega⟩
  ·obtain⟨c,r,e,hc⟩:=ih (n / 10) (by omega) hz
   rw[e]
   exact⟨c,_,rfl,hc⟩
theorem Af{k n:Nat}(hk:1<=k):fg k n≠[]:=by
 rw[B8 (.inr (by omega))]
 simp
theorem hrs_fg{h:Nat}(hh:h<10 ^ 20):hrs (fg 2 h)=true:=by
 have hf:=nD (Af (k:=2) (n:=h) (by decide)) (gJ 2 h)
 unfold hrs kF
 by_cases h2:h<100
 ·rw[ly (k:=2) (by omega),hf]
  rfl
 ·have l1:=sX 2 h (by omega)
  have l2:=n8 20 h hh
  have e:fg 2 h=e8 h:=by
   unfold fg
   rw[show 2-(e8 h).length=0 by omega]
   rfl
  obtain⟨c,r,e2,hc⟩:=xM (n:=h) (by omega)
  rw[hf,e]
  rw[decide_eq_true (show 3<=(e8 h).length/\(e8 h).length<=20 by omega),e2,decide_eq_false (show ¬(List.head? (c::r)=some 48) by simpa using hc)]
  simp
theorem yt{m:Nat}(hm:m<60):six (fg 2 m)=true:=by
 unfold six kF
 rw[ly (k:=2) (by omega),nD (Af (by decide)) (gJ 2 m),mB,decide_eq_true hm]
 rfl
theorem B5{k t:Nat}(hk:1<=k)(ht:t<10 ^ k):kF k (fg k t)=true:=by
 unfold kF
 rw[ly ht,nD (Af hk) (gJ k t),decide_eq_true rfl]
 rfl
theorem uC{k n c:Nat}(hc:c<48\/57<c):c∉fg k n:=λh=>by
 have:=gJ k n c h
 omega
theorem pz{sg k h m s t:Nat}(hsg:sg<48\/57<sg):pH (txt sg k h m s t)=fg 2 h/\pM (txt sg k h m s t)=fg 2 m/\pS sg (txt sg k h m s t)=fg 2 s/\pT sg (txt sg k h m s t)=fg k t:=by
 unfold pH pM pS pT txt
 have e1:=fZ (c:=58) (u:=fg 2 h) (v:=fg 2 m++58::(fg 2 s++sg::fg k t)) (uC (by omega))
 have e2:=fZ (c:=58) (u:=fg 2 m) (v:=fg 2 s++sg::fg k t) (uC (by omega))
 have e3:=fZ (c:=sg) (u:=fg 2 s) (v:=fg k t) (uC hsg)
 rw[e1.1,e1.2,e2.1,e2.2,e3.1,e3.2]
 exact⟨rfl,rfl,rfl,rfl⟩
theorem Ab{sg k h m s t:Nat}(hsg:sg<48\/57<sg)(hh:h<10 ^ 20)(hm:m<60)(hs:s<60)(hk:1<=k)(ht:t<10 ^ k):good sg k (txt sg k h m s t)=true:=by
 obtain⟨e1,e2,e3,e4⟩:=pz (sg:=sg) (k:=k) (h:=h) (m:=m) (s:=s) (t:=t) hsg
 unfold good
 rw[e1,e2,e3,e4,hrs_fg hh,yt hm,yt hs,B5 hk ht]
 rfl
theorem A2{sg k h m s t:Nat}(hh:h<10 ^ 30)(hm:m<10 ^ 2)(hs:s<10 ^ 2)(ht:t<10 ^ k):(txt sg k h m s t).length<=39+k:=by
 have l1:=kK (k:=2) hh
 have l2:=ly hm
 have l3:=ly hs
 have l4:=ly ht
 unfold txt
 simp only[ζ,ω]
 omega
end TX
namespace DL
section
variable{δ δ':DS}{c:DS->M Bool}{f:DS->M D}{t:D->DS->Option DS}{y d:D}{ds ys:List D}
end
theorem gI{body:D->DS->M Out}{d:D}{ds:List D}{δ δ':DS}{r:M Out}(h1:body d δ=M.ret (.nx δ'))(h2:ib body ds δ'=r):ib body (d::ds) δ=r:=by
 show(body d δ).thn _=_
 rw[h1]
 exact h2
section
variable{f fi:DS->M D}{δ:DS}{ds es:List D}{d:D}{i j m:Nat}{k n a:Int}
end
end DL
namespace CT
noncomputable def jn(c:Nat):List (List Nat)->List Nat
 | []=>[]
 | [a]=>a
 | a::b::r=>a++c::jn c (b::r)
theorem vV(c:Nat)(a:List Nat){r:List (List Nat)}(h:r≠[]):jn c (a::r)=a++c::jn c r:=by
 cases r with
 | nil=>exact absurd rfl h
 | cons b r=>rfl
theorem uH(c:Nat):∀ts:List (List Nat),(S [c]).join (ts.map S)=S (jn c ts)
 | []=>rfl
 | [a]=>rfl
 | a::b::r=>by
  have ih:=uH c (b::r)
  show S a++S [c]++(S [c]).join ((b::r).map S)=_
  rw[ih,eG,eG,X4]
  rfl
noncomputable def tot:List (List Nat)->Nat
 | []=>0
 | a::r=>a.length+1+tot r
theorem hV(c:Nat):∀{ts:List (List Nat)},ts≠[]->(jn c ts).length+1=tot ts
 | [],h=>absurd rfl h
 | [a],_=>rfl
 | a::b::r,_=>by
  have ih:=hV c (ts:=b::r) (by simp)
  rw[vV c a (by simp),ζ,ω,tot]
  omega
theorem yk(ts:List (List Nat)):iG (ts.map λl=>W1 (S l))=some (ts.map S):=by
 induction ts with
 | nil=>rfl
 | cons a r ih=>show(iG (r.map _)).map _=_;rw[ih];rfl
theorem zS{c:Nat}{ts:List (List Nat)}(h:tot ts<=1000000):JoinOk (S [c]) (ts.map S)=true:=by
 have main:∀(ts:List (List Nat)) (a:Nat),(ts.map S).foldl (λx1 x2=>x1+x2.length+(S [c]).length) a=a+tot ts:=by
  intro ts
  induction ts with
  | nil=>intro a;rfl
  | cons t r ih =>
   intro a
   rw[Z2,List.foldl_cons,ih,cJ,cJ,tot]
   show a+t.length+1+tot r=_
   omega
 unfold JoinOk
 have e:=main ts 0
 rw[show Array.foldl (λx1 x2=>x1+x2.length+(S [c]).length) 0 (ts.map S).toArray=tot ts by rw[List.foldl_toArray' (h:=rfl),e];omega]
 show(!decide (tot ts > sizeLine))=true
 rw[sizeLine_eq,decide_eq_false (by omega)]
 rfl
theorem uy{c:Nat}{ts:List (List Nat)}(h:tot ts<=1000000):pq (S [c]) [.list (ts.map λl=>.str (S l))]=some (.str (S (jn c ts))):=by
 show(match iG (ts.map λl=>W1 (S l)) with | some ts=>if JoinOk (S [c]) ts then some (W1 (Txt.join (S [c]) ts)) else none | none=>none)=_
 rw[yk]
 show(if JoinOk (S [c]) (ts.map S)=true then some (W1 (Builtin.Str.glued (S [c]) (ts.map S))) else none)=_
 rw[if_pos (zS h),StrLaws.glued_eq_join,uH]
theorem zU{c:Nat}:∀{ts us:List (List Nat)},ts≠[]->us≠[]->(∀t∈ts,c∉t)->(∀t∈us,c∉t)->jn c ts=jn c us->ts=us
 | [],_,h,_,_,_,_=>absurd rfl h
 | _,[],_,h,_,_,_=>absurd rfl h
 | [a],[b],_,_,_,_,e=>by rw[show a=b from e]
 | [a],b::b'::us,_,_,h1,_,e=>by
  have e:a=b++c::jn c (b'::us):=e
  exact absurd (by rw[e];simp:c∈a) (h1 a υ)
 | a::a'::ts,[b],_,_,_,h2,e=>by
  have e:a++c::jn c (a'::ts)=b:=e
  exact absurd (by rw[<-e];simp:c∈b) (h2 b υ)
 | a::a'::ts,b::b'::us,_,_,h1,h2,e=>by
  have e:a++c::jn c (a'::ts)=b++c::jn c (b'::us):=e
  have p1:=fZ (v:=jn c (a'::ts)) (h1 a υ)
  have p2:=fZ (v:=jn c (b'::us)) (h2 b υ)
  rw[e] at p1
  have q1:b=a:=p2.1.symm.trans p1.1
  have q2:jn c (b'::us)=jn c (a'::ts):=p2.2.symm.trans p1.2
  have ih:=zU (ts:=a'::ts) (us:=b'::us) (by simp) (by simp) (λt ht=>h1 t (ρ _ ht)) (λt ht=>h2 t (ρ _ ht)) q2.symm
  rw[q1,ih]
theorem yq(x y:Str):Txt.split x y≠[]:=by
 unfold Txt.split
 split
 ·simp
 ·split
  ·simp
  ·intro z
   have:=congrArg List.length z
   rw[length_partsBetween] at this
   simp at this
theorem rN{c:Nat}{ts:List (List Nat)}(h0:ts≠[])(h:∀t∈ts,c∉t):Txt.split (S (jn c ts)) (S [c])=ts.map S:=by
 have e1:=StrLaws.join_split (S (jn c ts)) (S [c])
 have e2:∀p,p∈Txt.split (S (jn c ts)) (S [c])->¬c∈p.cps.toList:=λp=>StrLaws.split_free (S (jn c ts)) c p
 have e3:=yq (S (jn c ts)) (S [c])
 generalize Txt.split (S (jn c ts)) (S [c])=ps at *
 have hp:ps=(ps.map λp=>p.cps.toList).map S:=by
  rw[Y7]
  conv=>lhs;rw[<-List.map_id ps]
  exact List.map_congr_left λp _=>(S_L p).symm
 rw[hp,uH] at e1
 have e4:=wJ e1
 have:=zU (by simpa using e3) h0 (λt ht=>by
  obtain⟨p,hp,rfl⟩:=V0.mp ht
  exact e2 p hp) h e4
 rw[hp,this]
theorem qM:∀ts:List (List Nat),ts.length<=tot ts
 | []=>W4 _
 | a::r=>by have:=qM r;rw[ω,tot];omega
theorem ko{c:Nat}{ts:List (List Nat)}(h0:ts≠[])(h:∀t∈ts,c∉t)(hz:tot ts<=1000000):jH (S (jn c ts)) [.str (S [c])]=some (.list (ts.map λl=>.str (S l))):=by
 have hl:=hV c h0
 show(if j0 (S (jn c ts)) (S [c])=true then some (Y0 ((Txt.split (S (jn c ts)) (S [c])).map W1)) else none)=_
 have ok:j0 (S (jn c ts)) (S [c])=true:=by
  unfold j0
  have h1:((S [c]).length==0)==false:=by rw[cJ];rfl
  have h2:aN (S (jn c ts)).length=true:=bi (by rw[cJ];omega)
  have hts:=qM ts
  have h3:aN (Txt.split (S (jn c ts)) (S [c])).length=true:=bi (by rw[rN h0 h,ι];omega)
  have h4:aN (Builtin.Str.partsBetween (S (jn c ts)) (Builtin.Str.occurrences (S (jn c ts)) (S [c]) 0 (S (jn c ts)).length ((S (jn c ts)).length+1)) (S [c]).length).length=true:=bi (by
   rw[length_partsBetween]
   have:=StrLaws.occ_length_le (S (jn c ts)) (S [c]) 0 (S (jn c ts)).length ((S (jn c ts)).length+1)
   rw[cJ] at this ⊢
   omega)
  rw[h1,h2,h3,h4]
  rfl
 rw[if_pos ok,rN h0 h,Y7]
 rfl
theorem oM{sg k h m s t:Nat}(k1:1<=k)(k2:k<=100)(hh:h<10 ^ 30)(hm:m<10 ^ 30)(hs:s<10 ^ 30)(ht:t<10 ^ 30) :
  eC [.tuple [.int (h:Nat),.int (m:Nat),.int (s:Nat),.int (t:Nat)],.str (S [sg]),.int (k:Nat)]=M.ret (.str (S (txt sg k h m s t))):=by
 have st:∀n:Nat,n<10 ^ 30->kt [.int (n:Nat)]=some (.str (Str.ofString (toString ((n:Nat):Int)))):=λn hn=>zo (by omega)
 have l1:=kK (k:=2) hh
 have l2:=kK (k:=2) hm
 have l3:=kK (k:=2) hs
 have l4:=kK (k:=k) ht
 refine bv ?_
 unfold fw
 refine aK (bh (bL (cj (ae (av (ad rfl) ao rfl) ak) (st h hh)) (ae ao ak) (kX (k:=2) (by decide) (by decide)))) ?_
 refine aK (bh (bL (cj (ae (av (ad rfl) ao rfl) ak) (st m hm)) (ae ao ak) (kX (k:=2) (by decide) (by decide)))) ?_
 refine aK (bh (bL (cj (ae (av (ad rfl) ao rfl) ak) (st s hs)) (ae ao ak) (kX (k:=2) (by decide) (by decide)))) ?_
 refine aK (bh (bL (cj (ae (av (ad rfl) ao rfl) ak) (st t ht)) (ae (ad rfl) ak) (kX k1 k2))) ?_
 have sm:∀l:List Nat,l.length<=1000->aN (S l).length=true:=λl hl=>by rw[cJ];exact bi (by omega)
 have ap:∀(a b:List Nat),S a++S b=S (a++b):=eG
 refine bA (Eq.trans (fO (z:=S (fg 2 h)) (y:=S (((((([]++fg 2 h)++[58])++fg 2 m)++[58])++fg 2 s)++[sg]++fg k t)) (sU (ad rfl) (sm _ (by omega))) ?_ ?_) ?_)
 ·rw[<-S_nil,eG]
  exact sm _ (by simp only[ζ,Y6];omega)
 rw[<-S_nil,eG]
 refine fO (z:=S [58]) ao ?_ ?_
 ·rw[eG]
  exact sm _ (by simp only[ζ,Y6,Γ];omega)
 rw[eG]
 refine fO (z:=S (fg 2 m)) (sU (ad rfl) (sm _ (by omega))) ?_ ?_
 ·rw[eG]
  exact sm _ (by simp only[ζ,Y6,Γ];omega)
 rw[eG]
 refine fO (z:=S [58]) ao ?_ ?_
 ·rw[eG]
  exact sm _ (by simp only[ζ,Y6,Γ];omega)
 rw[eG]
 refine fO (z:=S (fg 2 s)) (sU (ad rfl) (sm _ (by omega))) ?_ ?_
 ·rw[eG]
  exact sm _ (by simp only[ζ,Y6,Γ];omega)
 rw[eG]
 refine fO (z:=S [sg]) (sU (ad rfl) rfl) ?_ ?_
 ·rw[eG]
  exact sm _ (by simp only[ζ,Y6,Γ];omega)
 rw[eG]
 refine fO (z:=S (fg k t)) (sU (ad rfl) (sm _ (by omega))) ?_ ?_
 ·rw[eG]
  exact sm _ (by simp only[ζ,Y6,Γ];omega)
 rw[eG]
 refine Ai (sm _ (by simp only[ζ,Y6,Γ];omega))
 ·unfold txt
  simp
theorem mL{n:Nat}(hn:n<10 ^ 30):dM [.int (n:Nat)]=M.ret (.str (S (txt 46 3 (n / 3600000) (n / 60000 % 60) (n / 1000 % 60) (n % 1000)))):=by
 have h1:=oM (sg:=46) (k:=3) (h:=n / 3600000) (m:=n / 60000 % 60) (s:=n / 1000 % 60) (t:=n % 1000) (by decide) (by decide) (by omega) (by omega) (by omega) (by omega)
 have q1:iT (.int (n:Nat)) (.int 1000)=some (.int ((n / 1000:Nat):Int)):=uz (k:=1000) (by decide) (by decide) rfl
 have q2:iT (.int ((n / 1000:Nat):Int)) (.int 60)=some (.int ((n / 60000:Nat):Int)):=uz (k:=60) (by decide) (by decide) (by omega)
 have q3:iT (.int ((n / 60000:Nat):Int)) (.int 60)=some (.int ((n / 3600000:Nat):Int)):=uz (k:=60) (by decide) (by decide) (by omega)
 have q4:di (.int ((n / 60000:Nat):Int)) (.int 60)=some (.int ((n / 60000 % 60:Nat):Int)):=uw (k:=60) (by decide) rfl
 have q5:di (.int ((n / 1000:Nat):Int)) (.int 60)=some (.int ((n / 1000 % 60:Nat):Int)):=uw (k:=60) (by decide) rfl
 have q6:di (.int (n:Nat)) (.int 1000)=some (.int ((n % 1000:Nat):Int)):=uw (k:=1000) (by decide) rfl
 refine bv ?_
 unfold eS
 refine aK (bh (av (ad rfl) ao q1)) ?_
 refine aK (bh (av (ad rfl) ao q2)) ?_
 exact bA (aQ (ae (jN (ae (av (ad rfl) ao q3) (ae (av (ad rfl) ao q4) (ae (av (ad rfl) ao q5) (ae (av (ad rfl) ao q6) ak)))) rfl) (ae ao (ae ao ak))) h1)
theorem mZ{l:List Nat}(hl:l.length<=900)(hu:Uc l)(hg:good 46 3 l=true) :
  dN [.str (S l)]=M.ret (.int (1000*(60*(60*(digitsVal (pH l):Nat)+(digitsVal (pM l):Nat))+(digitsVal (pS 46 l):Nat))+(digitsVal (pT 46 l):Nat))):=by
 have h1:=oS hl hu (by decide) hg
 refine bv ?_
 unfold eU
 refine aK (bh (by first | exact aQ (ae (ad rfl) (ae ao (ae ao ak))) h1 | exact iY (ae (ad rfl) (ae ao (ae ao ak))) h1)) ?_
 clear h1
 obtain⟨a,ha⟩:∃a:Int,a=((digitsVal (pH l):Nat):Int):=⟨_,rfl⟩
 obtain⟨b,hb⟩:∃a:Int,a=((digitsVal (pM l):Nat):Int):=⟨_,rfl⟩
 obtain⟨c,hc⟩:∃a:Int,a=((digitsVal (pS 46 l):Nat):Int):=⟨_,rfl⟩
 obtain⟨d,hd⟩:∃a:Int,a=((digitsVal (pT 46 l):Nat):Int):=⟨_,rfl⟩
 rw[<-ha,<-hb,<-hc,<-hd]
 walk_at "ev"
end CT
namespace TX
end TX
namespace CT
theorem uV{δ:DS}{f:DS->M D}{t:D->DS->Option DS}{y:XD}(h:f δ=some (.error y)):ci f t δ=some (.error y):=by unfold ci;rw[h];rfl
end CT
namespace TX
end TX
namespace CT
abbrev tx(l:List Nat):D:=.str (S l)
theorem zq{l:List Nat}(h:l.length<=1000000):gE [.str (S l)]=some (.int ((l.length:Nat):Int)):=by
 show(if aN (S l).length=true then _ else _)=_
 rw[cJ,if_pos (bi (by omega))]
end CT
namespace DL
theorem zy{d:D}(hc:d.canLay0=true)(hd:d.depth<=60):oNe d d=some (.bool false):=by
 unfold oNe flat
 rw[hc,decide_eq_true (by omega:min d.depth d.depth<=60),SeqAt.eqv_refl _ hc]
 rfl
end DL
namespace CT
def wsg(c:Nat):Prop:=33<=c/\c<=126/\c≠37
structure Wq(w:List Nat):Prop where
 ne:w≠[]
 sg:∀c∈w,wsg c
 len:w.length<=30
theorem zH(a b:Nat):(([a]:List Nat)<[b])↔a<b:=by
 constructor
 ·intro h
  cases h with
  | rel h=>exact h
  | cons h=>cases h
 ·exact λh=>.rel h
theorem jj(a b:Nat):fk (.str (S [a])) (.str (S [b]))=some (.bool (decide (a<=b))):=by
 show some (Y2 (!decide ((S [b]).cps.toList<(S [a]).cps.toList)))=_
 rw[L_S,L_S]
 by_cases h:a<=b
 ·rw[decide_eq_true h,decide_eq_false (by rw[zH];omega)];rfl
 ·rw[decide_eq_false h,decide_eq_true (by rw[zH];omega)];rfl
theorem o_ord(c:Nat):BO [.str (S [c])]=some (.int (c:Int)):=rfl
theorem allT{α:Type}(l:List α):(l.map λ_=>true).all id=true:=by
 induction l with
 | nil=>rfl
 | cons a r ih=>exact ih
theorem oB(l:List Bool):gR (l.map Y2)=some l:=by
 induction l with
 | nil=>rfl
 | cons a r ih=>show(gR (r.map Y2)).map _=_;rw[ih];rfl
theorem o_allT{α:Type}(l:List α):sD [.list ((l.map λ_=>true).map Y2)]=some (.bool true):=by
 show(gR ((l.map λ_=>true).map Y2)).map _=_
 rw[oB]
 show some (Y2 ((l.map λ_=>true).all id))=_
 rw[allT]
theorem qi(w:List Nat):dH (S w)=w.map λc=>.str (S [c]):=by
 unfold dH
 rw[L_S]
 rfl
structure Hd(h:List Nat):Prop where
 ne:h≠[]
 sg:∀c∈h,97<=c/\c<=122
 len:h.length<=8
theorem uI{h:List Nat}(hh:Hd h):d7 [tx h]=M.ret (.bool true):=by
 have h2:=hh.len
 have hl:=zq (l:=h) (by omega)
 have h1:=List.length_pos_iff.mpr hh.ne
 refine bv ?_
 unfold gH
 refine b3 (b:=false) (pU (b1:=false) (b2:=false) (b7 (b:=true) (bQ (gM (d:=tx h) (ad rfl)))) (b7 (b:=true) (bQ ?_))) rfl ?_
 ·exact fP (x:=.int 1) (y:=.int ((h.length:Nat):Int)) (w:=.int 8) (b1:=true) (b2:=true) ao (cj (ae (ad rfl) ak) hl) (by rw[ni,decide_eq_true (by omega)]) ao (by rw[ni,decide_eq_true (by omega)])
 ·refine bA (cj (ae (x:=.list ((h.map λ_=>true).map Y2)) (gN (ds:=h.map λc=>.str (S [c])) (jO (x:=tx h) (ad rfl) (by show some (dH (S h))=_;rw[qi])) (bi (by rw[ι];omega)) ?_) ak) (o_allT h))
  have main:∀(w:List Nat) (x:Sl),(∀c∈w,97<=c/\c<=122)->gQ (tgN 0) (nX kS) (nX (dX fk fk (dC (.str "a")) (aj 0) (dC (.str "z")))) (w.map λc=>.str (S [c])) [x]=M.ret ((w.map λ_=>true).map Y2):=by
   intro w
   induction w with
   | nil=>intro x _;rfl
   | cons c w ih =>
    intro x hw
    have hc:=hw c υ
    exact gO (δ':=[.vl (.str (S [c]))]) rfl (fP (x:=.str (S [97])) (y:=.str (S [c])) (w:=.str (S [122])) (b1:=true) (b2:=true) ao (ad rfl) (by rw[jj,decide_eq_true hc.1]) ao (by rw[jj,decide_eq_true hc.2])) (ih _ λd hd=>hw d (ρ _ hd))
  exact main h .un hh.sg
noncomputable def cu(b e:Int)(h w:List Nat):D:=.tuple [.int b,.int e,tx h,tx w]
theorem lP(i:Int):eR [.int i]=M.ret (.bool true):=rfl
end CT
namespace TX
noncomputable def idx(c:Nat):List Nat->Nat->List Nat
 | [],_=>[]
 | x::r,k=>if x=c then k::idx c r (k+1) else idx c r (k+1)
theorem jY(w:List Nat)(c i:Nat):Builtin.Str.subAt (S w) (S [c]) i=true↔w[i]?=some c:=by
 unfold Builtin.Str.subAt S
 rw[beq_iff_eq,<-Array.toList_inj]
 show(w.toArray.extract i (i+1)).toList=[c]↔_
 rw[Array.toList_extract,List.extract_eq_drop_take]
 show((w.drop i).take (i+1-i))=[c]↔_
 rw[Nat.add_sub_cancel_left]
 cases h:w.drop i with
 | nil =>
  have:=List.drop_eq_nil_iff.mp h
  rw[List.getElem?_eq_none this]
  simp
 | cons x r =>
  have e:w[i]?=(w.drop i)[0]?:=by rw[List.getElem?_drop];rfl
  rw[e,h]
  simp
theorem kn(w:List Nat)(c limit:Nat):∀(n i:Nat) (st:Array Nat) (free:Nat),i+n=w.length+1->free<=i->st.size<=limit->(forIn (List.range' i n) (st,free) (StrLaws.occBody (S w) (S [c]) w.length limit)).run.fst.toList=st.toList++(idx c (w.drop i) i).take (limit-st.size)
 | 0,i,st,free,e,_,_=>by
  rw[List.drop_eq_nil_of_le (by omega)]
  show st.toList=st.toList++(([]:List Nat).take _)
  rw[List.take_nil,Λ]
 | n+1,i,st,free,e,hf,hs=>by
  rw[List.range'_succ,List.forIn_cons]
  have hl:(S [c]).length=1:=by rw[cJ];rfl
  have yes:((st.size<limit/\free<=i)/\i+1<=w.length)/\w[i]?=some c->StrLaws.occBody (S w) (S [c]) w.length limit i (st,free)=pure (ForInStep.yield (st.push i,i+1)):=λz=>by
   unfold StrLaws.occBody
   rw[if_pos ⟨⟨z.1.1,by rw[hl];exact z.1.2⟩,(jY w c i).mpr z.2⟩,hl]
  have no:¬(((st.size<limit/\free<=i)/\i+1<=w.length)/\w[i]?=some c)->StrLaws.occBody (S w) (S [c]) w.length limit i (st,free)=pure (ForInStep.yield (st,free)):=λz=>by
   unfold StrLaws.occBody
   rw[if_neg λq=>z ⟨⟨q.1.1,by have:=q.1.2;rw[hl] at this;exact this⟩,(jY w c i).mp q.2⟩]
  by_cases hi:i<w.length
  ·have hd:w.drop i=w[i]::w.drop (i+1):=List.drop_eq_getElem_cons hi
   rw[hd]
   by_cases hc:w[i]=c
   ·have e1:idx c (w[i]::w.drop (i+1)) i=i::idx c (w.drop (i+1)) (i+1):=if_pos hc
    rw[e1]
    by_cases hz:st.size<limit
    ·rw[yes ⟨⟨⟨hz,hf⟩,by omega⟩,by rw[Z7 hi,hc]⟩]
     have ih:=kn w c limit n (i+1) (st.push i) (i+1) (by omega) (ο _) (by rw[Array.size_push];omega)
     refine ih.trans ?_
     rw[Array.toList_push,Array.size_push,X4]
     obtain⟨k,hk⟩:∃k,limit-st.size=k+1:=⟨limit-st.size-1,by omega⟩
     rw[hk,show limit-(st.size+1)=k by omega,List.take_succ_cons]
     rfl
    ·rw[no (λz=>hz z.1.1.1)]
     have ih:=kn w c limit n (i+1) st free (by omega) (by omega) hs
     refine ih.trans ?_
     rw[show limit-st.size=0 by omega]
     rfl
   ·rw[no (λz=>hc (by have:=z.2;rw[Z7 hi] at this;exact Option.some.inj this))]
    have e1:idx c (w[i]::w.drop (i+1)) i=idx c (w.drop (i+1)) (i+1):=if_neg hc
    rw[e1]
    exact kn w c limit n (i+1) st free (by omega) (by omega) hs
  ·rw[no (λz=>by have:=z.1.2;omega)]
   rw[List.drop_eq_nil_of_le (by omega)]
   have ih:=kn w c limit n (i+1) st free (by omega) (by omega) hs
   rw[List.drop_eq_nil_of_le (by omega)] at ih
   exact ih
theorem sA(w:List Nat)(c limit:Nat):Builtin.Str.occurrences (S w) (S [c]) 0 (S w).length limit=(idx c w 0).take limit:=by
 rw[StrLaws.occ_eq,cJ]
 exact kn w c limit (w.length+1) 0 #[] 0 (by omega) (ο _) (W4 _)
theorem nJ{c:Nat}:∀{a:List Nat} (b:List Nat) (k:Nat),c∉a->idx c (a++b) k=idx c b (k+a.length)
 | [],b,k,_=>rfl
 | x::a,b,k,h=>by
  have h1:¬x=c:=λz=>h (z▸υ)
  show(if x=c then _ else idx c (a++b) (k+1))=_
  rw[if_neg h1,nJ b (k+1) λz=>h (ρ _ z),ω]
  congr 1
  omega
theorem uL{c:Nat}{a:List Nat}(b:List Nat)(k:Nat)(h:c∉a):idx c (a++c::b) k=(k+a.length)::idx c b (k+a.length+1):=by
 rw[nJ _ k h]
 exact if_pos rfl
theorem vz(w:List Nat)(i j:Nat):Builtin.Str.strSub (S w) i j=S ((w.drop i).take (j-i)):=by
 rw[<-S_L (Builtin.Str.strSub _ _ _),StrLaws.strSub_toList,L_S]
theorem pJ{w:List Nat}{c:Nat}(h:∀x∈w,x<128)(hc:c<128):(decide ((S w).length<(S [c]).length)||decide (Builtin.Str.strKind (S w)<Builtin.Str.strKind (S [c])))=decide (w.length<1):=by
 have k1:Builtin.Str.strKind (S w)=1:=by
  unfold Builtin.Str.strKind S
  rw[if_pos (by simp;intro i hi;have:=h _ hi;omega)]
 have k2:Builtin.Str.strKind (S [c])=1:=by
  unfold Builtin.Str.strKind S
  rw[if_pos (by simp;omega)]
 rw[k1,k2,cJ,cJ]
 simp
theorem wZ{a b d e:List Nat}{c:Nat}(hc:c<128)(ha:c∉a)(hb:c∉b)(hd:c∉d)(hw:∀x∈a++c::(b++c::(d++c::e)),x<128):Txt.splitMax (S (a++c::(b++c::(d++c::e)))) (S [c]) 3=[S a,S b,S d,S e]:=by
 obtain⟨w,hwd⟩:∃w,w=a++c::(b++c::(d++c::e)):=⟨_,rfl⟩
 have hl:w.length=a.length+(b.length+(d.length+(e.length+1)+1)+1):=by rw[hwd];simp
 have ho:Builtin.Str.occurrences (S w) (S [c]) 0 (S w).length (limitOf (S w) 3)=[a.length,a.length+1+b.length,a.length+1+b.length+1+d.length]:=by
  rw[sA,hwd,uL _ _ ha,uL _ _ hb,uL _ _ hd,Nat.zero_add]
  rfl
 rw[<-hwd] at hw ⊢
 unfold Txt.splitMax
 rw[pJ hw hc,decide_eq_false (by omega),if_neg Z0,ho,if_neg (by simp)]
 unfold Builtin.Str.partsBetween
 have hc1:(S [c]).length=1:=by rw[cJ];rfl
 rw[hc1]
 show [Builtin.Str.strSub (S w) 0 a.length,Builtin.Str.strSub (S w) (a.length+1) (a.length+1+b.length),Builtin.Str.strSub (S w) (a.length+1+b.length+1) (a.length+1+b.length+1+d.length),Builtin.Str.strSub (S w) (a.length+1+b.length+1+d.length+1) (S w).length]=_
 rw[vz,vz,vz,vz,cJ]
 have d1:w.drop (a.length+1)=b++c::(d++c::e):=by rw[hwd,<-List.drop_drop,List.drop_left];rfl
 have d2:w.drop (a.length+1+b.length+1)=d++c::e:=by rw[<-List.drop_drop,<-List.drop_drop,d1,List.drop_left];rfl
 have d3:w.drop (a.length+1+b.length+1+d.length+1)=e:=by rw[<-List.drop_drop,<-List.drop_drop,d2,List.drop_left];rfl
 rw[d1,d2,d3,List.drop_zero,Nat.sub_zero,Nat.add_sub_cancel_left,Nat.add_sub_cancel_left]
 have t1:w.take a.length=a:=by rw[hwd,List.take_left]
 rw[t1,List.take_left,List.take_left,List.take_of_length_le (by omega)]
theorem w4{a:List Nat}{c:Nat}(hc:c<128)(ha:c∉a)(hw:∀x∈a,x<128):Txt.splitMax (S a) (S [c]) 3=[S a]:=by
 have ho:Builtin.Str.occurrences (S a) (S [c]) 0 (S a).length (limitOf (S a) 3)=[]:=by
  have:=nJ (c:=c) (a:=a) [] 0 ha
  rw[Λ] at this
  rw[sA,this]
  rfl
 unfold Txt.splitMax
 rw[pJ hw hc,ho]
 by_cases h:a.length<1
 ·rw[decide_eq_true h,if_pos rfl]
 ·rw[decide_eq_false h,if_neg Z0]
  rfl
end TX
namespace DL
theorem Ah{δ:DS}{f:DS->M D}{d:D}(h:f δ=M.ret d):nX f δ=M.ret d:=by unfold nX;rw[h];rfl
theorem ev_nXa{δ:DS}{fa:DS->M (List D)}{ds:List D}(h:fa δ=M.ret ds):noX (fa δ)=M.ret ds:=by rw[h];rfl
theorem ev_meX{δ:DS}{nm m:Str}{F:List D->M D}{fo:DS->M D}{fa:DS->M (List D)}{x d:D}{r ds:List D}(h1:fo δ=M.ret x)(h2:oC nm x=some r)(h3:iU m r=true)(h4:fa δ=M.ret ds)(h5:F (x::ds)=M.ret d):dMe nm m F fo fa δ=M.ret d:=by
 unfold dMe
 rw[h1,aR,h2]
 show(if iU m r=true then (fa δ).thn λds=>F (x::ds) else none)=_
 rw[if_pos h3,h4,aR,h5]
theorem uA(bs:List Bool):sD [.list (bs.map Y2)]=some (.bool (bs.all id)):=by
 show(gR (bs.map Y2)).map _=_
 rw[oB]
 rfl
end DL
namespace CT
noncomputable def nsg(c:Nat):Bool:=decide (97<=c)&&decide (c<=122)
noncomputable def sI(h:List Nat):Bool:=(decide (1<=h.length)&&decide (h.length<=8))&&h.all nsg
noncomputable def wsB(c:Nat):Bool:=(decide (33<=c)&&decide (c<=126))&&!decide (c=37)
noncomputable def jV(w:List Nat):Bool:=(decide (1<=w.length)&&decide (w.length<=30))&&w.all wsB
theorem vh{α:Type}(l:List α)(p:α->Bool):(l.map p).all id=l.all p:=by
 rw[List.all_map]
 rfl
theorem p7{δ:DS}{l:List Nat}{lo hi:Int}{n:Nat}(hn:hi=(n:Int))(hlo:lo=1)(hl:l.length<=1000000)(h:δ[0]?=some (.vl (tx l))):dX fk fk (dC (.int lo)) (dCB gE (ai (aj 0) az)) (dC (.int hi)) δ=M.ret (.bool (decide (1<=l.length)&&decide (l.length<=n))):=by
 subst hn hlo
 have e1:decide ((1:Int)<=((l.length:Nat):Int))=decide (1<=l.length):=by
  by_cases q:1<=l.length
  ·rw[decide_eq_true q,decide_eq_true (by omega)]
  ·rw[decide_eq_false q,decide_eq_false (by omega)]
 have e2:decide (((l.length:Nat):Int)<=(n:Int))=decide (l.length<=n):=by
  by_cases q:l.length<=n
  ·rw[decide_eq_true q,decide_eq_true (by omega)]
  ·rw[decide_eq_false q,decide_eq_false (by omega)]
 rw[<-e1,<-e2]
 exact fP ao (cj (ae (ad h) ak) (zq hl)) ni ao ni
theorem xF{h:List Nat}(hz:h.length<=100000):d7 [tx h]=M.ret (.bool (sI h)):=by
 have hc:=p7 (δ:=[.vl (tx h)]) (l:=h) (lo:=1) (hi:=8) (n:=8) rfl rfl (by omega) rfl
 refine bv ?_
 unfold gH sI
 cases hb:(decide (1<=h.length)&&decide (h.length<=8)) with
 | false =>
  rw[hb] at hc
  exact gL (b:=true) (pU (b1:=false) (b2:=true) (b7 (b:=true) (bQ (gM (d:=tx h) (ad rfl)))) (b7 (b:=false) (bQ hc))) (sO rfl (jm (bA ao)))
 | true =>
  rw[hb] at hc
  rw[V7,<-vh]
  refine b3 (b:=false) (pU (b1:=false) (b2:=false) (b7 (b:=true) (bQ (gM (d:=tx h) (ad rfl)))) (b7 (b:=true) (bQ hc))) rfl ?_
  refine bA (cj (ae (x:=.list ((h.map nsg).map Y2)) (gN (ds:=h.map λc=>.str (S [c])) (jO (x:=tx h) (ad rfl) (by show some (dH (S h))=_;rw[qi])) (bi (by rw[ι];omega)) ?_) ak) (uA _))
  have main:∀(w:List Nat) (x:Sl),gQ (tgN 0) (nX kS) (nX (dX fk fk (dC (.str "a")) (aj 0) (dC (.str "z")))) (w.map λc=>.str (S [c])) [x]=M.ret ((w.map nsg).map Y2):=by
   intro w
   induction w with
   | nil=>intro x;rfl
   | cons c w ih =>
    intro x
    exact gO (δ':=[.vl (.str (S [c]))]) rfl (fP (x:=.str (S [97])) (y:=.str (S [c])) (w:=.str (S [122])) ao (ad rfl) (jj _ _) ao (jj _ _)) (ih _)
  exact main h .un
theorem rC(c:Nat):cC [.str (S [c])]=M.ret (.bool (wsB c)):=by
 refine bv ?_
 unfold ed wsB
 refine bA (eX (fP (x:=.str (S [33])) (y:=.str (S [c])) (w:=.str (S [126])) ao (ad rfl) (jj _ _) ao (jj _ _)) (av (cj (ae (ad rfl) ak) (o_ord c)) ao ?_))
 by_cases h:c=37
 ·subst h;rfl
 ·have h2:¬((c:Int)=37):=by omega
  rw[o_ne]
  simp [h,h2]
theorem xE{w:List Nat}(hz:w.length<=100000):fE [tx w]=M.ret (.bool (jV w)):=by
 have hc:=p7 (δ:=[.vl (tx w)]) (l:=w) (lo:=1) (hi:=30) (n:=30) rfl rfl (by omega) rfl
 refine bv ?_
 unfold jl jV
 rw[<-vh]
 refine bA (eX hc (cj (ae (x:=.list ((w.map wsB).map Y2)) (gN (ds:=w.map λc=>.str (S [c])) (jO (x:=tx w) (ad rfl) (by show some (dH (S w))=_;rw[qi])) (bi (by rw[ι];omega)) ?_) ak) (uA _)))
 have main:∀(w:List Nat) (x:Sl),gQ (tgN 0) (nX kS) (nX (br (λds=>noX (cC ds)) (ai (aj 0) az))) (w.map λc=>.str (S [c])) [x]=M.ret ((w.map wsB).map Y2):=by
  intro w
  induction w with
  | nil=>intro x;rfl
  | cons c w ih=>intro x;exact gO (δ':=[.vl (.str (S [c]))]) rfl (aQ (ae (ad rfl) ak) (rC c)) (ih _)
 exact main w .un
theorem tH{ws:List (List Nat)}(h0:ws≠[])(hn:∀w∈ws,32∉w)(hz:tot ws<=90000):e9 [tx (jn 32 ws)]=M.ret (.bool (ws.all jV)):=by
 have hs:=ko h0 hn (by omega)
 have hl:=qM ws
 have hwl:∀w∈ws,w.length<=90000:=by
  clear hs hl hn h0
  induction ws with
  | nil=>intro w hw;cases hw
  | cons a r ih =>
   have:tot (a::r)=a.length+1+tot r:=rfl
   intro w hw
   rcases Δ.mp hw with rfl | hw
   ·omega
   ·exact ih (by omega) w hw
 refine bv ?_
 unfold gf
 rw[<-vh]
 refine bA (jq (gM (d:=tx (jn 32 ws)) (ad rfl)) (cj (ae (x:=.list ((ws.map jV).map Y2)) (gN (ds:=ws.map λl=>.str (S l)) (jO (x:=.list (ws.map λl=>.str (S l))) (bL (ad rfl) (ae ao ak) hs) rfl) (bi (by rw[ι];omega)) ?_) ak) (uA _)))
 clear hs hl hz h0 hn
 have main:∀(ws:List (List Nat)) (x:Sl),(∀w∈ws,w.length<=90000)->gQ (tgN 0) (nX kS) (nX (br (λds=>noX (fE ds)) (ai (aj 0) az))) (ws.map λl=>.str (S l)) [x]=M.ret ((ws.map jV).map Y2):=by
  intro w
  induction w with
  | nil=>intro x _;rfl
  | cons c w ih=>intro x hw;exact gO (δ':=[.vl (tx c)]) rfl (aQ (ae (ad rfl) ak) (xE (by have:=hw c υ;omega))) (ih _ λd hd=>hw d (ρ _ hd))
 exact main ws .un hwl
noncomputable def tq(b e:Int)(h:List Nat)(ws:List (List Nat)):Bool:=(decide (0<=b)&&decide (b<e))&&(sI h&&ws.all jV)
theorem sP{b e:Int}{h:List Nat}{ws:List (List Nat)}(hh:h.length<=100000)(h0:ws≠[])(hn:∀w∈ws,32∉w)(hz:tot ws<=90000):gW [cu b e h (jn 32 ws)]=M.ret (.bool (tq b e h ws)):=by
 have hnm:=xF hh
 have ha:=tH h0 hn hz
 refine bv ?_
 unfold kI cu tq
 refine b3 (b:=false) (pU (b1:=false) (b2:=false) (b7 (b:=true) (bQ (gM (d:=.tuple [.int b,.int e,tx h,tx (jn 32 ws)]) (ad rfl)))) (bQ (av (cj (ae (ad rfl) ak) zr) ao rfl))) rfl ?_
 refine b3 (b:=false) (pU (b1:=false) (b2:=false) (b7 (b:=true) (bQ (aQ (ds:=[.int b]) (ae (av (ad rfl) ao rfl) ak) (lP b)))) (b7 (b:=true) (bQ (aQ (ds:=[.int e]) (ae (av (ad rfl) ao rfl) ak) (lP e))))) rfl ?_
 exact bA (eX (fP (x:=.int 0) (y:=.int b) (w:=.int e) ao (av (ad rfl) ao rfl) ni (av (ad rfl) ao rfl) (by first | exact sB | exact pC)) (eX (aQ (ds:=[tx h]) (ae (av (ad rfl) ao rfl) ak) hnm) (aQ (ds:=[tx (jn 32 ws)]) (ae (av (ad rfl) ao rfl) ak) ha)))
noncomputable def R4(a b h w:List Nat):List Nat:=a++32::(b++32::(h++32::w))
noncomputable def vm(l:List Nat):Int:=1000*(60*(60*(digitsVal (pH l):Nat)+(digitsVal (pM l):Nat))+(digitsVal (pS 46 l):Nat))+(digitsVal (pT 46 l):Nat)
abbrev TH:D:=nI "Thousandths" []
theorem at_TH:oC "Thousandths" TH=some []:=by kernel_rfl
theorem sp_ok{l:List Nat}{ps:List (List Nat)}(hl:l.length<=100000)(hp:ps.length<=1000)(h:Txt.splitMax (S l) (S [32]) 3=ps.map S):mf (S l) [.str (S [32]),.int 3]=some (.list (ps.map tx)):=by
 have e1:(((S [32]).length==0)==false&&aN (S l).length&&aN (Txt.splitMax (S l) (S [32]) 3).length&&!(decide ((3:Int) < -(2 ^ 63:Int))||decide ((3:Int) ≥ 2 ^ 63)))=true:=by
  rw[h,bi (by rw[cJ];omega),bi (by rw[ι];omega)]
  rfl
 show(if _=true then some (Y0 ((Txt.splitMax (S l) (S [32]) 3).map W1)) else none)=_
 rw[if_pos e1,h,Y7]
 rfl
theorem A4{a:List Nat}(hl:a.length<=900)(hu:Uc a)(hg:good 46 3 a=true):bE [TH,tx a]=M.ret (.int (vm a)):=by
 refine bv ?_
 unfold cP
 exact bA (iY (ae (ad rfl) ak) (mZ hl hu hg))
abbrev pD(k:Int):M D:=some (.error ⟨"NoCue",[("row",.int k)]⟩)
theorem Bf{l:List Nat}{ps:List (List Nat)}{k:Int}(hl:l.length<=100000)(hp:ps.length<=3)(h:Txt.splitMax (S l) (S [32]) 3=ps.map S)(hk:km k=true):cw [TH,tx l,.int k]=pD k:=by
 have hs:=sp_ok hl (by omega) h
 refine lB ?_
 unfold eM
 refine aK (bh (d:=.list (ps.map tx)) (bL (z:=S l) (ad rfl) (ae (x:=.str (S [32])) ao (ae ao ak)) hs)) ?_
 refine ik (qY (bQ (av (x:=.int ((ps.map tx).length:Int)) (cj (ae (ad rfl) ak) zt) ao ?_)) (lA (ae (ad rfl) ak) hk))
 rw[o_ne,ι]
 have:¬((ps.length:Int)=4):=by omega
 simp [this]
section
variable{a b h:List Nat}{ws:List (List Nat)}{k:Int}
structure R4ok(a b h:List Nat)(ws:List (List Nat)):Prop where
 a0:32∉a
 b0:32∉b
 h0:32∉h
 wn:ws≠[]
 w0:∀w∈ws,32∉w
 wt:tot ws<=5000
 al:a.length<=800
 bl:b.length<=800
 hl:h.length<=800
 sg:∀x∈R4 a b h (jn 32 ws),x<128
theorem R4ok.len(q:R4ok a b h ws):(R4 a b h (jn 32 ws)).length<=10000:=by
 have h1:=hV 32 q.wn
 have h2:=q.wt
 have h3:=q.al
 have h4:=q.bl
 have h5:=q.hl
 unfold R4
 simp only[ζ,ω]
 omega
theorem R4ok.sp(q:R4ok a b h ws):Txt.splitMax (S (R4 a b h (jn 32 ws))) (S [32]) 3=[a,b,h,jn 32 ws].map S:=wZ (by decide) q.a0 q.b0 q.h0 q.sg
theorem R4ok.ua(q:R4ok a b h ws):Uc a:=λc hc=>by have:=q.sg c (Z1 _ hc);omega
theorem R4ok.ub(q:R4ok a b h ws):Uc b:=λc hc=>by have:=q.sg c (Y1 _ (ρ _ (Z1 _ hc)));omega
noncomputable abbrev rdE(i:Int):DS->M D:=dMe "Thousandths" "read" bE (nX (aj 0)) (λδ=>noX ((ai (d2 oIx (aj 3) (dC (.int i))) az) δ))
theorem sd(q:R4ok a b h ws){r:M Out}(hr:bo (nM "NoTime" 4 (oi (ai (rdE 0) (ai (rdE 1) (ai (nX (d2 oIx (aj 3) (dC (.int 2)))) (ai (nX (d2 oIx (aj 3) (dC (.int 3)))) az))))) (dP "NoCue" "row" (ai (aj 2) az)))
  (bo (gIf (ja (dB (br (λds=>noX (gW ds)) (ai (aj 4) az)))) (dP "NoCue" "row" (ai (aj 2) az)) dF) (cF (aj 4))) [.vl TH,.vl (tx (R4 a b h (jn 32 ws))),.vl (.int k),.vl (.list [tx a,tx b,tx h,tx (jn 32 ws)]),.un]=r) :
  eM (dg 5 [TH,tx (R4 a b h (jn 32 ws)),.int k])=r:=by
 have hs:=sp_ok (ps:=[a,b,h,jn 32 ws]) (by have:=q.len;omega) (by show 4<=1000;decide) q.sp
 unfold eM
 refine aK (bh (d:=.list [tx a,tx b,tx h,tx (jn 32 ws)]) (bL (z:=S (R4 a b h (jn 32 ws))) (ad rfl) (ae (x:=.str (S [32])) ao (ae ao ak)) hs)) ?_
 exact b3 (b:=false) (bQ (av (cj (ae (ad rfl) ak) rfl) ao rfl)) rfl hr
theorem rd_ok{δ:DS}{i:Int}{c:List Nat}{L:List D}(h0:δ[0]?=some (.vl TH))(h3:δ[3]?=some (.vl (.list L)))(hi:oIx (.list L) (.int i)=some (tx c))(hl:c.length<=900)(hu:Uc c)(hg:good 46 3 c=true):rdE i δ=M.ret (.int (vm c)) :=
 ev_meX (Ah (ad h0)) at_TH rfl (ev_nXa (ae (av (ad h3) ao hi) ak)) (A4 hl hu hg)
theorem vF(q:R4ok a b h ws)(hga:good 46 3 a=true)(hgb:good 46 3 b=true):nM "NoTime" 4 (oi (ai (rdE 0) (ai (rdE 1) (ai (nX (d2 oIx (aj 3) (dC (.int 2)))) (ai (nX (d2 oIx (aj 3) (dC (.int 3)))) az))))) (dP "NoCue" "row" (ai (aj 2) az)) [.vl TH,.vl (tx (R4 a b h (jn 32 ws))),.vl (.int k),.vl (.list [tx a,tx b,tx h,tx (jn 32 ws)]),.un]=M.ret (.nx [.vl TH,.vl (tx (R4 a b h (jn 32 ws))),.vl (.int k),.vl (.list [tx a,tx b,tx h,tx (jn 32 ws)]),.vl (cu (vm a) (vm b) h (jn 32 ws))]) :=
 uS (jN (ae (rd_ok rfl rfl rfl (by have:=q.al;omega) q.ua hga) (ae (rd_ok rfl rfl rfl (by have:=q.bl;omega) q.ub hgb) (ae (Ah (av (ad rfl) ao rfl)) (ae (Ah (av (ad rfl) ao rfl)) ak)))) rfl)
theorem row_c(q:R4ok a b h ws)(hga:good 46 3 a=true)(hgb:good 46 3 b=true)(hc:tq (vm a) (vm b) h ws=false)(hk:km k=true):cw [TH,tx (R4 a b h (jn 32 ws)),.int k]=pD k:=by
 have hq:=sP (b:=vm a) (e:=vm b) (h:=h) (ws:=ws) (by have:=q.hl;omega) q.wn q.w0 (by have:=q.wt;omega)
 rw[hc] at hq
 exact lB (sd q (aK (vF q hga hgb) (ik (qY (b7 (b:=false) (bQ (aQ (ae (ad rfl) ak) hq))) (lA (ae (ad rfl) ak) hk)))))
theorem row_ok(q:R4ok a b h ws)(hga:good 46 3 a=true)(hgb:good 46 3 b=true)(hc:tq (vm a) (vm b) h ws=true):cw [TH,tx (R4 a b h (jn 32 ws)),.int k]=M.ret (cu (vm a) (vm b) h (jn 32 ws)):=by
 have hq:=sP (b:=vm a) (e:=vm b) (h:=h) (ws:=ws) (by have:=q.hl;omega) q.wn q.w0 (by have:=q.wt;omega)
 rw[hc] at hq
 exact bv (sd q (aK (vF q hga hgb) (b3 (b:=false) (b7 (b:=true) (bQ (aQ (ae (ad rfl) ak) hq))) rfl (bA (ad rfl)))))
end
structure C4 where
 b:Int
 e:Int
 h:List Nat
 w:List Nat
noncomputable def c4(c:C4):D:=cu c.b c.e c.h c.w
def Rd(CK:D)(l:List Nat)(c:C4):Prop:=∀k:Nat,cw [CK,tx l,.int (k:Int)]=M.ret (c4 c)
def Nr(CK:D)(l:List Nat):Prop:=∀k:Nat,k<=100->cw [CK,tx l,.int (k:Int)]=pD (k:Int)
theorem nh:∀n:Nat,n<=100->km (n:Int)=true:=by decide +kernel
theorem zK(xs:List D)(x:D):oIx (.list (xs++[x])) (.int (-1))=some x:=by
 show L2.atI (xs++[x]) (-1)=some x
 unfold L2.atI L2.ixN
 rw[if_neg (by omega),if_pos (by simp;omega)]
 show(xs++[x])[(-1+((xs++[x]).length:Int)).toNat]?=_
 rw[ζ,Γ,show(-1+((xs.length+1:Nat):Int)).toNat=xs.length by omega]
 simp
noncomputable abbrev lowT:DS->M Bool:=rf 2 (oj (dTr (aj 2)) (dB (d2 oLt (d2 oIx (aj 5) (dC (.int 0))) (d2 oIx (d2 oIx (aj 2) (d1 BP (dC (.int 1)))) (dC (.int 0))))))
theorem vT{x0 x1 x3 x4 x5:Sl}:lowT [x0,x1,.ow [],x3,x4,x5]=M.ret false:=sT (Ao rfl)
theorem uG{x0 x1 x3 x4:Sl}{c c':C4}{cs:List C4}:lowT [x0,x1,.ow ((cs++[c']).map c4),x3,x4,.vl (c4 c)]=M.ret (decide (c.b<c'.b)):=by
 rw[X0]
 have hli:=zK (cs.map c4) (c4 c')
 refine sT (Am (by show dTr (aj 2) _=_;unfold dTr;rw[ad (d:=.list (cs.map c4++[c4 c'])) rfl,aR];show M.lift (some (!(cs.map c4++[c4 c']).isEmpty))=_;simp [M.lift,M.ret]) ?_)
 exact bQ (av (x:=.int c.b) (y:=.int c'.b) (av (x:=c4 c) (ad rfl) ao rfl) (av (x:=c4 c') (av (x:=.list (cs.map c4++[c4 c'])) (ad rfl) (ev_1 ao rfl) hli) ao rfl) (by first | exact sB | exact pC))
noncomputable abbrev j7:D->DS->M Out:=gS (mF 2 (fF (tgN 3) (fF (tgN 4) o9))) db
theorem m2{CK:D}(X:D){more:List (List Nat)}{r:M Out}:∀(q:List (List Nat×C4)) (j:Nat) (cs:List C4) (x3 x4 x5:Sl),(∀p∈q,Rd CK p.1 p.2)->(cs++q.map Prod.snd).Pairwise (λx y=>x.b<=y.b)->cs.length+q.length<=100 ->
  (∀y3 y4 y5,ib j7 (ej (j+q.length:Nat) (more.map tx)) [.vl CK,.vl X,.ow ((cs++q.map Prod.snd).map c4),y3,y4,y5]=r)->ib j7 (ej j ((q.map Prod.fst++more).map tx)) [.vl CK,.vl X,.ow (cs.map c4),x3,x4,x5]=r
 | [],j,cs,x3,x4,x5,_,_,_,hk=>by
  have:=hk x3 x4 x5
  rw[List.map_nil,Λ] at this
  exact this
 | (l,c)::q,j,cs,x3,x4,x5,h,hp,hl,hk=>by
  rw[ω] at hl
  have hr:=h (l,c) υ j
  have hr:cw [CK,tx l,.int (j:Int)]=M.ret (c4 c):=hr
  have e1:(cs++((l,c)::q).map Prod.snd)=(cs++[c])++q.map Prod.snd:=by rw[Z2,X4];rfl
  have e2:j+((l,c)::q).length=j+1+q.length:=by rw[ω];omega
  rw[e1] at hp
  rw[e1,e2] at hk
  have ih:=m2 X (more:=more) (r:=r) q (j+1) (cs++[c]) (.vl (.int (j:Int))) (.vl (tx l)) (.vl (c4 c)) (λp hp=>h p (ρ _ hp)) hp (by rw[ζ,Γ];omega) hk
  rw[show(cs++[c]).map c4=cs.map c4++[c4 c] from X0] at ih
  show ib j7 (.tuple [.int (j:Int),tx l]::ej (j+1) ((q.map Prod.fst++more).map tx)) _=r
  refine gI (δ':=[.vl CK,.vl X,.ow (cs.map c4++[c4 c]),.vl (.int (j:Int)),.vl (tx l),.vl (c4 c)]) (ig (δ':=[.vl CK,.vl X,.ow (cs.map c4),.vl (.int (j:Int)),.vl (tx l),x5]) rfl ?_) ih
  unfold db
  refine aK (bh (d:=c4 c) (iY (ae (ad rfl) (ae (ad rfl) (ae (ad rfl) ak))) hr)) ?_
  refine b3 (b:=false) ?_ rfl (nT (ds:=cs.map c4) (d:=c4 c) rfl (ad rfl) (bi (by rw[ι];omega)))
  rcases List.eq_nil_or_concat cs with rfl | ⟨cs0,c',rfl⟩
  ·exact vT
  ·rw[List.concat_eq_append] at hp ⊢
   have hle:c'.b<=c.b:=by
    have h1:=(U0.mp hp).1
    exact(U0.mp h1).2.2 c' (by simp) c (by simp)
   refine Eq.trans uG ?_
   rw[decide_eq_false (by omega)]
def Stop(CK:D)(q:List (List Nat×C4))(x:List Nat):Prop:=Nr CK x\/∃c q0 p,Rd CK x c/\q=q0++[p]/\c.b<p.2.b
theorem wV{CK X:D}{q:List (List Nat×C4)}{x:List Nat}{more:List D}{j:Nat}(hj:j<=100)(h:Stop CK q x)(y3 y4 y5:Sl):ib j7 (.tuple [.int (j:Int),tx x]::more) [.vl CK,.vl X,.ow ((q.map Prod.snd).map c4),y3,y4,y5]=some (.error ⟨"NoCue",[("row",.int (j:Int))]⟩):=by
 have main:j7 (.tuple [.int (j:Int),tx x]) [.vl CK,.vl X,.ow ((q.map Prod.snd).map c4),y3,y4,y5]=some (.error ⟨"NoCue",[("row",.int (j:Int))]⟩):=by
  refine ig (δ':=[.vl CK,.vl X,.ow ((q.map Prod.snd).map c4),.vl (.int (j:Int)),.vl (tx x),y5]) rfl ?_
  unfold db
  rcases h with h | ⟨c,q0,p,h,rfl,hb⟩
  ·exact ik (uV (AA (ae (ad rfl) (ae (ad rfl) (ae (ad rfl) ak))) (h j hj)))
  ·refine aK (bh (d:=c4 c) (iY (ae (ad rfl) (ae (ad rfl) (ae (ad rfl) ak))) (h j))) ?_
   refine ik (qY ?_ (lA (ae (ad rfl) ak) (nh j hj)))
   rw[X0]
   refine Eq.trans (uG (cs:=q0.map Prod.snd) (c':=p.2)) ?_
   rw[decide_eq_true hb]
 show(j7 _ _).thn _=_
 rw[main]
 rfl
theorem vE{ts:List (List Nat)}(h0:ts≠[])(hj:jn 10 ts≠[])(hn:∀w∈ts,10∉w)(ht:tot ts<=900000):fD [tx (jn 10 ts)]=M.ret (.list (ts.map tx)):=by
 have hlen:=hV 10 h0
 have hpos:=List.length_pos_iff.mpr hj
 have hsp:=ko (c:=10) h0 hn (by omega)
 refine bv ?_
 unfold gG
 refine bA ?_
 refine Ak (b:=true) (by
  unfold dTr
  rw[ad (d:=tx (jn 10 ts)) rfl,aR]
  show M.lift (if aN (S (jn 10 ts)).length then some (((S (jn 10 ts)).length:Int) != 0) else none)=_
  rw[if_pos (bi (by rw[cJ];omega)),cJ]
  have:((((jn 10 ts).length:Nat):Int) != 0)=true:=by simp only[bne_iff_ne,ne_eq];omega
  rw[this]
  rfl) ?_
 rw[if_pos rfl]
 exact bL (z:=S (jn 10 ts)) (ad rfl) (ae (x:=.str (S [10])) ao ak) hsp
theorem yB:fD [tx []]=M.ret (.list []):=by
 refine bv ?_
 unfold gG
 refine bA ?_
 refine Ak (b:=false) (by unfold dTr;rw[ad (d:=tx []) rfl];rfl) ?_
 rw[if_neg Z0]
 exact gr (ds:=[]) ak rfl
theorem yE{CK:D}:bK [CK,tx []]=M.ret (.list []):=by
 refine bv ?_
 unfold d4
 refine aK (δ':=[.vl CK,.vl (tx []),.un,.un,.un,.un]) (kM (b:=false) (b7 (b:=true) (bQ (gM (d:=tx []) (ad rfl)))) rfl) ?_
 refine aK (jo (ds:=[]) (jp ak rfl)) ?_
 exact aK (ie (ds:=ej 1 []) (nS (ae (aQ (ae (ad rfl) ak) yB) ak)) rfl) rfl
theorem yC{CK:D}{q:List (List Nat×C4)}(hq:∀p∈q,Rd CK p.1 p.2)(hp:(q.map Prod.snd).Pairwise (λx y=>x.b<=y.b))(hl:q.length<=90)(h0:q≠[])(hj:jn 10 (q.map Prod.fst)≠[])(hn:∀w∈q.map Prod.fst,10∉w)(ht:tot (q.map Prod.fst)<=900000):bK [CK,tx (jn 10 (q.map Prod.fst))]=M.ret (.list ((q.map Prod.snd).map c4)):=by
 have hr:=vE (by simpa using h0) hj hn ht
 generalize hX:tx (jn 10 (q.map Prod.fst))=X at hr
 have hi:isD "str" X=true:=by rw[<-hX];rfl
 have hL:∃y3 y4 y5,ib j7 (ej 1 ((q.map Prod.fst).map tx)) [.vl CK,.vl X,.ow [],.un,.un,.un]=M.ret (.nx [.vl CK,.vl X,.ow ((q.map Prod.snd).map c4),y3,y4,y5]):=by
  clear hr hn ht hj h0
  have main:∀(q:List (List Nat×C4)) (j:Nat) (cs:List C4) (x3 x4 x5:Sl),(∀p∈q,Rd CK p.1 p.2)->(cs++q.map Prod.snd).Pairwise (λx y=>x.b<=y.b)->cs.length+q.length<=100->∃y3 y4 y5,ib j7 (ej j ((q.map Prod.fst).map tx)) [.vl CK,.vl X,.ow (cs.map c4),x3,x4,x5]=M.ret (.nx [.vl CK,.vl X,.ow ((cs++q.map Prod.snd).map c4),y3,y4,y5]):=by
   intro q
   induction q with
   | nil=>intro j cs x3 x4 x5 _ _ _;exact⟨x3,x4,x5,by rw[show(cs++List.map Prod.snd ([]:List (List Nat×C4)))=cs from Λ _];rfl⟩
   | cons a q ih =>
    intro j cs x3 x4 x5 h hp hl
    rw[ω] at hl
    have e1:(cs++(a::q).map Prod.snd)=(cs++[a.2])++q.map Prod.snd:=by rw[Z2,X4];rfl
    rw[e1] at hp ⊢
    obtain⟨y3,y4,y5,hI⟩:=ih (j+1) (cs++[a.2]) (.vl (.int (j:Int))) (.vl (tx a.1)) (.vl (c4 a.2)) (λp hp=>h p (ρ _ hp)) hp (by rw[ζ,Γ];omega)
    refine⟨y3,y4,y5,?_⟩
    have e2:(a::q).map Prod.fst=[a].map Prod.fst++q.map Prod.fst:=rfl
    rw[e2]
    have hp1:(cs++[a].map Prod.snd).Pairwise (λx y=>x.b<=y.b):=(U0.mp hp).1
    rw[show(cs++[a.2]).map c4=cs.map c4++[c4 a.2] from X0] at hI
    have hr:=h a υ j
    show ib j7 (.tuple [.int (j:Int),tx a.1]::ej (j+1) ((q.map Prod.fst).map tx)) _=_
    refine gI (δ':=[.vl CK,.vl X,.ow (cs.map c4++[c4 a.2]),.vl (.int (j:Int)),.vl (tx a.1),.vl (c4 a.2)]) (ig (δ':=[.vl CK,.vl X,.ow (cs.map c4),.vl (.int (j:Int)),.vl (tx a.1),x5]) rfl ?_) hI
    unfold db
    refine aK (bh (d:=c4 a.2) (iY (ae (ad rfl) (ae (ad rfl) (ae (ad rfl) ak))) hr)) ?_
    refine b3 (b:=false) ?_ rfl (nT (ds:=cs.map c4) (d:=c4 a.2) rfl (ad rfl) (bi (by rw[ι];omega)))
    rcases List.eq_nil_or_concat cs with rfl | ⟨cs0,c',rfl⟩
    ·exact vT
    ·rw[List.concat_eq_append] at hp1 ⊢
     have hle:c'.b<=a.2.b:=(U0.mp hp1).2.2 c' (by simp) a.2 (by simp)
     refine Eq.trans uG ?_
     rw[decide_eq_false (by omega)]
  exact main q 1 [] .un .un .un hq hp (by show 0+_<=_;omega)
 obtain⟨y3,y4,y5,hL⟩:=hL
 have hns:sE X=true:=by rw[<-hX];rfl
 refine bv ?_
 unfold d4
 have his:dIs "str" (aj 1) (dg 6 [CK,X])=M.ret (.bool true):=by rw[<-hX];exact gM (d:=tx (jn 10 (q.map Prod.fst))) (ad rfl)
 refine aK (δ':=[.vl CK,.vl X,.un,.un,.un,.un]) (kM (b:=false) (b7 (b:=true) (bQ his)) rfl) ?_
 refine aK (jo (ds:=[]) (jp ak rfl)) ?_
 exact aK (ie (nS (ae (aQ (ae (ad rfl) ak) hr) ak)) hL) rfl
theorem yD{CK:D}{q:List (List Nat×C4)}{x:List Nat}{more:List (List Nat)}(hq:∀p∈q,Rd CK p.1 p.2)(hp:(q.map Prod.snd).Pairwise (λx y=>x.b<=y.b))(hl:q.length<=90)(hs:Stop CK q x)(hj:jn 10 (q.map Prod.fst++x::more)≠[])(hn:∀w∈q.map Prod.fst++x::more,10∉w)(ht:tot (q.map Prod.fst++x::more)<=900000):bK [CK,tx (jn 10 (q.map Prod.fst++x::more))]=pD ((q.length+1:Nat):Int):=by
 have hr:=vE (by simp) hj hn ht
 have his:dIs "str" (aj 1) (dg 6 [CK,tx (jn 10 (q.map Prod.fst++x::more))])=M.ret (.bool true):=gM (d:=tx (jn 10 (q.map Prod.fst++x::more))) (ad rfl)
 generalize hX:tx (jn 10 (q.map Prod.fst++x::more))=X at hr his
 have hL:=m2 (CK:=CK) X (more:=x::more) (r:=some (.error ⟨"NoCue",[("row",.int ((q.length+1:Nat):Int))]⟩)) q 1 [] .un .un .un hq hp (by show 0+_<=_;omega) λy3 y4 y5=>by
  rw[Nat.add_comm 1 q.length]
  exact wV (by omega) hs y3 y4 y5
 refine lB ?_
 unfold d4
 refine aK (δ':=[.vl CK,.vl X,.un,.un,.un,.un]) (kM (b:=false) (b7 (b:=true) (bQ his)) rfl) ?_
 refine aK (jo (ds:=[]) (jp ak rfl)) ?_
 exact ik (ie (nS (ae (aQ (ae (ad rfl) ak) hr) ak)) hL)
end CT
open SL
namespace CT
noncomputable def tm(n:Nat):List Nat:=txt 46 3 (n / 3600000) (n / 60000 % 60) (n / 1000 % 60) (n % 1000)
def Sg(l:List Nat):Prop:=∀c∈l,c<128/\c≠10/\c≠32
theorem Sg.app{a b:List Nat}(ha:Sg a)(hb:Sg b):Sg (a++b):=λc hc=>by
 rcases Z6.mp hc with h | h
 ·exact ha c h
 ·exact hb c h
theorem wg(k n:Nat):Sg (fg k n):=λc hc=>by have:=gJ k n c hc;omega
theorem vt(n:Nat):Sg (tm n):=by
 unfold tm txt
 refine Sg.app (wg _ _) (λc hc=>?_)
 simp only[Z6,Δ] at hc
 rcases hc with rfl | hc | rfl | hc | rfl | hc
 ·decide
 ·exact wg _ _ c hc
 ·decide
 ·exact wg _ _ c hc
 ·decide
 ·exact wg _ _ c hc
theorem le{n:Nat}(hn:n<10 ^ 25):(tm n).length<=60:=by
 have:=A2 (sg:=46) (k:=3) (h:=n / 3600000) (m:=n / 60000 % 60) (s:=n / 1000 % 60) (t:=n % 1000) (by omega) (by omega) (by omega) (by omega)
 unfold tm
 omega
theorem ma{n:Nat}(hn:n<10 ^ 25):good 46 3 (tm n)=true:=Ab (by decide) (by omega) (by omega) (by omega) (by decide) (by omega)
theorem o8(n:Nat):vm (tm n)=(n:Int):=by
 unfold vm tm
 obtain⟨v1,v2,v3,v4⟩:=pz (sg:=46) (k:=3) (h:=n / 3600000) (m:=n / 60000 % 60) (s:=n / 1000 % 60) (t:=n % 1000) (by decide)
 rw[v1,v2,v3,v4,mB,mB,mB,mB]
 omega
theorem tP{n:Nat}:∀{ws:List (List Nat)},(∀w∈ws,w.length<=n)->tot ws<=(n+1)*ws.length
 | [],_=>W4 _
 | w::ws,h=>by
  have:=tP (n:=n) (ws:=ws) λv hv=>h v (ρ _ hv)
  have:=h w υ
  rw[tot,ω,Nat.mul_succ]
  omega
structure Wsq(ws:List (List Nat)):Prop where
 wq:∀w∈ws,Wq w
 ne:ws≠[]
 len:ws.length<=6
theorem Wsq.tot{ws:List (List Nat)}(h:Wsq ws):tot ws<=200:=by
 have h1:=tP (n:=30) (ws:=ws) λw hw=>(h.wq w hw).len
 have h2:(30+1)*ws.length<=31*6:=Nat.mul_le_mul (ο _) h.len
 omega
def Pl(l:List Nat):Prop:=10∉l/\l.length<=900
theorem uD{c x:Nat}:∀{ws:List (List Nat)},x∈jn c ws->x=c\/∃w∈ws,x∈w
 | [],h=>nomatch h
 | [a],h=>.inr ⟨a,υ,h⟩
 | a::b::r,h=>by
  have h:x∈a++c::jn c (b::r):=h
  rcases Z6.mp h with h | h
  ·exact .inr ⟨a,υ,h⟩
  ·rcases Δ.mp h with h | h
   ·exact .inl h
   ·rcases uD h with h | ⟨w,hw,h⟩
    ·exact .inl h
    ·exact .inr ⟨w,ρ _ hw,h⟩
section
variable{a b h:List Nat}{ws:List (List Nat)}
theorem Sg.no(s:Sg a):32∉a:=λz=>(s 32 z).2.2 rfl
theorem Sg.no10(s:Sg a):10∉a:=λz=>(s 10 z).2.1 rfl
structure Rw(a b h:List Nat)(ws:List (List Nat)):Prop where
 ha:Sg a
 hb:Sg b
 hh:Sg h
 hw:∀w∈ws,Sg w
 h0:ws≠[]
 la:a.length<=150
 lb:b.length<=150
 lh:h.length<=150
 lw:tot ws<=300
theorem Rw.sg(q:Rw a b h ws):∀x∈R4 a b h (jn 32 ws),x<128/\x≠10:=by
 intro x hx
 unfold R4 at hx
 simp only[Z6,Δ] at hx
 rcases hx with hx | rfl | hx | rfl | hx | rfl | hx
 ·have:=q.ha x hx;exact⟨this.1,this.2.1⟩
 ·decide
 ·have:=q.hb x hx;exact⟨this.1,this.2.1⟩
 ·decide
 ·have:=q.hh x hx;exact⟨this.1,this.2.1⟩
 ·decide
 ·rcases uD hx with rfl | ⟨w,hw,hx⟩
  ·decide
  ·have:=q.hw w hw x hx;exact⟨this.1,this.2.1⟩
theorem Rw.ok(q:Rw a b h ws):R4ok a b h ws:=⟨q.ha.no,q.hb.no,q.hh.no,q.h0,λw hw=>(q.hw w hw).no,by have:=q.lw;omega,by have:=q.la;omega,by have:=q.lb;omega,by have:=q.lh;omega,λx hx=>(q.sg x hx).1⟩
theorem Rw.pl(q:Rw a b h ws):Pl (R4 a b h (jn 32 ws)):=by
 refine⟨λz=>(q.sg 10 z).2 rfl,?_⟩
 have h1:=hV 32 q.h0
 have:=q.lw
 have:=q.la
 have:=q.lb
 have:=q.lh
 unfold R4
 simp only[ζ,ω]
 omega
theorem Rw.nc(q:Rw a b h ws)(hg:good 46 3 a=true)(hb:good 46 3 b=true)(hc:tq (vm a) (vm b) h ws=false):Nr TH (R4 a b h (jn 32 ws)):=λk hk=>row_c q.ok hg hb hc (nh k hk)
theorem Rw.rd(q:Rw a b h ws)(hg:good 46 3 a=true)(hb:good 46 3 b=true)(hc:tq (vm a) (vm b) h ws=true):Rd TH (R4 a b h (jn 32 ws)) ⟨vm a,vm b,h,jn 32 ws⟩:=λk=>row_ok q.ok hg hb hc
theorem few1(ha:Sg a)(la:a.length<=300):Pl a/\Nr TH a:=⟨⟨ha.no10,by omega⟩,λk hk=>Bf (ps:=[a]) (by omega) (by show 1<=3;decide) (w4 (by decide) ha.no λx hx=>(ha x hx).1) (nh k hk)⟩
end
theorem hd_Sg{h:List Nat}(q:Hd h):Sg h:=λc hc=>by have:=q.sg c hc;omega
theorem wq_Sg{w:List Nat}(q:Wq w):Sg w:=λc hc=>by have:=q.sg c hc;unfold wsg at this;omega
theorem hd_B{h:List Nat}(q:Hd h):sI h=true:=by
 have h1:=List.length_pos_iff.mpr q.ne
 unfold sI
 rw[decide_eq_true (by omega:1<=h.length),decide_eq_true q.len,V7,V7,W8]
 intro c hc
 have:=q.sg c hc
 unfold nsg
 rw[decide_eq_true this.1,decide_eq_true this.2]
 rfl
theorem wq_B{w:List Nat}(q:Wq w):jV w=true:=by
 have h1:=List.length_pos_iff.mpr q.ne
 unfold jV
 rw[decide_eq_true (by omega:1<=w.length),decide_eq_true q.len,V7,V7,W8]
 intro c hc
 have:=q.sg c hc
 unfold wsg at this
 unfold wsB
 rw[decide_eq_true this.1,decide_eq_true this.2.1,decide_eq_false this.2.2]
 rfl
theorem Wsq.B{ws:List (List Nat)}(q:Wsq ws):ws.all jV=true:=W8.mpr λw hw=>wq_B (q.wq w hw)
structure Cz where
 b:Nat
 e:Nat
 h:List Nat
 ws:List (List Nat)
noncomputable def cz(c:Cz):D:=.tuple [.int (c.b:Int),.int (c.e:Int),tx c.h,tx (jn 32 c.ws)]
structure czOk(c:Cz):Prop where
 be:c.b<c.e
 e1:c.e<10 ^ 20
 hd:Hd c.h
 wq:Wsq c.ws
noncomputable def dk(c:Cz):List Nat:=R4 (tm c.b) (tm c.e) c.h (jn 32 c.ws)
noncomputable def c4z(c:Cz):C4:=⟨(c.b:Int),(c.e:Int),c.h,jn 32 c.ws⟩
section
variable{c:Cz}
theorem czOk.rw(q:czOk c):Rw (tm c.b) (tm c.e) c.h c.ws:=by
 have h1:=le (n:=c.b) (by have:=q.be;have:=q.e1;omega)
 have h2:=le (n:=c.e) (by have:=q.e1;omega)
 exact⟨vt _,vt _,hd_Sg q.hd,λw hw=>wq_Sg (q.wq.wq w hw),q.wq.ne,by omega,by omega,by have:=q.hd.len;omega,by have:=q.wq.tot;omega⟩
theorem czOk.good(q:czOk c):good 46 3 (tm c.b)=true/\good 46 3 (tm c.e)=true:=⟨ma (by have:=q.be;have:=q.e1;omega),ma (by have:=q.e1;omega)⟩
theorem czOk.rd(q:czOk c):Rd TH (dk c) (c4z c):=by
 have:=q.rw.rd q.good.1 q.good.2 (by
  unfold tq
  rw[o8,o8,hd_B q.hd,q.wq.B,decide_eq_true (by omega),decide_eq_true (by have:=q.be;omega)]
  rfl)
 rw[o8,o8] at this
 exact this
theorem czOk.pl(q:czOk c):Pl (dk c):=q.rw.pl
end
noncomputable def csT(cs:List Cz):List Nat:=jn 10 (cs.map dk)
theorem iJ{cs:List Cz}(h:∀c∈cs,czOk c)(hl:cs.length<=63):tot (cs.map dk)<=57000:=by
 have h1:=tP (n:=900) (ws:=cs.map dk) λw hw=>by
  obtain⟨c,hc,rfl⟩:=V0.mp hw
  exact(h c hc).pl.2
 rw[ι] at h1
 have h2:(900+1)*cs.length<=901*63:=Nat.mul_le_mul (ο _) hl
 omega
theorem row_ne(c:Cz):dk c≠[]:=by unfold dk R4;simp
theorem AK{c:Cz}{cs:List Cz}:csT (c::cs)≠[]:=by
 unfold csT
 cases cs with
 | nil=>exact row_ne c
 | cons d r=>show dk c++10::_≠[];simp
theorem wC{cs:List Cz}(h:∀c∈cs,czOk c)(hl:cs.length<=63):(csT cs).length<=57000:=by
 have:=iJ h hl
 cases cs with
 | nil=>exact W4 _
 | cons c cs =>
  have:=hV 10 (ts:=(c::cs).map dk) (by simp)
  unfold csT
  omega
theorem AJ{cs:List Cz}(h:∀c∈cs,czOk c):∀x∈csT cs,x<128:=by
 intro x hx
 rcases uD hx with rfl | ⟨w,hw,hx⟩
 ·decide
 ·obtain⟨c,hc,rfl⟩:=V0.mp hw
  exact((h c hc).rw.sg x hx).1
theorem Bh{cs:List Cz}(h:∀c∈cs,czOk c)(hp:cs.Pairwise (λx y=>x.b<=y.b))(hl:cs.length<=63):bK [TH,tx (csT cs)]=M.ret (.list (cs.map cz)):=by
 cases cs with
 | nil=>exact yE
 | cons c r =>
  generalize hq:c::r=cs at h hp hl ⊢
  have h0:cs≠[]:=by rw[<-hq];simp
  have e1:(cs.map λc=>(dk c,c4z c)).map Prod.fst=cs.map dk:=by rw[Y7];rfl
  have e2:((cs.map λc=>(dk c,c4z c)).map Prod.snd).map c4=cs.map cz:=by rw[Y7,Y7];rfl
  have e3:(cs.map λc=>(dk c,c4z c)).map Prod.snd=cs.map c4z:=by rw[Y7];rfl
  have:=yC (CK:=TH) (q:=cs.map λc=>(dk c,c4z c)) (λp hp=>by
   obtain⟨c,hc,rfl⟩:=V0.mp hp
   exact(h c hc).rd) (by
   rw[e3,List.pairwise_map]
   exact hp.imp λ{x y} hxy=>by show(x.b:Int)<=(y.b:Int);omega) (by rw[ι];omega) (by simpa using h0) (by rw[e1,<-hq];exact AK) (by
   rw[e1]
   intro w hw
   obtain⟨c,hc,rfl⟩:=V0.mp hw
   exact(h c hc).pl.1) (by rw[e1];have:=iJ h hl;omega)
  rw[e1,e2] at this
  exact this
theorem mh{cs:List Cz}{x:List Nat}{more:List (List Nat)}(h:∀c∈cs,czOk c)(hp:cs.Pairwise (λx y=>x.b<=y.b))(hl:cs.length<=63)(hs:Nr TH x)(hj:jn 10 (cs.map dk++x::more)≠[])(hn:∀w∈x::more,10∉w)(ht:tot (x::more)<=1000):bK [TH,tx (jn 10 (cs.map dk++x::more))]=pD ((cs.length+1:Nat):Int):=by
 have e1:(cs.map λc=>(dk c,c4z c)).map Prod.fst=cs.map dk:=by rw[Y7];rfl
 have e3:(cs.map λc=>(dk c,c4z c)).map Prod.snd=cs.map c4z:=by rw[Y7];rfl
 have ta:∀(a b:List (List Nat)),tot (a++b)=tot a+tot b:=λa b=>by
  induction a with
  | nil=>show _=0+_;rw[Nat.zero_add];rfl
  | cons w a ih=>show tot (w::(a++b))=_;rw[tot,ih,tot];omega
 have:=yD (CK:=TH) (q:=cs.map λc=>(dk c,c4z c)) (x:=x) (more:=more) (λp hp=>by
  obtain⟨c,hc,rfl⟩:=V0.mp hp
  exact(h c hc).rd) (by
  rw[e3,List.pairwise_map]
  exact hp.imp λ{x y} hxy=>by show(x.b:Int)<=(y.b:Int);omega) (by rw[ι];omega) (.inl hs) (by rw[e1];exact hj) (by
  rw[e1]
  intro w hw
  rcases Z6.mp hw with hw | hw
  ·obtain⟨c,hc,rfl⟩:=V0.mp hw
   exact(h c hc).pl.1
  ·exact hn w hw) (by rw[e1,ta];have:=iJ h hl;omega)
 rw[e1,ι] at this
 exact this
theorem vB{n:Nat}(hn:n<10 ^ 25){fo:DS->M D}{fa:DS->M (List D)}{δ:DS}(h1:fo δ=M.ret TH)(h2:fa δ=M.ret [.int (n:Int)]):dMe "Thousandths" "show" (λds=>noX (bP ds)) fo fa δ=M.ret (tx (tm n)):=by
 refine ev_me h1 at_TH rfl h2 (bv ?_)
 unfold cO
 exact bA (aQ (ae (ad rfl) ak) (mL (by omega)))
theorem row_ev{c:Cz}(h:czOk c):eQ [TH,cz c]=M.ret (tx (dk c)):=by
 have l1:=h.rw.la
 have l2:=h.rw.lb
 have l3:=h.hd.len
 have l4:=hV 32 h.wq.ne
 have l5:=h.wq.tot
 have hj:=uy (c:=32) (ts:=[tm c.b,tm c.e,c.h,jn 32 c.ws]) (by
  show(tm c.b).length+1+((tm c.e).length+1+(c.h.length+1+((jn 32 c.ws).length+1+0)))<=_
  omega)
 have e:jn 32 [tm c.b,tm c.e,c.h,jn 32 c.ws]=dk c:=rfl
 rw[e] at hj
 refine bv ?_
 unfold hW
 have:=h.be
 have:=h.e1
 exact bA (bL (z:=S [32]) ao (ae (gr (ae (vB (n:=c.b) (by omega) (ad rfl) (ae (av (x:=cz c) (ad rfl) ao rfl) ak)) (ae (vB (n:=c.e) (by omega) (ad rfl) (ae (av (x:=cz c) (ad rfl) ao rfl) ak)) (ae (av (x:=cz c) (ad rfl) ao rfl) (ae (av (x:=cz c) (ad rfl) ao rfl) ak)))) rfl) ak) hj)
theorem wD:∀(q:List Cz) (x:Sl),(∀c∈q,czOk c)->gQ (tgN 0) (nX kS) (nX (br (λds=>noX (eQ ds)) (ai (aj 1) (ai (aj 0) az)))) (q.map cz) [x,.vl TH]=M.ret ((q.map dk).map tx)
 | [],x,_=>rfl
 | c::q,x,h=>gO (δ':=[.vl (cz c),.vl TH]) rfl (aQ (ds:=[TH,cz c]) (ae (ad rfl) (ae (ad rfl) ak)) (row_ev (h c υ))) (wD q _ λe he=>h e (ρ _ he))
theorem qj{cs:List Cz}(h:∀c∈cs,czOk c)(hl:cs.length<=63):dv [TH,.list (cs.map cz)]=M.ret (tx (csT cs)):=by
 have htot:=iJ h hl
 have hj:=uy (c:=10) (ts:=cs.map dk) (by omega)
 refine bv ?_
 unfold ge
 exact bA (bL (z:=S [10]) ao (ae (x:=.list ((cs.map dk).map tx)) (gN (ds:=cs.map cz) (jO (x:=.list (cs.map cz)) (ad rfl) rfl) (bi (by rw[ι];omega)) (wD cs .un h)) ak) hj)
theorem qJ{c:Nat}{l:List Nat}(hl:l.length<=900000):∃w,cr (S l) [.str ⟨#[c]⟩]=some (.tuple [.str (S (pre c l)),.str w,.str (S (post c l))]):=by
 obtain⟨w,e⟩:=sw c l
 refine⟨w,?_⟩
 unfold cr
 dsimp only
 rw[if_pos,e]
 rw[Ξ]
 refine⟨rfl,?_⟩
 rw[cJ]
 exact bi (by omega)
theorem zT{c d:Nat}(hcd:c≠d):∀{ts:List (List Nat)},(∀x∈ts,c∉x)->c∉jn d ts
 | [],_,z=>nomatch z
 | [a],h,z=>h a υ z
 | a::b::r,h,z=>by
  rw[vV d a (by simp)] at z
  rcases Z6.mp z with z | z
  ·exact h a υ z
  ·rcases Δ.mp z with z | z
   ·exact hcd z
   ·exact zT hcd (λx hx=>h x (ρ _ hx)) z
theorem iA{xs:List D}{x:D}{i:Nat}(h:xs[i]?=some x):oIx (.list xs) (.int (i:Int))=some x:=by
 show L2.atI xs (i:Int)=some x
 unfold L2.atI L2.ixN
 have:=(Z4.mp h).1
 rw[if_pos (by omega),if_pos (by omega),Int.toNat_natCast]
 exact h
theorem xZ{w:List Nat}{ws:List (List Nat)}(hn:∀x∈w::ws,32∉x)(h10:∀x∈w::ws,10∉x)(hz:tot (w::ws)<=900000)(hc:oEq (tx w) (.str "cues")=some (.bool false)):aS [tx (jn 32 (w::ws))]=M.ret (.tuple [.list ((w::ws).map tx),.str ""]):=by
 have hl:=hV 32 (ts:=w::ws) (by simp)
 have hno:10∉jn 32 (w::ws):=zT (by decide) h10
 obtain⟨q,hp⟩:=qJ (c:=10) (l:=jn 32 (w::ws)) (by omega)
 rw[(m3 hno).1,(m3 hno).2] at hp
 have hs:=ko (c:=32) (ts:=w::ws) (by simp) hn (by omega)
 refine bv ?_
 unfold b6
 refine b3 (b:=false) (b7 (b:=true) (bQ (gM (d:=tx (jn 32 (w::ws))) (ad rfl)))) rfl ?_
 refine aK (bh (d:=.tuple [tx (jn 32 (w::ws)),.str q,tx []]) (bL (z:=S (jn 32 (w::ws))) (ad rfl) (ae (x:=.str ⟨#[10]⟩) ao ak) hp)) ?_
 refine aK (bh (d:=.list ((w::ws).map tx)) (bL (z:=S (jn 32 (w::ws))) (av (x:=.tuple [tx (jn 32 (w::ws)),.str q,tx []]) (ad rfl) ao rfl) (ae (x:=.str (S [32])) ao ak) hs)) ?_
 refine b3 (b:=false) (bQ (av (x:=tx w) (av (x:=.list ((w::ws).map tx)) (ad rfl) ao (iA (i:=0) rfl)) ao hc)) rfl ?_
 exact bA (jN (ae (bL (z:=S (jn 32 (w::ws))) (ad rfl) (ae (x:=.str (S [32])) ao ak) hs) (ae ao ak)) rfl)
theorem vn{n t:List Nat}(hn:32∉n)(h10:10∉n)(hz:n.length+t.length<=800000):aS [tx ([99,117,101,115,32]++n++10::t)]=M.ret (.tuple [.list [tx [99,117,101,115],tx n],tx t]):=by
 have e:[99,117,101,115,32]++n=jn 32 [[99,117,101,115],n]:=rfl
 have hno:10∉[99,117,101,115,32]++n:=λz=>by
  rcases Z6.mp z with z | z
  ·revert z;decide
  ·exact h10 z
 obtain⟨q,hp⟩:=qJ (c:=10) (l:=[99,117,101,115,32]++n++10::t) (by simp only[ζ,ω,Y6];omega)
 rw[(fZ hno).1,(fZ hno).2] at hp
 have hs:=ko (c:=32) (ts:=[[99,117,101,115],n]) (by simp) (λx hx=>by
  rcases Δ.mp hx with rfl | hx
  ·decide
  ·rw[Ψ.mp hx];exact hn) (by show 4+1+(n.length+1+0)<=_;omega)
 rw[<-e] at hs
 generalize hX:tx ([99,117,101,115,32]++n++10::t)=X
 refine bv ?_
 unfold b6
 refine b3 (b:=false) (b7 (b:=true) (bQ (by rw[<-hX];exact gM (d:=tx ([99,117,101,115,32]++n++10::t)) (ad rfl)))) rfl ?_
 refine aK (bh (d:=.tuple [tx ([99,117,101,115,32]++n),.str q,tx t]) (bL (z:=S ([99,117,101,115,32]++n++10::t)) (by rw[<-hX];exact ad rfl) (ae (x:=.str ⟨#[10]⟩) ao ak) hp)) ?_
 refine aK (bh (d:=.list [tx [99,117,101,115],tx n]) (bL (z:=S ([99,117,101,115,32]++n)) (av (x:=.tuple [tx ([99,117,101,115,32]++n),.str q,tx t]) (ad rfl) ao rfl) (ae (x:=.str (S [32])) ao ak) hs)) ?_
 refine jm (uT (b:=true) (bQ (av (x:=tx [99,117,101,115]) (av (x:=.list [tx [99,117,101,115],tx n]) (ad rfl) ao rfl) ao (by kernel_rfl))) (by rw[if_pos rfl];exact bA (jN (ae (ad rfl) (ae (av (x:=.tuple [tx ([99,117,101,115,32]++n),.str q,tx t]) (ad rfl) ao rfl) ak)) rfl)))
theorem z0(w:Str)(n:Int)(h:(iF cH (.inr w)).getD .none=.int n)(δ:DS)(f:DS->M D)(hf:f δ=M.ret (.str w)):rg cH f δ=M.ret (.int n):=by
 unfold rg
 rw[hf,aR]
 show M.ret ((iF cH (.inr w)).getD .none)=_
 rw[h]
theorem jk{w:Str}{ws:List D}{n:Nat}(hc:oEq (.str w) (.str "clock")=some (.bool false))(hm:oEq (.str w) (.str "move")=some (.bool false))(h:(iF cH (.inr w)).getD .none=.int (n:Int))(hl:ws.length+1=n):fV [.list (.str w::ws)]=M.ret (.bool true):=by
 refine bv ?_
 unfold kH
 refine b3 (b:=false) (bQ (av (x:=.str w) (av (x:=.list (.str w::ws)) (ad rfl) ao (iA (i:=0) rfl)) ao hc)) rfl ?_
 refine b3 (b:=false) (bQ (av (x:=.str w) (av (x:=.list (.str w::ws)) (ad rfl) ao (iA (i:=0) rfl)) ao hm)) rfl ?_
 refine bA (av (x:=.int (n:Int)) (y:=.int (n:Int)) (z0 w n h _ _ (av (x:=.list (.str w::ws)) (ad rfl) ao (iA (i:=0) rfl))) (cj (ae (ad rfl) ak) ?_) ?_)
 ·show some (Θ ((.str w::ws:List D).length:Int))=_
  rw[ω,hl]
 ·rw[sC,decide_eq_true rfl]
end CT
namespace SL
section
variable{f fo fi fe:ar->Sto->R (Val×Sto)}{fa:ar->Sto->R (List Val×Sto)}{fc:ar->Sto->R (Bool×Sto)}{g:SG}{δ δ':ar}{μ μ' μ1 μ2 μ3:Sto}{v:Val}{n:Nat}
theorem Cc{fn:DS->M (List D)}{ds:List D}(h:fn (viewN 4 μ δ)=M.ret ds)(hf:gq ds=true):vD fn δ μ=R.ret (.h μ.length,μ++[.lst (ds.map Val.d)]):=by
 unfold vD;rw[h];show(if gq ds=true then _ else _)=_;rw[if_pos hf]
theorem es_at{k:Nat}{c x:Str}{fs:List (Str×Val)}(h1:fo δ μ=R.ret (.h k,μ1))(h2:μ1[k]?=some (.ins c fs))(h3:fs.lookup x=some v):sAt c x fo δ μ=R.ret (v,μ1):=by
 unfold sAt
 rw[h1,bf]
 dsimp only
 rw[h2]
 dsimp only
 rw[if_pos rfl,h3]
theorem Aq{k:Nat}{c x:Str}{fs:List (Str×Val)}(h1:fe δ μ=R.ret (v,μ1))(h2:fo δ μ1=R.ret (.h k,μ2))(h3:μ2[k]?=some (.ins c fs))(h4:fs.length<1000):iI c x fo fe n δ μ=R.ret (.nx δ (μ2.set k (.ins c (iM x v fs)))):=by
 unfold iI
 rw[h1,bf]
 dsimp only
 rw[h2,bf]
 dsimp only
 rw[h3]
 dsimp only
 rw[if_pos ⟨rfl,h4⟩]
theorem As{k:Nat}{c m:Str}{F:List Val->Sto->R (Val×Sto)}{fs:List (Str×Val)}{xs:List Val}(h1:fo δ μ=R.ret (.h k,μ1))(h2:μ1[k]?=some (.ins c fs))(h3:fs.lookup m=none)(h4:fa δ μ1=R.ret (xs,μ2))(h5:F (.h k::xs) μ2=R.ret (v,μ3)):xa c m F fo fa δ μ=R.ret (v,μ3):=by
 unfold xa
 rw[h1,bf]
 dsimp only
 rw[h2]
 dsimp only
 rw[if_pos ⟨rfl,h3⟩,h4,bf]
 dsimp only
 rw[h5]
 rfl
theorem es_mk{c:Str}{F:List Val->Sto->R (Val×Sto)}{xs:List Val}(h1:fa δ μ=R.ret (xs,μ1))(h2:F (.h μ1.length::xs) (μ1++[.ins c []])=R.ret (.d .none,μ2)):sMk c F fa δ μ=R.ret (.h μ1.length,μ2):=by
 unfold sMk
 rw[h1,bf]
 dsimp only
 rw[h2]
 rfl
theorem mx{k:Nat}{xs:List Val}(h:g μ.length (eI k xs) μ=R.ret (.nx δ μ')):fW k g xs μ=R.ret (.d .none,μ'):=by unfold fW;rw[h];rfl
end
section
variable{f fo fi:ar->Sto->R (Val×Sto)}{fa:ar->Sto->R (List Val×Sto)}{δ:ar}{μ μ' μ1:Sto}{v:Val}{n:Nat}
theorem kO(h:f δ μ=R.ret (v,μ')):fv f n δ μ=R.ret (.nx δ μ'):=by
 unfold fv
 rw[h]
 rfl
theorem wp{k:Nat}{i:Int}{xs:List Val}(h1:fo δ μ=R.ret (.h k,μ1))(h2:fi δ μ1=R.ret (.d (.int i),μ'))(h3:μ'[k]?=some (.lst xs))(h4:L2.atI xs i=some v):sIx fo fi δ μ=R.ret (v,μ'):=by
 unfold sIx
 rw[h1,bf]
 dsimp only
 rw[h2,bf]
 dsimp only
 rw[h3]
 dsimp only
 rw[h4]
end
end SL
namespace CT
theorem x9{n:List Nat}(hn:32∉n)(h10:10∉n)(hz:n.length<=800000):aS [tx ([99,117,101,115,32]++n)]=M.ret (.tuple [.list [tx [99,117,101,115],tx n],tx []]):=by
 have e:[99,117,101,115,32]++n=jn 32 [[99,117,101,115],n]:=rfl
 have hno:10∉[99,117,101,115,32]++n:=λz=>by
  rcases Z6.mp z with z | z
  ·revert z;decide
  ·exact h10 z
 obtain⟨q,hp⟩:=qJ (c:=10) (l:=[99,117,101,115,32]++n) (by simp only[ζ,ω,Y6];omega)
 rw[(m3 hno).1,(m3 hno).2] at hp
 have hs:=ko (c:=32) (ts:=[[99,117,101,115],n]) (by simp) (λx hx=>by
  rcases Δ.mp hx with rfl | hx
  ·decide
  ·rw[Ψ.mp hx];exact hn) (by show 4+1+(n.length+1+0)<=_;omega)
 rw[<-e] at hs
 generalize hX:tx ([99,117,101,115,32]++n)=X
 refine bv ?_
 unfold b6
 refine b3 (b:=false) (b7 (b:=true) (bQ (by rw[<-hX];exact gM (d:=tx ([99,117,101,115,32]++n)) (ad rfl)))) rfl ?_
 refine aK (bh (d:=.tuple [X,.str q,tx []]) (bL (z:=S ([99,117,101,115,32]++n)) (by rw[<-hX];exact ad rfl) (ae (x:=.str ⟨#[10]⟩) ao ak) (by rw[hp,<-hX]))) ?_
 refine aK (bh (d:=.list [tx [99,117,101,115],tx n]) (bL (z:=S ([99,117,101,115,32]++n)) (av (x:=.tuple [X,.str q,tx []]) (ad rfl) ao (by rw[<-hX];rfl)) (ae (x:=.str (S [32])) ao ak) hs)) ?_
 refine jm (uT (b:=true) (bQ (av (x:=tx [99,117,101,115]) (av (x:=.list [tx [99,117,101,115],tx n]) (ad rfl) ao rfl) ao (by kernel_rfl))) (by rw[if_pos rfl];exact bA (jN (ae (ad rfl) (ae (av (x:=.tuple [X,.str q,tx []]) (ad rfl) ao rfl) ak)) rfl)))
theorem lJ{h:List Nat}(hh:Hd h):fU [tx h]=M.ret (tx h):=by
 have hn:=uI hh
 refine bv ?_
 unfold hZ
 refine b3 (b:=false) (b7 (b:=true) (bQ (aQ (ds:=[tx h]) (ae (ad rfl) ak) hn))) rfl ?_
 exact bA (ad rfl)
structure En where
 n:List Nat
 cs:List Cz
noncomputable def kvs(f:En->D)(E:List En):List (Key×Val):=E.map λe=>(.inr (S e.n),.d (f e))
noncomputable def fC(e:En):D:=.list (e.cs.map cz)
noncomputable def fT(e:En):D:=tx (csT e.cs)
noncomputable def gF(E:List En)(n:List Nat):Option En:=E.find? λe=>decide (e.n=n)
noncomputable def jx(E:List En)(n:List Nat)(cs:List Cz):List En:=if (E.any λe=>decide (e.n=n))=true then E.map (λe=>if e.n=n then ⟨n,cs⟩ else e) else E++[⟨n,cs⟩]
noncomputable def kR(E:List En)(n:List Nat):List En:=E.filter λe=>decide (e.n≠n)
theorem sM{a b:List Nat}:(Sum.inr (S a):Key)=.inr (S b)↔a=b:=⟨λh=>wJ (Sum.inr.inj h),λh=>by rw[h]⟩
section
variable(f:En->D)(E:List En)(n:List Nat)
theorem lv:((kvs f E).any λe=>decide (e.1=(.inr (S n):Key)))=(gF E n).isSome:=by
 unfold kvs gF
 rw[List.any_map]
 induction E with
 | nil=>rfl
 | cons e E ih =>
  rw[List.any_cons,X7,ih]
  show(decide ((Sum.inr (S e.n):Key)=.inr (S n))||_)=_
  rw[decide_eq_decide.mpr sM]
  by_cases h:e.n=n
  ·rw[decide_eq_true h];rfl
  ·rw[decide_eq_false h];rfl
theorem mq:(kvs f E).find? (λe=>decide (e.1=(.inr (S n):Key)))=(gF E n).map λe=>(.inr (S e.n),.d (f e)):=by
 unfold kvs gF
 rw[List.find?_map]
 congr 1
 congr 1
 funext e
 show decide ((Sum.inr (S e.n):Key)=.inr (S n))=_
 rw[decide_eq_decide]
 exact sM
theorem vU:nZ (kvs f E) (.inr (S n))=kvs f (kR E n):=by
 unfold nZ kvs kR
 rw[List.filter_map]
 congr 1
 refine List.filter_congr λe _=>?_
 show decide (¬(Sum.inr (S e.n):Key)=.inr (S n))=decide (¬e.n=n)
 rw[decide_eq_decide]
 exact not_congr sM
theorem Cq:(E.any λe=>decide (e.n=n))=(gF E n).isSome:=by
 unfold gF
 induction E with
 | nil=>rfl
 | cons e E ih =>
  rw[List.any_cons,X7,ih]
  by_cases h:e.n=n
  ·rw[decide_eq_true h];rfl
  ·rw[decide_eq_false h];rfl
theorem zL(cs:List Cz):uf (kvs f E) (.inr (S n)) (.d (f ⟨n,cs⟩))=kvs f (jx E n cs):=by
 unfold uf jx
 rw[lv,Cq]
 split
 ·unfold kvs
  rw[Y7,Y7]
  refine List.map_congr_left λe _=>?_
  show(if (Sum.inr (S e.n):Key)=.inr (S n) then ((.inr (S e.n):Key),Val.d (f ⟨n,cs⟩)) else (.inr (S e.n),Val.d (f e)))=(.inr (S (if e.n=n then (⟨n,cs⟩:En) else e).n),Val.d (f (if e.n=n then (⟨n,cs⟩:En) else e)))
  by_cases h:e.n=n
  ·rw[if_pos (sM.mpr h),if_pos h,h]
  ·rw[if_neg (λz=>h (sM.mp z)),if_neg h]
 ·unfold kvs
  rw[X0]
  rfl
end
theorem zM(f:En->D)(E:List En):(kvs f E).length=E.length:=ι ..
theorem Bk(E:List En)(n:List Nat)(cs:List Cz):(jx E n cs).length<=E.length+1:=by
 unfold jx
 split
 ·rw[ι];omega
 ·rw[ζ];exact ο _
theorem Bj{E:List En}{n:List Nat}{cs:List Cz}{e:En}(h:e∈jx E n cs):e=⟨n,cs⟩\/e∈E:=by
 unfold jx at h
 split at h
 ·obtain⟨x,hx,rfl⟩:=V0.mp h
  by_cases c:x.n=n
  ·rw[if_pos c];exact .inl rfl
  ·rw[if_neg c];exact .inr hx
 ·rcases Z6.mp h with h | h
  ·exact .inr h
  ·exact .inl (Ψ.mp h)
theorem v7{E:List En}{n:List Nat}{e:En}(h:gF E n=some e):e∈E:=List.mem_of_find?_eq_some h
noncomputable def dkO(c a b:Nat):Ob:=.ins "Desk" [("cues",.h c),("clock",.d TH),("settings",.h a),("cuts",.h b)]
noncomputable def oJ:List (Key×Val):=cg.map λe=>(e.1,Val.d e.2)
theorem jd{ν r r':Sto}{x:Str}{v:Val}{fs fs':List (Str×Val)}{fe:ar->Sto->R (Val×Sto)}{δ:ar}{n:Nat}(h1:fe δ (ν++.ins "Desk" fs::r)=R.ret (v,ν++.ins "Desk" fs::r'))(h2:δ[0]?=some (some (.h ν.length)))(h3:iM x v fs=fs')(h4:fs.length<1000):iI "Desk" x (aY 0) fe n δ (ν++.ins "Desk" fs::r)=R.ret (.nx δ (ν++.ins "Desk" fs'::r')):=by
 rw[Aq h1 (aL h2) (by rw[Z8 (ο _),Nat.sub_self];rfl) h4,h3,List.set_append_right _ _ (ο _),Nat.sub_self]
 rfl
theorem vY(ν:Sto):cm [.h ν.length] (ν++[.ins "Desk" []])=R.ret (.d .none,ν++[dkO (ν.length+1) (ν.length+2) (ν.length+3),.dct [],.dct oJ,.lst []]):=by
 refine mx (δ:=[some (.h ν.length)]) ?_
 unfold gi
 refine aO (jd (v:=.h (ν.length+1)) (fs':=[("cues",.h (ν.length+1))]) (r':=[.dct []]) (by unfold r8;rw[ζ,X4];rfl) rfl rfl (by decide)) ?_
 refine aO (jd (v:=.d TH) (fs':=[("cues",.h (ν.length+1)),("clock",.d TH)]) (aW ao) rfl (by kernel_rfl) (show 1<1000 by decide)) ?_
 refine aO (jd (v:=.h (ν.length+2)) (fs':=[("cues",.h (ν.length+1)),("clock",.d TH),("settings",.h (ν.length+2))]) (r':=[.dct [],.dct oJ]) (by unfold tZ;rw[ζ,X4];rfl) rfl (by kernel_rfl) (show 2<1000 by decide)) ?_
 exact jd (v:=.h (ν.length+3)) (r':=[.dct [],.dct oJ,.lst []]) ((Cc (ds:=[]) rfl rfl).trans (by rw[ζ,X4];rfl)) rfl (by kernel_rfl) (show 3<1000 by decide)
section
variable{μ:Sto}{k c a b:Nat}{E:List En}
theorem kT(hk:μ[k]?=some (dkO c a b)){δ:ar}(h:δ[0]?=some (some (.h k))):sAt "Desk" "cues" (aY 0) δ μ=R.ret (.h c,μ):=es_at (aL h) hk (by kernel_rfl)
theorem kU(hk:μ[k]?=some (dkO c a b)){δ:ar}(h:δ[0]?=some (some (.h k))):sAt "Desk" "clock" (aY 0) δ μ=R.ret (.d TH,μ):=es_at (aL h) hk (by kernel_rfl)
abbrev zx(μ:Sto):R (Val×Sto):=some (.error (⟨"NoName",[]⟩,μ))
theorem vb(hk:μ[k]?=some (dkO c a b))(hc:μ[c]?=some (.dct (kvs fC E))){n:List Nat}(hg:gF E n=none):bD [.h k,.d (tx n)] μ=zx μ:=by
 refine SL.lB ?_
 unfold dr
 refine SL.ik (bJ (b:=true) (μ1:=μ) ((nU (n:=true) (aL rfl) (kT hk rfl) rfl hc).trans ?_) ?_)
 ·rw[lv,hg];rfl
 ·rw[if_pos rfl]
  exact SL.Ay (ae ao ak) rfl
theorem oq(hk:μ[k]?=some (dkO c a b))(hc:μ[c]?=some (.dct (kvs fC E))){n:List Nat}{e:En}(hg:gF E n=some e):bD [.h k,.d (tx n)] μ=R.ret (.d (fC e),μ):=by
 refine ij ?_
 unfold dr
 refine aO (bJ (b:=false) (μ1:=μ) ((nU (n:=true) (aL rfl) (kT hk rfl) rfl hc).trans ?_) rfl) ?_
 ·rw[lv,hg];rfl
 ·exact fq ((wv (kT hk rfl) (aL rfl) rfl hc (by rw[mq,hg];rfl)).trans rfl)
theorem put_ok(hk:μ[k]?=some (dkO c a b))(hc:μ[c]?=some (.dct (kvs fC E))){n t:List Nat}{cs:List Cz}(hn:Hd n)(hr:bK [TH,tx t]=M.ret (.list (cs.map cz)))(hE:E.length<1000):bp [.h k,.d (.list [tx [99,117,101,115],tx n]),.d (tx t)] μ=R.ret (.d .none,μ.set c (.dct (kvs fC (jx E n cs)))):=by
 have w1:oIx (.list [tx [99,117,101,115],tx n]) (.int 1)=some (tx n):=iA (i:=1) rfl
 generalize Y0 [tx [99,117,101,115],tx n]=W at w1
 generalize tx t=X at hr
 rw[<-zL]
 refine mx (δ:=[some (.h k),some (.d W),some (.d X),some (.d (tx n))]) ?_
 unfold cW
 refine aO (bO (aW (d:=tx n) (aQ (ds:=[tx n]) (ae (av (x:=W) (ad rfl) ao w1) ak) (lJ hn)))) ?_
 exact wm (v:=.d (fC ⟨n,cs⟩)) (k:=c) (y:=tx n) (kk:=.inr (S n)) (sW (ds:=[TH,X]) (aT (kU hk rfl) (aT (aL rfl) b9)) hr) (kT hk rfl) (aL rfl) rfl hc (by rw[zM];omega)
theorem put_no(hk:μ[k]?=some (dkO c a b)){n t:List Nat}{y:XD}(hn:Hd n)(hr:bK [TH,tx t]=some (.error y)):bp [.h k,.d (.list [tx [99,117,101,115],tx n]),.d (tx t)] μ=some (.error (y,μ)):=by
 have w1:oIx (.list [tx [99,117,101,115],tx n]) (.int 1)=some (tx n):=iA (i:=1) rfl
 generalize Y0 [tx [99,117,101,115],tx n]=W at w1
 generalize tx t=X at hr
 refine SL.lB ?_
 unfold cW
 refine aO (bO (aW (d:=tx n) (aQ (ds:=[tx n]) (ae (av (x:=W) (ad rfl) ao w1) ak) (lJ hn)))) ?_
 exact Cd (SL.AB (ds:=[TH,X]) (aT (kU hk rfl) (aT (aL rfl) b9)) hr)
theorem Ck(hk:μ[k]?=some (dkO c a b))(hc:μ[c]?=some (.dct (kvs fC E))){n:List Nat}{e:En}(hg:gF E n=some e):cn [.h k,.d (tx n)] μ=R.ret (.d .none,μ.set c (.dct (kvs fC (kR E n)))):=by
 rw[<-vU]
 refine mx (δ:=[some (.h k),some (.d (tx n))]) ?_
 unfold dA
 refine aO (kO (fA (k:=k) (aL rfl) hk (by kernel_rfl) (aT (aL rfl) b9) (oq hk hc hg))) ?_
 exact kO (wu (kT hk rfl) hc (aL rfl) rfl (by rw[mq,hg];rfl))
noncomputable def sRest:SG:=(bN (sIf (b4 (dB (d2 oEq (d2 oIx (aj 3) (dC (.int 0))) (dC (.str "show"))))) (fG (fj (λds=>noX (dv ds)) (bb (sAt "Desk" "clock" (aY 0)) (bb (gB "Desk" "cues_by" bD (aY 0) (bb (bq (d2 oIx (aj 3) (dC (.int 1)))) dS)) dS)))) dY)
  (bN (sIf (b4 (dB (d2 oEq (d2 oIx (aj 3) (dC (.int 0))) (dC (.str "broken"))))) sNo dY)
  (bN (sIf (b4 (dB (d2 oEq (d2 oIx (aj 3) (dC (.int 0))) (dC (.str "price"))))) sNo dY)
  (bN (sIf (b4 (dB (d2 oEq (d2 oIx (aj 3) (dC (.int 0))) (dC (.str "rows"))))) sNo dY)
  (bN (fv (gB "Desk" "change" bB (aY 0) (bb (aY 3) (bb (bq (d2 oIx (aj 2) (dC (.int 1)))) dS))))
  (fG (bq (dC (.str "ok")))))))))
theorem mU{X tt:D}{w:Str}{ws:List D}{q:R OutS}(hw:aS [X]=M.ret (.tuple [.list (.str w::ws),tt]))(hr:fV [.list (.str w::ws)]=M.ret (.bool true))
  (h:∀W,oIx W (.int 0)=some (.str w)->(∀(i:Nat) (d:D),ws[i]?=some d->oIx W (.int ((i+1:Nat):Int))=some d)->W=.list (.str w::ws)->sRest μ.length [some (.h k),some (.d X),some (.d (.tuple [W,tt])),some (.d W)] μ=q):bc [.h k,.d X] μ=q.thn Ci:=by
 have w0:oIx (.list (.str w::ws)) (.int 0)=some (.str w):=iA (i:=0) rfl
 have w1:∀(i:Nat) (d:D),ws[i]?=some d->oIx (.list (.str w::ws)) (.int ((i+1:Nat):Int))=some d:=λi d h=>iA (i:=i+1) (by rw[List.getElem?_cons_succ];exact h)
 have h:=h _ w0 w1 rfl
 clear w1
 generalize Y0 (.str w::ws)=W at hw hr h w0
 have e:fM μ.length (eI 4 [.h k,.d X]) μ=q:=by
  unfold fM
  refine aO (bO (aW (d:=.tuple [W,tt]) (aQ (ds:=[X]) (ae (ad rfl) ak) hw))) ?_
  refine aO (bO (aW (d:=W) (av (x:=.tuple [W,tt]) (ad rfl) ao rfl))) ?_
  exact aO (bJ (b:=false) (dD (b7 (b:=true) (bQ (aQ (ds:=[W]) (ae (ad rfl) ak) hr)))) rfl) h
 unfold bc fW
 rw[e]
theorem ll{μ:Sto}{x0 x1:Val}{x2 W:D}{w q:Str}{b:Bool}(w0:oIx W (.int 0)=some (.str w))(h:oEq (.str w) (.str q)=some (.bool b)):b4 (dB (d2 oEq (d2 oIx (aj 3) (dC (.int 0))) (dC (.str q)))) [some x0,some x1,some (.d x2),some (.d W)] μ=R.ret (b,μ):=dD (bQ (av (x:=.str w) (av (x:=W) (ad rfl) ao w0) ao h))
theorem fK{μ:Sto}{k:Nat}{W tt:D}{w q:Str}{b:Bool}(h:oEq (.str w) (.str q)=some (.bool b)):b4 (dB (d2 oEq (aj 3) (dC (.str q)))) [some (.h k),some (.d W),some (.d tt),some (.d (.str w))] μ=R.ret (b,μ):=dD (bQ (av (x:=.str w) (ad rfl) ao h))
noncomputable def chR(r:R (Val×Sto)):R (Val×Sto):=r.thn λp=>R.ret (.d (.str "ok"),p.2)
theorem mV{X tt:D}{w:Str}{ws:List D}{r:R (Val×Sto)}(hk:μ[k]?=some (dkO c a b))(hw:aS [X]=M.ret (.tuple [.list (.str w::ws),tt]))(hr:fV [.list (.str w::ws)]=M.ret (.bool true))(h1:oEq (.str w) (.str "show")=some (.bool false))(h2:oEq (.str w) (.str "broken")=some (.bool false))(h3:oEq (.str w) (.str "price")=some (.bool false))(h4:oEq (.str w) (.str "rows")=some (.bool false))(hc:bB [.h k,.d (.list (.str w::ws)),.d tt] μ=r):bc [.h k,.d X] μ=chR r:=by
 have main:=mU (μ:=μ) (k:=k) (q:=r.thn λp=>R.ret (.rt (.d (.str "ok")) p.2)) hw hr λW w0 _ e=>by
  rw[<-e] at hc
  refine aO (bJ (ll (b:=false) w0 h1) rfl) ?_
  refine aO (bJ (ll (b:=false) w0 h2) rfl) ?_
  refine aO (bJ (ll (b:=false) w0 h3) rfl) ?_
  refine aO (bJ (ll (b:=false) w0 h4) rfl) ?_
  have hm:=fA (c := "Desk") (m := "change") (F:=bB) (fo:=aY 0) (fa:=bb (aY 3) (bb (bq (d2 oIx (aj 2) (dC (.int 1)))) dS)) (δ:=[some (.h k),some (.d X),some (.d (.tuple [W,tt])),some (.d W)]) (k:=k) (aL rfl) hk (by kernel_rfl) (aT (aL rfl) (aT (aW (d:=tt) (av (x:=.tuple [W,tt]) (ad rfl) ao rfl)) b9)) hc
  match r,hm with
  | none,hm=>unfold bN fv;rw[hm];rfl
  | some (.error z),hm=>exact SL.ik (SL.qZ hm)
  | some (.ok p),hm=>exact aO (kO hm) (fq (aW ao))
 rw[main]
 match r with
 | none=>rfl
 | some (.error z)=>rfl
 | some (.ok p)=>rfl
theorem rO{n:List Nat}(hn:Hd n):aS [tx ([115,104,111,119,32]++n)]=M.ret (.tuple [.list [.str (S [115,104,111,119]),tx n],.str ""]):=by
 have n32:32∉n:=λz=>by have:=hn.sg _ z;omega
 have n10:10∉n:=λz=>by have:=hn.sg _ z;omega
 have nl:=hn.len
 exact xZ (w:=[115,104,111,119]) (ws:=[n]) (λx hx=>by
  rcases Δ.mp hx with rfl | hx
  ·decide
  ·rw[Ψ.mp hx];exact n32) (λx hx=>by
  rcases Δ.mp hx with rfl | hx
  ·decide
  ·rw[Ψ.mp hx];exact n10) (by show 4+1+(n.length+1+0)<=_;omega) (by kernel_rfl)
theorem rX(hk:μ[k]?=some (dkO c a b))(hc:μ[c]?=some (.dct (kvs fC E))){n:List Nat}(hn:Hd n){e:En}(hg:gF E n=some e)(h:∀x∈e.cs,czOk x)(hl:e.cs.length<=63):bc [.h k,.d (tx ([115,104,111,119,32]++n))] μ=R.ret (.d (fT e),μ):=by
 refine(mU (q:=R.ret (.rt (.d (fT e)) μ)) (rO hn) (jk (n:=2) (by kernel_rfl) (by kernel_rfl) (by kernel_rfl) rfl) λW w0 w1 _=>?_).trans rfl
 refine kN (bJ (ll (b:=true) w0 (by kernel_rfl)) ?_)
 rw[if_pos rfl]
 exact fq (sW (ds:=[TH,fC e]) (aT (kU hk rfl) (aT (fA (k:=k) (aL rfl) hk (by kernel_rfl) (aT (aW (d:=tx n) (av (x:=W) (ad rfl) ao (w1 0 _ rfl))) b9) (oq hk hc hg)) b9)) (by show noX (dv [TH,.list (e.cs.map cz)])=_;rw[qj h hl];rfl))
theorem rY(hk:μ[k]?=some (dkO c a b))(hc:μ[c]?=some (.dct (kvs fC E))){n:List Nat}(hn:Hd n)(hg:gF E n=none):bc [.h k,.d (tx ([115,104,111,119,32]++n))] μ=zx μ:=by
 refine(mU (q:=some (.error (⟨"NoName",[]⟩,μ))) (rO hn) (jk (n:=2) (by kernel_rfl) (by kernel_rfl) (by kernel_rfl) rfl) λW w0 w1 _=>?_).trans rfl
 refine SL.ik (bJ (ll (b:=true) w0 (by kernel_rfl)) ?_)
 rw[if_pos rfl]
 exact SL.Ax (Cf (Az (kU hk rfl) (SL.Ce (fA (k:=k) (aL rfl) hk (by kernel_rfl) (aT (aW (d:=tx n) (av (x:=W) (ad rfl) ao (w1 0 _ rfl))) b9) (vb hk hc hg)))))
theorem tw{n t:List Nat}{r:R (Val×Sto)}(hk:μ[k]?=some (dkO c a b))(hp:bp [.h k,.d (.list [tx [99,117,101,115],tx n]),.d (tx t)] μ=r):bB [.h k,.d (.list [.str (S [99,117,101,115]),tx n]),.d (tx t)] μ=r.thn λp=>R.ret (.d .none,p.2):=by
 have w0:oIx (.list [tx [99,117,101,115],tx n]) (.int 0)=some (.str (S [99,117,101,115])):=iA (i:=0) rfl
 show bB [.h k,.d (.list [tx [99,117,101,115],tx n]),.d (tx t)] μ=_
 generalize Y0 [tx [99,117,101,115],tx n]=W at hp w0
 generalize tx t=X at hp
 have hm:=fA (c := "Desk") (m := "put_cues") (F:=bp) (fo:=aY 0) (fa:=bb (aY 1) (bb (aY 2) dS)) (δ:=[some (.h k),some (.d W),some (.d X),some (.d (.str (S [99,117,101,115])))]) (k:=k) (aL rfl) hk (by kernel_rfl) (aT (aL rfl) (aT (aL rfl) b9)) hp
 have e:cZ μ.length (eI 4 [.h k,.d W,.d X]) μ=fv (gB "Desk" "put_cues" bp (aY 0) (bb (aY 1) (bb (aY 2) dS))) μ.length [some (.h k),some (.d W),some (.d X),some (.d (.str (S [99,117,101,115])))] μ:=by
  unfold cZ
  refine aO (bO (aW (d:=.str (S [99,117,101,115])) (av (x:=W) (ad rfl) ao w0))) ?_
  refine bJ (fK (b:=false) (by kernel_rfl)) ?_
  rw[if_neg Z0]
  refine bJ (fK (b:=false) (by kernel_rfl)) ?_
  rw[if_neg Z0]
  refine bJ (fK (b:=false) (by kernel_rfl)) ?_
  rw[if_neg Z0]
  refine bJ (fK (b:=false) (by kernel_rfl)) ?_
  rw[if_neg Z0]
  refine bJ (fK (b:=true) (by kernel_rfl)) ?_
  rw[if_pos rfl]
  rfl
 unfold bB fW
 rw[e]
 unfold fv
 rw[hm]
 match r with
 | none=>rfl
 | some (.error z)=>rfl
 | some (.ok p)=>rfl
theorem vC{n t:List Nat}{X:D}{r:R (Val×Sto)}(hk:μ[k]?=some (dkO c a b))(hw:aS [X]=M.ret (.tuple [.list [tx [99,117,101,115],tx n],tx t]))(hp:bp [.h k,.d (.list [tx [99,117,101,115],tx n]),.d (tx t)] μ=r):bc [.h k,.d X] μ=chR r:=by
 rw[mV (w:=S [99,117,101,115]) (ws:=[tx n]) hk hw (jk (n:=2) (by kernel_rfl) (by kernel_rfl) (by kernel_rfl) rfl) (by kernel_rfl) (by kernel_rfl) (by kernel_rfl) (by kernel_rfl) (tw hk hp)]
 match r with
 | none=>rfl
 | some (.error z)=>rfl
 | some (.ok p)=>rfl
theorem yv(hk:μ[k]?=some (dkO c a b))(hc:μ[c]?=some (.dct (kvs fC E))){n:List Nat}(hn:Hd n){e:En}(hg:gF E n=some e):bc [.h k,.d (tx ([100,114,111,112,32]++n))] μ=R.ret (.d (.str "ok"),μ.set c (.dct (kvs fC (kR E n)))):=by
 have n32:32∉n:=λz=>by have:=hn.sg _ z;omega
 have n10:10∉n:=λz=>by have:=hn.sg _ z;omega
 have nl:=hn.len
 have hw:aS [tx ([100,114,111,112,32]++n)]=M.ret (.tuple [.list [.str (S [100,114,111,112]),tx n],.str ""]):=xZ (w:=[100,114,111,112]) (ws:=[n]) (λx hx=>by
  rcases Δ.mp hx with rfl | hx
  ·decide
  ·rw[Ψ.mp hx];exact n32) (λx hx=>by
  rcases Δ.mp hx with rfl | hx
  ·decide
  ·rw[Ψ.mp hx];exact n10) (by show 4+1+(n.length+1+0)<=_;omega) (by kernel_rfl)
 refine(mV (r:=R.ret (.d .none,μ.set c (.dct (kvs fC (kR E n))))) hk hw (jk (n:=2) (by kernel_rfl) (by kernel_rfl) (by kernel_rfl) rfl) (by kernel_rfl) (by kernel_rfl) (by kernel_rfl) (by kernel_rfl) ?_).trans rfl
 have w0:oIx (.list [.str (S [100,114,111,112]),tx n]) (.int 0)=some (.str (S [100,114,111,112])):=iA (i:=0) rfl
 have w1:oIx (.list [.str (S [100,114,111,112]),tx n]) (.int 1)=some (tx n):=iA (i:=1) rfl
 generalize Y0 [.str (S [100,114,111,112]),tx n]=W at w0 w1
 refine mx (δ:=[some (.h k),some (.d W),some (.d (.str "")),some (.d (.str (S [100,114,111,112])))]) ?_
 unfold cZ
 refine aO (bO (aW (d:=.str (S [100,114,111,112])) (av (x:=W) (ad rfl) ao w0))) ?_
 refine bJ (fK (b:=false) (by kernel_rfl)) ?_
 rw[if_neg Z0]
 refine bJ (fK (b:=false) (by kernel_rfl)) ?_
 rw[if_neg Z0]
 refine bJ (fK (b:=false) (by kernel_rfl)) ?_
 rw[if_neg Z0]
 refine bJ (fK (b:=false) (by kernel_rfl)) ?_
 rw[if_neg Z0]
 refine bJ (fK (b:=false) (by kernel_rfl)) ?_
 rw[if_neg Z0]
 refine bJ (fK (b:=true) (by kernel_rfl)) ?_
 rw[if_pos rfl]
 exact kO (fA (k:=k) (aL rfl) hk (by kernel_rfl) (aT (aW (d:=tx n) (av (x:=W) (ad rfl) ao w1)) b9) (Ck hk hc hg))
end
end CT
namespace K61
noncomputable def dq:DS->M Out:=(bo (gIf (dB (d2 oLt (aj 1) (dCB gE (ai (aj 0) az)))) (cF (d2 oIx (aj 0) (aj 1))) dF)
  (cF (dC (.int 0))))
noncomputable def bU:List D->M D:=run 2 dq
noncomputable def gT:DS->M Out:=(bo (ci (d2 di (d2 oV (d2 b5 (d2 b5 (aj 3) (aj 4)) (dC (.int 1))) (dC (.int 48271))) (dC (.int 2147483647))) (tgN 3))
  (qS 2 (aj 3)))
noncomputable def dm:DS->M Out:=(bo (nN 2 (sJ az))
  (bo (ci (d2 di (aj 0) (dC (.int 2147483647))) (tgN 3))
  (bo (lQ (va qy (ai (aj 1) az)) (tgN 4) gT)
  (sR 2))))
noncomputable def bT:List D->M D:=run 5 dm
noncomputable def eB:DS->M Out:=(ci (d2 b5 (aj 7) (d2 oIx (aj 1) (d2 di (d2 b5 (d2 oIx (aj 2) (aj 8)) (d2 oV (aj 6) (dCB iS (ai (d2 oEq (aj 8) (aj 4)) az)))) (dC (.int 26))))) (tgN 7))
noncomputable def eA:DS->M Out:=(bo (ci (dC (.str "")) (tgN 7))
  (bo (lQ (va qy (ai (aj 3) az)) (tgN 8) eB)
  (qS 5 (aj 7))))
noncomputable def fz:DS->M Out:=(bo (ci (dC (.str "abcdefghijklmnopqrstuvwxyz")) (tgN 1))
  (bo (ci (br (λds=>noX (bT ds)) (ai (aj 0) (ai (dC (.int 10)) az))) (tgN 2))
  (bo (ci (d2 b5 (dC (.int 1)) (d2 di (d2 oIx (aj 2) (dC (.int 8))) (dC (.int 8)))) (tgN 3))
  (bo (ci (d2 di (d2 oIx (aj 2) (dC (.int 9))) (aj 3)) (tgN 4))
  (bo (nN 5 (sJ az))
  (bo (lQ (va qy (ai (dC (.int 4)) az)) (tgN 6) eA)
  (sR 5)))))))
noncomputable def eE:List D->M D:=run 9 fz
noncomputable def eW:DS->M Out:=(bo (ci (dCB ji (ai (aj 0) (ai (dC (.int 1000)) az))) (mF 2 (fF (tgN 2) (fF (tgN 3) o9))))
  (bo (ci (dCB ji (ai (aj 2) (ai (dC (.int 60)) az))) (mF 2 (fF (tgN 4) (fF (tgN 2) o9))))
  (bo (ci (dCB ji (ai (aj 4) (ai (dC (.int 60)) az))) (mF 2 (fF (tgN 5) (fF (tgN 4) o9))))
  (bo (ci (d2 b5 (d2 b5 (d2 b5 (d2 b5 (dj eJ (dCB kt (ai (aj 5) az)) (ai (dC (.int 2)) az)) (dC (.str ":"))) (dj eJ (dCB kt (ai (aj 4) az)) (ai (dC (.int 2)) az))) (dC (.str ":"))) (dj eJ (dCB kt (ai (aj 2) az)) (ai (dC (.int 2)) az))) (tgN 1))
  (cF (d2 b5 (d2 b5 (aj 1) (dC (.str "."))) (dj eJ (dCB kt (ai (aj 3) az)) (ai (dC (.int 3)) az))))))))
noncomputable def de:List D->M D:=run 6 eW
noncomputable def dL:DS->M Out:=(bo (ci (br (λds=>noX (bT ds)) (ai (aj 3) (ai (dC (.int 4)) az))) (tgN 4))
  (bo (ci (d2 b5 (aj 2) (d2 oIx (lE (ai (dC (.int 0)) (ai (d2 di (d2 oIx (aj 4) (dC (.int 0))) (dC (.int 100))) (ai (d2 di (d2 oIx (aj 4) (dC (.int 0))) (d2 zu (dC (.int 10)) (dC (.int 6)))) (ai (d2 di (d2 oV (d2 oIx (aj 4) (dC (.int 0))) (dC (.int 14))) (d2 zu (dC (.int 10)) (dC (.int 10)))) az))))) (d2 di (d2 oIx (aj 4) (dC (.int 1))) (dC (.int 4))))) (tgN 2))
  (bo (ci (d2 b5 (d2 b5 (aj 2) (dC (.int 1))) (d2 di (d2 oIx (aj 4) (dC (.int 2))) (dC (.int 9000)))) (tgN 5))
  (bo (ci (d2 oIx (lE (ai (dC (.str "a")) (ai (dC (.str "So it is.")) (ai (dC (.str "No; - {~} #1, \"yes\"?")) (ai (dC (.str "why not")) az))))) (d2 di (d2 oIx (aj 4) (dC (.int 3))) (dC (.int 4)))) (tgN 6))
  (bo (ci (d2 oIx (lE (ai (dC (.str "ann")) (ai (dC (.str "b")) (ai (dC (.str "abcdefgh")) az)))) (d2 di (d2 iT (d2 oIx (aj 4) (dC (.int 3))) (dC (.int 4))) (dC (.int 3)))) (tgN 7))
  (qS 1 (d2 b5 (d2 b5 (d2 b5 (d2 b5 (d2 b5 (d2 b5 (br (λds=>noX (de ds)) (ai (aj 2) az)) (dC (.str " "))) (br (λds=>noX (de ds)) (ai (aj 5) az))) (dC (.str " "))) (aj 7)) (dC (.str " "))) (aj 6))))))))
noncomputable def gh:DS->M Out:=(bo (nN 1 (sJ az))
  (bo (ci (dC (.int 0)) (tgN 2))
  (bo (lQ (jz (br (λds=>noX (bT ds)) (ai (aj 0) (ai (d2 di (aj 0) (dC (.int 4))) az)))) (tgN 3) dL)
  (gFrz 1 (cF (dj pq (dC (.str "\n")) (ai (aj 1) az)))))))
noncomputable def dw:List D->M D:=run 8 gh
noncomputable def fy:SL.SG:=(bN (e5 2 (bq (dC .none)))
  (bN (e5 3 (bq (dC .none)))
  (bN (tY "NoName" 5 4 (e5 2 (gB "Desk" "say" bc (aY 0) (bb (bq (d2 b5 (dC (.str "show ")) (aj 1))) dS))) (λa=>(ci (dG (tf a 4 true) (dG (tf a 4 true) (sZ (tf a 4 false)))) (tgN 3))))
  (bN (sIf (b4 (dB (d2 uB (aj 3) (dC .none)))) (fG (bq (lE (ai (aj 3) az)))) dY)
  (fG (aY 2))))))
noncomputable def df:List SL.Val->SL.Sto->SL.R (SL.Val×SL.Sto):=SL.fW 5 fy
noncomputable def rA:List D->M D:=SL.asD df
noncomputable def eV:SL.SG:=(bN (e5 2 (bq (dC .none)))
  (bN (rZ "NoCue" "row" 4 3 (fv (gB "Desk" "say" bc (aY 0) (bb (aY 1) dS))) (λa j=>(ci (AG a 3 j) (tgN 2))))
  (fG (aY 2))))
noncomputable def cE:List SL.Val->SL.Sto->SL.R (SL.Val×SL.Sto):=SL.fW 4 eV
noncomputable def o3:List D->M D:=SL.asD cE
noncomputable def cS:SL.SG:=(bN (e5 5 (bq (d2 di (d2 b5 (aj 3) (aj 4)) (dC (.int 2)))))
  (bN (e5 6 (bq (d2 oIx (aj 2) (d2 di (d2 iT (d2 b5 (aj 3) (aj 4)) (dC (.int 2))) (dC (.int 4))))))
  (bN (e5 7 (bq (lE (ai (dC (.bool true)) az))))
  (bN (sIf (r0 false (aY 6) (sIx (aY 1) (aY 5))) (e5 7 (r9 (sIx (aY 1) (aY 5)) (aY 6))) dY)
  (sIf (sBl (qx oNe (lI df (bb (sIx (aY 0) (aY 5)) (bb (aY 6) dS))) (aY 7))) (fG (bq (dC (.bool false)))) dY)))))
noncomputable def ia:SL.SG:=(bN (yy (va qy (ai (dC (.int 8)) az)) (agN 4) cS)
  (fG (bq (dC (.bool true)))))
noncomputable def dy:List SL.Val->SL.Sto->SL.R (SL.Val×SL.Sto):=SL.fW 8 ia
noncomputable def vk:List D->M D:=SL.asD dy
noncomputable def dn:SL.SG:=(bN (e5 4 (bq (d2 b5 (dC (.str "cues ")) (aj 2))))
  (bN (sIf (b4 (dB (d2 oLt (d2 di (aj 3) (dC (.int 5))) (dC (.int 2))))) (bN (e5 5 (bq (br (λds=>noX (dw ds)) (ai (d2 iT (aj 3) (dC (.int 5))) az))))
  (bN (sIf (b4 (dOr (dB (d2 oNe (aj 5) (dC (.str "")))) (dB (d2 oGt (d2 di (d2 iT (aj 3) (dC (.int 5))) (dC (.int 8))) (dC (.int 3)))))) (e5 4 (bq (d2 b5 (d2 b5 (aj 4) (dC (.str "\n"))) (aj 5)))) dY)
  (bN (lH (aY 1) (aY 2) (aY 5))
  (fG (qx oEq (xa "Desk" "say" bc (aY 0) (bb (aY 4) dS)) (bq (dC (.str "ok")))))))) dY)
  (bN (sIf (b4 (dB (d2 oEq (d2 di (aj 3) (dC (.int 5))) (dC (.int 2))))) (bN (e5 6 (bq (d2 oIx (lE (ai (dC (.str "\n")) (ai (dC (.str "x")) (ai (d2 b5 (br (λds=>noX (dw ds)) (ai (dC (.int 1)) az)) (dC (.str "\n"))) (ai (dC (.str "00:00:02.000 00:00:01.000 a b")) az))))) (d2 di (d2 iT (aj 3) (dC (.int 5))) (dC (.int 4))))))
  (fG (qx oEq (lI cE (bb (aY 0) (bb (bq (d2 b5 (d2 b5 (aj 4) (dC (.str "\n"))) (aj 6))) dS))) (bq (d2 oIx (lE (ai (dC (.int 1)) (ai (dC (.int 1)) (ai (dC (.int 2)) (ai (dC (.int 1)) az))))) (d2 di (d2 iT (aj 3) (dC (.int 5))) (dC (.int 4)))))))) dY)
  (bN (sIf (Be (b4 (dB (d2 oEq (d2 di (aj 3) (dC (.int 5))) (dC (.int 3))))) (r0 false (aY 2) (aY 1))) (bN (fv (r6 (aY 1) (aY 2)))
  (fG (qx oEq (xa "Desk" "say" bc (aY 0) (bb (bq (d2 b5 (dC (.str "drop ")) (aj 2))) dS)) (bq (dC (.str "ok")))))) dY)
  (fG (bq (dC (.bool true))))))))
noncomputable def cU:List SL.Val->SL.Sto->SL.R (SL.Val×SL.Sto):=SL.fW 7 dn
noncomputable def tJ:List D->M D:=SL.asD cU
noncomputable def iw:SL.SG:=(bN (e5 6 (bq (d2 di (aj 5) (dC (.int 2)))))
  (bN (e5 7 (bq (d2 oIx (aj 1) (d2 di (d2 iT (aj 5) (dC (.int 2))) (dC (.int 4))))))
  (bN (sIf (yw (sBl (lI cU (bb (sIx (aY 2) (aY 6)) (bb (sIx (aY 3) (aY 6)) (bb (aY 7) (bb (bq (d2 iT (aj 5) (dC (.int 8)))) dS))))))) (fG (bq (dC (.bool false)))) dY)
  (sIf (yw (sBl (lI dy (bb (aY 2) (bb (aY 3) (bb (aY 1) (bb (bq (d2 b5 (br (λds=>noX (bU ds)) (ai (aj 0) (ai (dC (.int 1)) az))) (d2 oV (aj 4) (aj 5)))) dS))))))) (fG (bq (dC (.bool false)))) dY))))
noncomputable def wa:SL.SG:=(bN (e5 1 (bq (br (λds=>noX (eE ds)) (ai (br (λds=>noX (bU ds)) (ai (aj 0) (ai (dC (.int 0)) az))) az))))
  (bN (e5 2 (yx (bb (sMk "Desk" cm dS) (bb (sMk "Desk" cm dS) dS))))
  (bN (e5 3 (yx (bb r8 (bb r8 dS))))
  (bN (yy (wA (ai (tj (aj 0) (p5 (dC (.int 2))) (p5 (dC (.int 18)))) az)) (AV 2 (oG (agN 4) (oG (agN 5) AW))) iw)
  (fG (lI dy (bb (aY 2) (bb (aY 3) (bb (aY 1) (bb (bq (dC (.int 0))) dS))))))))))
noncomputable def rB:List SL.Val->SL.Sto->SL.R (SL.Val×SL.Sto):=SL.fW 8 wa
noncomputable def wK:List D->M D:=SL.asD rB
theorem jJ(c:Int)(n:Nat)(hn:n<=100):∃l:List Int,l.length=n/\(∀x∈l,0<=x/\x<2147483647)/\bT [.int c,.int (n:Int)]=M.ret (.list (l.map Θ)):=by
 have main:∃l:List Int,(l.length=n/\(∀x∈l,0<=x/\x<2147483647))/\dm (dg 5 [.int c,.int (n:Int)])=M.ret (.rt (.list (l.map Θ))):=by
  unfold dm
  have hr:qy [.int (n:Int)]=some (fX 0 n):=by
   show(if b62 (n:Int)=true then some (fX 0 (n:Int).toNat) else none)=_
   rw[if_pos (by unfold b62;simp;omega),Int.toNat_natCast]
  have hlen:(fX 0 n).length=n:=by unfold fX;rw[ι,List.length_range]
  have body:∀(p:List D) (d:D) (q:List D) (δ:DS),fX 0 n=p++d::q->(∃(l:List Int) (m:Int) (x4:Sl),l.length=p.length/\(∀x∈l,0<=x/\x<2147483647)/\(0<=m/\m<2147483647)/\δ=[.vl (.int c),.vl (.int (n:Int)),.ow (l.map Θ),.vl (.int m),x4]) ->
    ∃δ',gS (tgN 4) (bo (ci (d2 di (d2 oV (d2 b5 (d2 b5 (aj 3) (aj 4)) (dC (.int 1))) (dC (.int 48271))) (dC (.int 2147483647))) (tgN 3)) (qS 2 (aj 3))) d δ=M.ret (.nx δ')/\∃(l:List Int) (m:Int) (x4:Sl),l.length=(p++[d]).length/\(∀x∈l,0<=x/\x<2147483647)/\(0<=m/\m<2147483647)/\δ'=[.vl (.int c),.vl (.int (n:Int)),.ow (l.map Θ),.vl (.int m),x4]:=by
   rintro p d q δ e ⟨l,m,x4,h1,h2,h3,rfl⟩
   have hd:d∈fX 0 n:=by rw[e];exact Y1 _ υ
   obtain⟨k,rfl,k1,k2⟩:=kA hd
   have hp:p.length<n:=by
    have:=congrArg List.length e
    rw[hlen,ζ,ω] at this
    omega
   refine⟨[.vl (.int c),.vl (.int (n:Int)),.ow (l.map Θ++[.int ((m+k+1)*48271 % 2147483647)]),.vl (.int ((m+k+1)*48271 % 2147483647)),.vl (.int k)],?_,l++[(m+k+1)*48271 % 2147483647],(m+k+1)*48271 % 2147483647,.vl (.int k),by rw[ζ,ζ,h1];rfl,?_,by omega,by rw[X0];rfl⟩
   ·refine ig (δ':=[.vl (.int c),.vl (.int (n:Int)),.ow (l.map Θ),.vl (.int m),.vl (.int k)]) rfl ?_
    refine aK (bh (d:=.int ((m+k+1)*48271 % 2147483647)) (by walk_at "ev")) ?_
    exact nT (d:=.int ((m+k+1)*48271 % 2147483647)) rfl (ad rfl) (bi (by rw[ι];omega))
   ·intro x hx
    rcases Z6.mp hx with hx | hx
    ·exact h2 x hx
    ·rw[Ψ] at hx
     omega
  obtain⟨δ',h3,l,m,x4,q1,q2,q3,rfl⟩:=sS (λp δ=>∃(l:List Int) (m:Int) (x4:Sl),l.length=p.length/\(∀x∈l,0<=x/\x<2147483647)/\(0<=m/\m<2147483647)/\δ=[.vl (.int c),.vl (.int (n:Int)),.ow (l.map Θ),.vl (.int m),x4]) (fX 0 n) [] [.vl (.int c),.vl (.int (n:Int)),.ow (([]:List Int).map Θ),.vl (.int (c % 2147483647)),.un] ⟨[],_,_,rfl,(λx hx=>nomatch hx),by omega,rfl⟩ (λp d q δ e=>body p d q δ e)
  refine⟨l,⟨by rw[q1];exact hlen,q2⟩,?_⟩
  refine aK (jo (ds:=[]) (jp ak rfl)) ?_
  refine aK (bh (d:=.int (c % 2147483647)) (by walk_at "ev")) ?_
  exact aK (ie (mt (ae (ad rfl) ak) hr) h3) rfl
 obtain⟨l,⟨h1,h2⟩,h3⟩:=main
 exact⟨l,h1,h2,bv h3⟩
end K61
namespace CT
theorem lr{n k:Nat}(hk:0<k)(hk2:k<1073741824):ji [.int (n:Int),.int (k:Int)]=some (.tuple [.int ((n / k:Nat):Int),.int ((n % k:Nat):Int)]):=by
 show(if decide (0<(k:Int)/\(k:Int)<1073741824)=true then some (V4 [.int ((n:Int) / (k:Int)),.int ((n:Int) % (k:Int))]) else none)=_
 rw[if_pos (by exact decide_eq_true ⟨by omega,by omega⟩),Int.natCast_ediv,Int.natCast_emod]
theorem kW{a b:List Nat}(h:a.length+b.length<=1000000):b5 (.str (S a)) (.str (S b))=some (.str (S (a++b))):=by
 rw[o_addS (bi (by rw[cJ,cJ];omega)),eG]
end CT
namespace K61
theorem jF{n:Nat}(hn:n<10 ^ 19):de [.int (n:Int)]=M.ret (tx (tm n)):=by
 have st:∀n:Nat,n<10 ^ 30->kt [.int (n:Nat)]=some (.str (Str.ofString (toString ((n:Nat):Int)))):=λn hn=>zo (by omega)
 have h1:n / 1000 / 60 / 60=n / 3600000:=by omega
 have h2:n / 1000 / 60 % 60=n / 60000 % 60:=by omega
 have hh:n / 3600000<10 ^ 30:=by omega
 have hm:n / 60000 % 60<10 ^ 30:=by omega
 have hs:n / 1000 % 60<10 ^ 30:=by omega
 have hr:n % 1000<10 ^ 30:=by omega
 have l1:=kK (k:=2) hh
 have l2:=kK (k:=2) hm
 have l3:=kK (k:=2) hs
 have l4:=kK (k:=3) hr
 have z:∀{m k:Nat} {f:DS->M D} {δ:DS},m<10 ^ 30->1<=k->k<=100->f δ=M.ret (.int (m:Int))->dj eJ (dCB kt (ai f az)) (ai (dC (.int (k:Int))) az) δ=M.ret (.str (S (fg k m))) :=
  λh1 h2 h3 hf=>bL (cj (ae hf ak) (st _ h1)) (ae ao ak) (kX h2 h3)
 refine bv ?_
 unfold eW
 refine aK (mw (cj (ae (ad rfl) (ae ao ak)) (lr (n:=n) (k:=1000) (by decide) (by decide))) rfl) ?_
 refine aK (mw (cj (ae (ad rfl) (ae ao ak)) (lr (n:=n / 1000) (k:=60) (by decide) (by decide))) rfl) ?_
 refine aK (mw (cj (ae (ad rfl) (ae ao ak)) (lr (n:=n / 1000 / 60) (k:=60) (by decide) (by decide))) rfl) ?_
 rw[h1,h2]
 refine aK (bh (d:=.str (S (fg 2 (n / 3600000)++[58]++fg 2 (n / 60000 % 60)++[58]++fg 2 (n / 1000 % 60)))) (av (av (av (av (z (k:=2) hh (by decide) (by decide) (ad rfl)) (ao (d:=.str (S [58]))) (kW (by simp only[ζ,Γ];omega))) (z (k:=2) hm (by decide) (by decide) (ad rfl)) (kW (by simp only[ζ,Γ];omega))) (ao (d:=.str (S [58]))) (kW (by simp only[ζ,Γ];omega))) (z (k:=2) hs (by decide) (by decide) (ad rfl)) (kW (by simp only[ζ,Γ];omega)))) ?_
 refine bA (Eq.trans (av (av (ad rfl) (ao (d:=.str (S [46]))) (kW (by simp only[ζ,Γ];omega))) (z (k:=3) hr (by decide) (by decide) (ad rfl)) (kW (by simp only[ζ,Γ];omega))) ?_)
 show M.ret (W1 (S _))=M.ret (W1 (S (tm n)))
 unfold tm txt
 simp only[X4,U8,List.nil_append]
theorem oz(ns:List Int)(k:Int)(k0:0<=k):∃c,bU [.list (ns.map Θ),.int k]=M.ret (.int c):=by
 by_cases h:k.toNat<ns.length
 ·refine⟨ns[k.toNat],bv ?_⟩
  unfold dq
  refine gL (b:=true) ?_ (sO rfl (jm (bA ?_)))
  ·walk_at "ev"
   first | rw[sB,ι,decide_eq_true (by omega)] | rw[pC,ι,decide_eq_true (by omega)]
  ·refine av (ad rfl) (ad rfl) (zW k0 ?_)
   rw[Φ,Z7 h]
   rfl
 ·refine⟨0,bv ?_⟩
  unfold dq
  refine gL (b:=false) ?_ (vX rfl (qV ?_))
  ·walk_at "ev"
   first | rw[sB,ι,decide_eq_false (by omega)] | rw[pC,ι,decide_eq_false (by omega)]
  ·walk_at "ev"
theorem item{ds:List D}{P:Int->Prop}{i:Int}(h0:0<=i)(h1:i<ds.length)(hP:∀d∈ds,∃n,d=.int n/\P n):∃n,oIx (.list ds) (.int i)=some (.int n)/\P n:=by
 obtain⟨d,hd,e⟩:=ix_in h0 h1
 obtain⟨n,rfl,p⟩:=hP d hd
 exact⟨n,e,p⟩
theorem al{P:Int->Prop}{a:Int}{r:List D}(h:P a)(hr:∀x∈r,∃n,x=.int n/\P n):∀x∈(Θ a)::r,∃n,x=.int n/\P n:=by
 intro x hx
 rcases Δ.mp hx with rfl | hx
 ·exact⟨a,rfl,h⟩
 ·exact hr x hx
theorem wB{α:Type}(xs:List α)(lo hi:Option Int):(jT xs lo hi).length<=xs.length:=by
 unfold jT
 rw[List.length_take,List.length_drop]
 omega
theorem cells(ns:List Int)(hl:ns.length<=63)(lo hi:Option Int):b5 (.list [.int 0]) (.list (jT (ns.map Θ) lo hi))=some (.list (Θ 0::jT (ns.map Θ) lo hi)):=by
 refine o_addL (bi ?_)
 have:=wB (ns.map Θ) lo hi
 rw[ι] at this
 show 1+_<=_
 omega
end K61
namespace DL
theorem qO{l:List Int}{i:Int}(h0:0<=i)(h1:i.toNat<l.length):oIx (.list (l.map Θ)) (.int i)=some (.int (l.getD i.toNat 0)):=by
 refine zW h0 ?_
 rw[Φ,Z7 h1,List.getD_eq_getElem?_getD,Z7 h1]
 rfl
end DL
namespace K61
theorem adT{u v:List Nat}(h:u.length+v.length<=1000):b5 (tx u) (tx v)=some (tx (u++v)):=kW (by omega)
noncomputable def azS:List Nat:=[97,98,99,100,101,102,103,104,105,106,107,108,109,110,111,112,113,114,115,116,117,118,119,120,121,122]
theorem az_at{i:Int}(h0:0<=i)(h1:i<26):∃c,(97<=c/\c<=122)/\oIx (tx azS) (.int i)=some (tx [c]):=by
 have hi:i.toNat<azS.length:=by show i.toNat<26;omega
 refine⟨azS[i.toNat],?_,vW (by decide) h0 (Z7 hi)⟩
 have:∀c∈azS,97<=c/\c<=122:=by decide
 exact this _ (List.getElem_mem hi)
theorem zX(b:Bool):iS [.bool b]=some (.int (if b then 1 else 0)):=by cases b<;>rfl
theorem nq{l:List Int}(hl:l.length=10)(hv:∀x∈l,0<=x/\x<2147483647){n:Nat}(hn:n<=8)(c m a:Int){t:Int}(ht:0<=t/\t<4)(N:List D):∀(q:List D) (w:List Nat) (x8:Sl),(∀d∈q,∃k:Int,d=.int k/\0<=k/\k<n)->(∀c∈w,97<=c/\c<=122)->w.length+q.length<=8->∃(w':List Nat) (y8:Sl),(∀c∈w',97<=c/\c<=122)/\w'.length=w.length+q.length/\ib (gS (tgN 8) eB) q [.vl (.int c),.vl (tx azS),.vl (.list (l.map Θ)),.vl (.int m),.vl (.int a),.ow N,.vl (.int t),.vl (tx w),x8]=M.ret (.nx [.vl (.int c),.vl (tx azS),.vl (.list (l.map Θ)),.vl (.int m),.vl (.int a),.ow N,.vl (.int t),.vl (tx w'),y8])
 | [],w,x8,_,hw,_=>⟨w,x8,hw,rfl,rfl⟩
 | d::q,w,x8,hq,hw,hz=>by
  obtain⟨k,rfl,k0,k1⟩:=hq d υ
  rw[ω] at hz
  have hk:k.toNat<l.length:=by omega
  have hx:=qO (l:=l) (i:=k) k0 hk
  have hm:l.getD k.toNat 0∈l:=by rw[List.getD_eq_getElem?_getD,Z7 hk];exact List.getElem_mem hk
  have hb:=hv _ hm
  generalize l.getD k.toNat 0=v at hx hb
  obtain⟨z,hz1,hz2⟩:=az_at (i:=(v+t*(if decide (k=a) then 1 else 0)) % 26) (by omega) (by omega)
  obtain⟨w',y8,h1,h2,h3⟩:=nq hl hv hn c m a ht N q (w++[z]) (.vl (.int k)) (λd hd=>hq d (ρ _ hd)) (λx hx=>by
   rcases Z6.mp hx with hx | hx
   ·exact hw x hx
   ·rw[Ψ.mp hx];exact hz1) (by rw[ζ,Γ];omega)
  refine⟨w',y8,h1,by rw[h2,ζ,Γ,ω];omega,?_⟩
  generalize Y0 (l.map Θ)=L at hx h3 ⊢
  refine gI (ig (δ':=[.vl (.int c),.vl (tx azS),.vl L,.vl (.int m),.vl (.int a),.ow N,.vl (.int t),.vl (tx w),.vl (.int k)]) rfl ?_) h3
  unfold eB
  exact bh (d:=tx (w++[z])) (av (x:=tx w) (y:=tx [z]) (ad rfl) (av (x:=tx azS) (ad rfl) (av (av (x:=.int v) (av (x:=L) (ad rfl) (ad rfl) hx) (av (ad rfl) (cj (ae (av (ad rfl) (ad rfl) sC) ak) (zX _)) (vR (by unfold AS;split<;>(simp only[Bool.false_eq_true,if_true,if_false,Ξ,decide_eq_true_eq]<;>omega)))) kr) ao (cG (by decide))) hz2) (adT (by show _+1<=_;omega)))
theorem nk{l:List Int}(hl:l.length=10)(hv:∀x∈l,0<=x/\x<2147483647){n:Nat}(hn:n<=8)(h0:0<n)(c a:Int):∀(q:List D) (ns:List (List Nat)) (x6 x7 x8:Sl),(∀d∈q,∃k:Int,d=.int k/\0<=k/\k<4)->(∀w∈ns,Hd w)->ns.length+q.length<=4->∃(ns':List (List Nat)) (y6 y7 y8:Sl),(∀w∈ns',Hd w)/\ns'.length=ns.length+q.length/\ib (gS (tgN 6) eA) q [.vl (.int c),.vl (tx azS),.vl (.list (l.map Θ)),.vl (.int (n:Int)),.vl (.int a),.ow (ns.map tx),x6,x7,x8]=M.ret (.nx [.vl (.int c),.vl (tx azS),.vl (.list (l.map Θ)),.vl (.int (n:Int)),.vl (.int a),.ow (ns'.map tx),y6,y7,y8])
 | [],ns,x6,x7,x8,_,hw,_=>⟨ns,x6,x7,x8,hw,rfl,rfl⟩
 | d::q,ns,x6,x7,x8,hq,hw,hz=>by
  obtain⟨t,rfl,t0,t1⟩:=hq d υ
  rw[ω] at hz
  have hr:qy [.int (n:Int)]=some (fX 0 n):=by
   show(if b62 (n:Int)=true then some (fX 0 (n:Int).toNat) else none)=_
   rw[if_pos (by unfold b62;simp;omega),Int.toNat_natCast]
  have hlen:(fX 0 n).length=n:=by unfold fX;rw[ι,List.length_range]
  obtain⟨w,y8,h1,h2,h3⟩:=nq hl hv hn c (n:Int) a ⟨t0,t1⟩ (ns.map tx) (fX 0 n) [] x8 (λd hd=>by
   obtain⟨k,rfl,k1,k2⟩:=kA hd
   exact⟨k,rfl,by omega,by omega⟩) (λc hc=>nomatch hc) (by rw[hlen];show 0+n<=8;omega)
  rw[hlen] at h2
  have h2:w.length=n:=by rw[h2];show 0+n=n;omega
  obtain⟨ns',z6,z7,z8,k1,k2,k3⟩:=nk hl hv hn h0 c a q (ns++[w]) (.vl (.int t)) (.vl (tx w)) y8 (λd hd=>hq d (ρ _ hd)) (λx hx=>by
   rcases Z6.mp hx with hx | hx
   ·exact hw x hx
   ·rw[Ψ.mp hx];exact⟨λz=>by rw[z] at h2;simp at h2;omega,h1,by omega⟩) (by rw[ζ,Γ];omega)
  refine⟨ns',z6,z7,z8,k1,by rw[k2,ζ,Γ,ω];omega,?_⟩
  rw[X0] at k3
  generalize Y0 (l.map Θ)=L at h3 k3 ⊢
  refine gI (ig (δ':=[.vl (.int c),.vl (tx azS),.vl L,.vl (.int (n:Int)),.vl (.int a),.ow (ns.map tx),.vl (.int t),x7,x8]) rfl ?_) k3
  unfold eA
  refine aK (bh (d:=tx []) ao) ?_
  refine aK (ie (mt (ae (ad rfl) ak) hr) h3) ?_
  exact nT (ds:=ns.map tx) (d:=tx w) rfl (ad rfl) (bi (by rw[ι];omega))
theorem zC(c:Int):∃ns:List (List Nat),(∀w∈ns,Hd w)/\ns.length=4/\eE [.int c]=M.ret (.list (ns.map tx)):=by
 obtain⟨l,hl,hv,hn⟩:=jJ c 10 (by decide)
 have g8:=qO (l:=l) (i:=8) (by decide) (by rw[hl];decide)
 have g9:=qO (l:=l) (i:=9) (by decide) (by rw[hl];decide)
 generalize l.getD (8:Int).toNat 0=v8 at g8
 generalize l.getD (9:Int).toNat 0=v9 at g9
 obtain⟨n,hn1,hn2,hn3⟩:∃n:Nat,1+v8 % 8=(n:Int)/\n<=8/\0<n:=⟨(1+v8 % 8).toNat,by omega,by omega,by omega⟩
 have hr:qy [.int 4]=some (fX 0 4):=rfl
 obtain⟨ns,y6,y7,y8,h1,h2,h3⟩:=nk hl hv hn2 hn3 c (v9 % (n:Int)) (fX 0 4) [] .un .un .un (λd hd=>by
  obtain⟨k,rfl,k1,k2⟩:=kA hd
  exact⟨k,rfl,by omega,by omega⟩) (λc hc=>nomatch hc) (by decide)
 refine⟨ns,h1,by rw[h2];rfl,bv ?_⟩
 unfold fz
 generalize Y0 (l.map Θ)=L at hn g8 g9 h3
 refine aK (bh (d:=tx azS) ao) ?_
 refine aK (bh (d:=L) (aQ (ds:=[.int c,.int 10]) (ae (ad rfl) (ae ao ak)) hn)) ?_
 refine aK (bh (d:=.int (n:Int)) (av ao (av (av (x:=L) (ad rfl) ao g8) ao (cG (by decide))) (by rw[kr,hn1]))) ?_
 refine aK (bh (d:=.int (v9 % (n:Int))) (av (av (x:=L) (ad rfl) ao g9) (ad rfl) (cG (by omega)))) ?_
 refine aK (jo (ds:=[]) (jp ak rfl)) ?_
 exact aK (ie (mt (ae ao ak) hr) h3) rfl
theorem vo{ws:List (List Nat)}(h:ws.all (λw=>!w.isEmpty&&decide (w.length<=30)&&w.all (λc=>decide (33<=c/\c<=126/\c≠37)))=true):∀w∈ws,Wq w:=λw hw=>by
 have:=W8.mp h w hw
 simp only[Ξ,decide_eq_true_eq,Bool.not_eq_true',List.isEmpty_eq_false_iff] at this
 refine⟨this.1.1,λc hc=>?_,this.1.2⟩
 have:=W8.mp this.2 c hc
 rw[decide_eq_true_eq] at this
 exact this
theorem Aa{m:Int}(h0:0<=m)(h1:m<3):∃h:List Nat,Hd h/\oIx (.list [.str "ann",.str "b",.str "abcdefgh"]) (.int m)=some (tx h):=by
 have:m=0\/m=1\/m=2:=by omega
 rcases this with rfl | rfl | rfl
 ·exact⟨[97,110,110],⟨by simp,by decide,by decide⟩,rfl⟩
 ·exact⟨[98],⟨by simp,by decide,by decide⟩,rfl⟩
 ·exact⟨[97,98,99,100,101,102,103,104],⟨by simp,by decide,by decide⟩,rfl⟩
theorem ya{m:Int}(h0:0<=m)(h1:m<4):∃ws:List (List Nat),Wsq ws/\oIx (.list [.str "a",.str "So it is.",.str "No; - {~} #1, \"yes\"?",.str "why not"]) (.int m)=some (tx (jn 32 ws)):=by
 have:m=0\/m=1\/m=2\/m=3:=by omega
 rcases this with rfl | rfl | rfl | rfl
 ·exact⟨[[97]],⟨vo rfl,by simp,by decide⟩,rfl⟩
 ·exact⟨[[83,111],[105,116],[105,115,46]],⟨vo rfl,by simp,by decide⟩,rfl⟩
 ·exact⟨[[78,111,59],[45],[123,126,125],[35,49,44],[34,121,101,115,34,63]],⟨vo rfl,by simp,by decide⟩,rfl⟩
 ·exact⟨[[119,104,121],[110,111,116]],⟨vo rfl,by simp,by decide⟩,rfl⟩
theorem AQ{l m:Int}(l0:0<=l)(h0:0<=m)(h1:m<4):∃v:Nat,v<10 ^ 11/\oIx (.list [.int 0,.int (l % 100),.int (l % 1000000),.int (l*14 % 10000000000)]) (.int m)=some (.int (v:Int)):=by
 have:m=0\/m=1\/m=2\/m=3:=by omega
 rcases this with rfl | rfl | rfl | rfl
 ·exact⟨0,by decide,rfl⟩
 ·exact⟨(l % 100).toNat,by omega,by rw[U3 (by omega)];rfl⟩
 ·exact⟨(l % 1000000).toNat,by omega,by rw[U3 (by omega)];rfl⟩
 ·exact⟨(l*14 % 10000000000).toNat,by omega,by rw[U3 (by omega)];rfl⟩
theorem wP(X:D)(acc:List Cz)(B:Nat)(hB:B<10 ^ 15)(hz:acc.length<=100)(m:Int)(x3 x4 x5 x6 x7:Sl):∃(c:Cz) (y3 y4 y5 y6 y7:Sl),czOk c/\B<=c.b/\c.b<B+10 ^ 11/\gS (tgN 3) dL (.int m) [.vl X,.ow ((acc.map dk).map tx),.vl (.int (B:Int)),x3,x4,x5,x6,x7]=M.ret (.nx [.vl X,.ow ((acc.map dk).map tx++[tx (dk c)]),.vl (.int (c.b:Int)),y3,y4,y5,y6,y7]):=by
 obtain⟨l,hl,hb,hn⟩:=jJ m 4 (by decide)
 match l,hl with
 | [a,b,c,d],_ =>
 have ha:=hb a (by simp)
 have hbb:=hb b (by simp)
 have hc:=hb c (by simp)
 have hd:=hb d (by simp)
 obtain⟨v,hv,e1⟩:=AQ (l:=a) (m:=b % 4) ha.1 (by omega) (by omega)
 obtain⟨ws,hw,e2⟩:=ya (m:=d % 4) (by omega) (by omega)
 obtain⟨h,hh,e3⟩:=Aa (m:=d / 4 % 3) (by omega) (by omega)
 have hok:czOk ⟨B+v,B+v+1+(c % 9000).toNat,h,ws⟩:=⟨by show B+v<B+v+1+_;omega,by show B+v+1+_<_;omega,hh,hw⟩
 refine⟨⟨B+v,B+v+1+(c % 9000).toNat,h,ws⟩,.vl (.int m),.vl (.list ([a,b,c,d].map Θ)),.vl (.int ((B+v+1+(c % 9000).toNat:Nat):Int)),.vl (tx (jn 32 ws)),.vl (tx h),hok,by show B<=B+v;omega,by show B+v<_;omega,?_⟩
 have q1:=le (n:=B+v) (by omega)
 have q2:=le (n:=B+v+1+(c % 9000).toNat) (by omega)
 have q3:=hh.len
 have q4:=hV 32 hw.ne
 have q5:=hw.tot
 refine ig (δ':=[.vl X,.ow ((acc.map dk).map tx),.vl (.int (B:Int)),.vl (.int m),x4,x5,x6,x7]) rfl ?_
 unfold dL
 generalize hL:Y0 ([a,b,c,d].map Θ)=L at hn ⊢
 have g0:oIx L (.int 0)=some (.int a):=by rw[<-hL];rfl
 have g1:oIx L (.int 1)=some (.int b):=by rw[<-hL];rfl
 have g2:oIx L (.int 2)=some (.int c):=by rw[<-hL];rfl
 have g3:oIx L (.int 3)=some (.int d):=by rw[<-hL];rfl
 refine aK (bh (d:=L) (aQ (ds:=[.int m,.int 4]) (ae (ad rfl) (ae ao ak)) hn)) ?_
 have vL:∀{δ:DS} {k:Int} {x:D},δ[4]?=some (.vl L)->oIx L (.int k)=some x->d2 oIx (aj 4) (dC (.int k)) δ=M.ret x:=λh e=>av (ad h) ao e
 refine aK (bh (d:=.int ((B+v:Nat):Int)) (av (x:=.int (B:Int)) (y:=.int (v:Int)) (ad rfl) (av (x:=.list [.int 0,.int (a % 100),.int (a % 1000000),.int (a*14 % 10000000000)]) (y:=.int (b % 4)) (gr (ae ao (ae (av (vL rfl g0) ao (cG (by decide))) (ae (av (vL rfl g0) (av ao ao zp) (cG (by decide))) (ae (av (av (vL rfl g0) ao (vR (by unfold AS;simp only[Ξ,decide_eq_true_eq];omega))) (av ao ao vQ) (cG (by decide))) ak)))) rfl) (av (vL rfl g1) ao (cG (by decide))) e1) (by rw[kr,Int.natCast_add]))) ?_
 refine aK (bh (d:=.int ((B+v+1+(c % 9000).toNat:Nat):Int)) ((av (av (ad rfl) ao kr) (av (vL rfl g2) ao (cG (by decide))) kr).trans (by rw[show((B+v+1+(c % 9000).toNat:Nat):Int)=((B+v:Nat):Int)+1+c % 9000 by omega]))) ?_
 refine aK (bh (d:=tx (jn 32 ws)) (av (y:=.int (d % 4)) (gr (ae ao (ae ao (ae ao (ae ao ak)))) rfl) (av (vL rfl g3) ao (cG (by decide))) e2)) ?_
 refine aK (bh (d:=tx h) (av (y:=.int (d / 4 % 3)) (gr (ae ao (ae ao (ae ao ak))) rfl) (av (av (vL rfl g3) ao (iR (by decide))) ao (cG (by decide))) e3)) ?_
 refine nT (ds:=(acc.map dk).map tx) rfl (Eq.trans (av (av (av (av (av (av (aQ (ds:=[.int ((B+v:Nat):Int)]) (ae (ad rfl) ak) (jF (by omega))) (ao (d:=tx [32])) (adT ?_)) (aQ (ds:=[.int ((B+v+1+(c % 9000).toNat:Nat):Int)]) (ae (ad rfl) ak) (jF (by omega))) (adT ?_)) (ao (d:=tx [32])) (adT ?_)) (ad rfl) (adT ?_)) (ao (d:=tx [32])) (adT ?_)) (ad rfl) (adT ?_)) ?_) (bi (by rw[ι,ι];omega))
 all_goals try (simp only[ζ,Γ];omega)
 show M.ret (tx _)=M.ret (tx (R4 _ _ _ _))
 unfold R4
 simp only[X4,U8,List.nil_append]
theorem pd(X:D):∀(q:List Int) (acc:List Cz) (B:Nat) (x3 x4 x5 x6 x7:Sl),(∀c∈acc,czOk c/\c.b<=B)->acc.Pairwise (λx y=>x.b<=y.b)->B+q.length*10 ^ 11<10 ^ 15->acc.length+q.length<=100->∃(cs:List Cz) (B':Nat) (y3 y4 y5 y6 y7:Sl),cs.length=acc.length+q.length/\(∀c∈cs,czOk c)/\cs.Pairwise (λx y=>x.b<=y.b)/\ib (gS (tgN 3) dL) (q.map Θ) [.vl X,.ow ((acc.map dk).map tx),.vl (.int (B:Int)),x3,x4,x5,x6,x7]=M.ret (.nx [.vl X,.ow ((cs.map dk).map tx),.vl (.int (B':Int)),y3,y4,y5,y6,y7])
 | [],acc,B,x3,x4,x5,x6,x7,h,hp,_,_=>⟨acc,B,x3,x4,x5,x6,x7,rfl,λc hc=>(h c hc).1,hp,rfl⟩
 | m::q,acc,B,x3,x4,x5,x6,x7,h,hp,hB,hl=>by
  rw[ω] at hl hB
  obtain⟨c,y3,y4,y5,y6,y7,hc,h1,h2,hs⟩:=wP X acc B (by omega) (by omega) m x3 x4 x5 x6 x7
  obtain⟨cs,B',z3,z4,z5,z6,z7,k1,k2,k3,k4⟩:=pd X q (acc++[c]) c.b y3 y4 y5 y6 y7 (λe he=>by
   rcases Z6.mp he with he | he
   ·exact⟨(h e he).1,Y9 (h e he).2 h1⟩
   ·rw[Ψ.mp he];exact⟨hc,ο _⟩) (U0.mpr ⟨hp,List.pairwise_singleton _ _,λa ha b hb=>by rw[Ψ.mp hb];exact Y9 (h a ha).2 h1⟩) (by omega) (by rw[ζ,Γ];omega)
  refine⟨cs,B',z3,z4,z5,z6,z7,by rw[k1,ζ,Γ,ω];omega,k2,k3,?_⟩
  rw[X0,X0] at k4
  exact gI hs k4
theorem vv(m:Int):∃cs:List Cz,cs.length=(m % 4).toNat/\(∀c∈cs,czOk c)/\cs.Pairwise (λx y=>x.b<=y.b)/\dw [.int m]=M.ret (tx (csT cs)):=by
 obtain⟨n,hn1,hn2⟩:∃n:Nat,m % 4=(n:Int)/\n<=3:=⟨(m % 4).toNat,by omega,by omega⟩
 obtain⟨l,hl,_,hn⟩:=jJ m n (by omega)
 obtain⟨cs,B',y3,y4,y5,y6,y7,k1,k2,k3,k4⟩:=pd (.int m) l [] 0 .un .un .un .un .un (λc h=>nomatch h) .nil (by rw[hl];omega) (by show 0+_<=_;omega)
 have k1:cs.length=n:=by rw[k1,hl];show 0+n=n;omega
 have hj:=uy (c:=10) (ts:=cs.map dk) (by have:=iJ k2 (by omega);omega)
 refine⟨cs,by rw[k1,hn1,Int.toNat_natCast],k2,k3,bv ?_⟩
 unfold gh
 refine aK (jo (ds:=[]) (jp ak rfl)) ?_
 refine aK (bh (d:=.int 0) ao) ?_
 refine aK (ie (jO (x:=.list (l.map Θ)) (aQ (ds:=[.int m,.int (n:Int)]) (ae (ad rfl) (ae (av (ad rfl) ao (by rw[cG (by decide),hn1])) ak)) hn) rfl) k4) ?_
 exact ev_frz (bA (bL (z:=S [10]) ao (ae (x:=.list ((cs.map dk).map tx)) (ad rfl) ak) hj))
theorem rL{N i:Nat}{gs:Addr->DS->M Out}{o':Addr->Out}{o:Out}(hs:∀a,gs a (exS N i a)=M.ret (o' a))(ho:∀a,(o' a).gone i=o):cc N i gs=M.ret o:=rG λa=>by
 rw[hs a]
 show M.ret ((o' a).gone i)=M.ret o
 rw[ho a]
theorem Aw{fa fb:ar->Sto->R (Bool×Sto)}{δ:ar}{μ μ1:Sto}{b:Bool}{r:R (Bool×Sto)}(h1:fa δ μ=R.ret (b,μ1))(h2:(if b=true then fb δ μ1 else R.ret (false,μ1))=r):Be fa fb δ μ=r:=by
 unfold Be
 rw[h1,bf]
 exact h2
def En.ok(e:En):Prop:=(∀c∈e.cs,czOk c)/\e.cs.length<=63
noncomputable def nW(E:List En)(n:List Nat):D:=match gF E n with
 | some e=>fT e
 | none=>.list [.bool true]
section
variable{μ:Sto}{k c a b q:Nat}{E:List En}{n:List Nat}
theorem yu(hk:μ[k]?=some (dkO c a b))(hc:μ[c]?=some (.dct (kvs fC E)))(hn:Hd n)(hE:∀e∈E,En.ok e):df [.h k,.d (tx n)] μ=R.ret (.d (nW E n),μ):=by
 have nl:=hn.len
 have hrow:∀{δ:ar},δ[1]?=some (some (.d (tx n)))->bb (bq (d2 b5 (dC (.str "show ")) (aj 1))) dS δ μ=R.ret ([.d (tx ([115,104,111,119,32]++n))],μ):=λ{δ} h=>aT (aW (d:=tx ([115,104,111,119,32]++n)) (av (ao (d:=tx [115,104,111,119,32])) (ad (by show(δ.map v0)[1]?=_;rw[Φ,h];rfl)) (adT (by show 5+_<=_;omega)))) b9
 refine ij ?_
 unfold fy
 refine aO (bO (aW ao)) ?_
 refine aO (bO (aW ao)) ?_
 cases hg:gF E n with
 | none =>
  have hd:nW E n=.list [.bool true]:=by unfold nW;rw[hg]
  rw[hd]
  have hs:=rY hk hc hn hg
  refine aO (Cb (μ1:=μ) (y:=⟨"NoName",[]⟩) (SL.uV (fA (k:=k) (aL rfl) hk (by kernel_rfl) (hrow rfl) hs)) rfl (r:=R.ret (.nx [none,none,none,some (.d (.bool true)),none] μ)) ?_) ?_
  ·rw[rL (o':=λa=>.nx [.un,.un,.un,.vl (.bool true),.ex a]) (o:=.nx [.un,.un,.un,.vl (.bool true),.un]) (λa=>bh (d:=.bool true) (jq (rh rfl) (jq (rh rfl) (wl (rh rfl))))) (λa=>rfl)]
   rfl
  ·refine kN (bJ (b:=true) (dD (bQ (av (x:=.bool true) (y:=.none) (ad rfl) ao rfl))) ?_)
   rw[if_pos rfl]
   exact fq (aW (gr (ae (ad rfl) ak) rfl))
 | some e =>
  have hd:nW E n=fT e:=by unfold nW;rw[hg]
  rw[hd]
  obtain⟨o1,o2⟩:=hE e (v7 hg)
  have hs:=rX hk hc hn hg o1 o2
  refine aO (es_try (o:=.nx [some (.h k),some (.d (tx n)),some (.d (fT e)),some (.d .none),none] μ) (bO (fA (k:=k) (aL rfl) hk (by kernel_rfl) (hrow rfl) hs))) ?_
  refine aO (bJ (b:=false) (dD (bQ (av (x:=.none) (y:=.none) (ad rfl) ao rfl))) rfl) ?_
  exact fq (aL rfl)
theorem xu{X:D}{j:Int}(hk:μ[k]?=some (dkO c a b))(hs:bc [.h k,.d X] μ=some (.error (⟨"NoCue",[("row",.int j)]⟩,μ))):cE [.h k,.d X] μ=R.ret (.d (.int j),μ):=by
 refine ij ?_
 unfold eV
 refine aO (bO (aW ao)) ?_
 refine aO (Ap (μ1:=μ) (j:=j) (SL.qZ (fA (k:=k) (aL rfl) hk (by kernel_rfl) (aT (aL rfl) b9) hs)) (r:=R.ret (.nx [none,none,some (.d (.int j)),none] μ)) ?_) ?_
 ·rw[rL (o':=λa=>.nx [.un,.un,.vl (.int j),.ex a]) (o:=.nx [.un,.un,.vl (.int j),.un]) (λa=>bh (d:=.int j) (ev_xat rfl)) (λa=>rfl)]
  rfl
 ·exact fq (aL rfl)
theorem odd_ev(m:Int)(h0:0<=m)(h1:m<4):∃(t:List Nat) (j:Int),t.length<=60000/\bK [TH,tx t]=pD j/\oIx (.list [.int 1,.int 1,.int 2,.int 1]) (.int m)=some (.int j)/\∃T1,dw [.int 1]=M.ret (tx T1)/\T1.length<=57000/\oIx (.list [.str "\n",.str "x",tx (T1++[10]),.str "00:00:02.000 00:00:01.000 a b"]) (.int m)=some (tx t):=by
 obtain⟨cs,l1,l2,l3,l4⟩:=vv 1
 have l1:cs.length=1:=l1
 have lt:=wC l2 (by omega)
 have nE:Nr TH []:=(few1 (a:=[]) (λc hc=>nomatch hc) (by decide)).2
 have:m=0\/m=1\/m=2\/m=3:=by omega
 rcases this with rfl | rfl | rfl | rfl
 ·exact⟨[10],1,by decide,mh (cs:=[]) (x:=[]) (more:=[[]]) (λc h=>nomatch h) .nil (by decide) nE (by decide) (by decide) (by decide),rfl,csT cs,l4,lt,rfl⟩
 ·exact⟨[120],1,by decide,mh (cs:=[]) (x:=[120]) (more:=[]) (λc h=>nomatch h) .nil (by decide) (few1 (a:=[120]) (by unfold Sg;decide) (by decide)).2 (by decide) (by decide) (by decide),rfl,csT cs,l4,lt,rfl⟩
 ·refine⟨csT cs++[10],2,by rw[ζ,Γ];omega,?_,rfl,csT cs,l4,lt,rfl⟩
  match cs,l1 with
  | [x],_=>exact mh (cs:=[x]) (x:=[]) (more:=[]) l2 l3 (by show 1<=63;decide) nE (by show dk x++10::[]≠[];simp) (by decide) (by decide)
 ·refine⟨R4 (tm 2000) (tm 1000) [97] (jn 32 [[98]]),1,by decide +kernel,?_,rfl,csT cs,l4,lt,by kernel_rfl⟩
  have rw:Rw (tm 2000) (tm 1000) [97] [[98]]:=⟨vt _,vt _,by unfold Sg;decide,by unfold Sg;decide,by decide,by have:=le (n:=2000) (by decide);omega,by have:=le (n:=1000) (by decide);omega,by decide,by decide⟩
  have pl:=rw.pl
  exact mh (cs:=[]) (x:=R4 (tm 2000) (tm 1000) [97] (jn 32 [[98]])) (more:=[]) (λc h=>nomatch h) .nil (by decide) (rw.nc (ma (by decide)) (ma (by decide)) (by unfold tq;rw[o8,o8];rfl)) (by show R4 _ _ _ _≠[];unfold R4;simp) (λw hw=>by rw[Ψ.mp hw];exact pl.1) (by show(R4 _ _ _ _).length+1+0<=_;have:=pl.2;omega)
theorem wy(hk:μ[k]?=some (dkO c a b))(hc:μ[c]?=some (.dct (kvs fC E)))(hq:μ[q]?=some (.dct (kvs fT E)))(kq:k≠q)(kc:k≠c)(cq:c≠q)(hn:Hd n)(hE:∀e∈E,En.ok e)(hl:E.length<500)(m:Int):∃(E':List En) (μ':Sto),cU [.h k,.h q,.d (tx n),.d (.int m)] μ=R.ret (.d (.bool true),μ')/\(∀e∈E',En.ok e)/\E'.length<=E.length+1/\μ'[c]?=some (.dct (kvs fC E'))/\μ'[q]?=some (.dct (kvs fT E'))/\∀i,i≠c->i≠q->μ'[i]?=μ[i]?:=by
 have n32:32∉n:=λz=>by have:=hn.sg _ z;omega
 have n10:10∉n:=λz=>by have:=hn.sg _ z;omega
 have nl:=hn.len
 have okok:oEq (.str "ok") (.str "ok")=some (.bool true):=by kernel_rfl
 have set_ok:∀(E':List En),(((μ.set q (.dct (kvs fT E'))).set c (.dct (kvs fC E')))[c]?=some (.dct (kvs fC E'))/\((μ.set q (.dct (kvs fT E'))).set c (.dct (kvs fC E')))[q]?=some (.dct (kvs fT E'))/\∀i,i≠c->i≠q->((μ.set q (.dct (kvs fT E'))).set c (.dct (kvs fC E')))[i]?=μ[i]?):=λE'=>by
  have lc:=(Z4.mp hc).1
  have lq:=(Z4.mp hq).1
  refine⟨U6 (by rw[Y3];exact lc),?_,λi h1 h2=>?_⟩
  ·rw[Y8 cq];exact U6 lq
  ·rw[Y8 (λz=>h1 z.symm),Y8 (λz=>h2 z.symm)]
 have row0:∀{δ:ar},δ[2]?=some (some (.d (tx n)))->bq (d2 b5 (dC (.str "cues ")) (aj 2)) δ μ=R.ret (.d (tx ([99,117,101,115,32]++n)),μ):=λ{δ} h=>aW (d:=tx ([99,117,101,115,32]++n)) (av (ao (d:=tx [99,117,101,115,32])) (ad (by show(δ.map v0)[2]?=_;rw[Φ,h];rfl)) (adT (by show 5+_<=_;omega)))
 have radd:∀{δ:ar} {i:Nat} {t:List Nat} {ν:Sto},δ[4]?=some (some (.d (tx ([99,117,101,115,32]++n))))->δ[i]?=some (some (.d (tx t)))->t.length<=60000->bq (d2 b5 (d2 b5 (aj 4) (dC (.str "\n"))) (aj i)) δ ν=R.ret (.d (tx ([99,117,101,115,32]++n++10::t)),ν):=λ{δ i t ν} h h5 ht=>by
  have e:[99,117,101,115,32]++n++10::t=([99,117,101,115,32]++n++[10])++t:=by rw[X4 _ [10]];rfl
  rw[e]
  exact aW (av (x:=tx ([99,117,101,115,32]++n++[10])) (av (x:=tx ([99,117,101,115,32]++n)) (ad (by show(δ.map v0)[4]?=_;rw[Φ,h];rfl)) (ao (d:=tx [10])) (adT (by rw[ζ];show 5+_+1<=_;omega))) (ad (by show(δ.map v0)[i]?=_;rw[Φ,h5];rfl)) (kW (by rw[ζ,ζ];show 5+_+1+_<=_;omega)))
 by_cases h1:m % 5<2
 ·obtain⟨cs,l1,l2,l3,l4⟩:=vv (m / 5)
  have l1:cs.length<=3:=by omega
  have lt:=wC l2 (by omega)
  have sg:=AJ l2
  have set:=set_ok (jx E n cs)
  have hr:=Bh l2 l3 (by omega)
  have hk':(μ.set q (.dct (kvs fT (jx E n cs))))[k]?=some (dkO c a b):=by rw[Y8 (λz=>kq z.symm)];exact hk
  have hc':(μ.set q (.dct (kvs fT (jx E n cs))))[c]?=some (.dct (kvs fC E)):=by rw[Y8 (λz=>cq z.symm)];exact hc
  have hp:=put_ok hk' hc' hn hr (by omega)
  have hEE:∀e∈jx E n cs,En.ok e:=λe he=>by
   rcases Bj he with rfl | he
   ·exact⟨l2,by show cs.length<=63;omega⟩
   ·exact hE e he
  have hwd:=Bk E n cs
  have hset:∀{δ:ar} {N:Nat},δ[1]?=some (some (.h q))->δ[2]?=some (some (.d (tx n)))->δ[5]?=some (some (.d (tx (csT cs))))->lH (aY 1) (aY 2) (aY 5) N δ μ=R.ret (.nx δ (μ.set q (.dct (kvs fT (jx E n cs))))):=λh1 h2 h5=>by
   rw[<-zL]
   exact wm (v:=.d (fT ⟨n,cs⟩)) (y:=tx n) (kk:=.inr (S n)) (aL h5) (aL h1) (aL h2) rfl hq (by rw[zM];omega)
  have fin:∀{X:D} {x5:Option Val},aS [X]=M.ret (.tuple [.list [tx [99,117,101,115],tx n],tx (csT cs)])->fG (qx oEq (xa "Desk" "say" bc (aY 0) (bb (aY 4) dS)) (bq (dC (.str "ok")))) μ.length [some (.h k),some (.h q),some (.d (tx n)),some (.d (.int m)),some (.d X),x5,none] (μ.set q (.dct (kvs fT (jx E n cs))))=R.ret (.rt (.d (.bool true)) ((μ.set q (.dct (kvs fT (jx E n cs)))).set c (.dct (kvs fC (jx E n cs))))):=λhw=>fq (qX (As (k:=k) (aL rfl) hk' (by kernel_rfl) (aT (aL rfl) b9) ((vC hk' hw hp).trans rfl)) (aW ao) rfl rfl okok rfl)
  refine⟨jx E n cs,_,ij ?_,hEE,hwd,set.1,set.2.1,set.2.2⟩
  unfold dn
  refine aO (bO (row0 rfl)) ?_
  refine kN (bJ (b:=true) (dD (bQ (av (x:=.int (m % 5)) (av (ad rfl) ao (cG (by decide))) ao (by rw[sB,decide_eq_true h1])))) ?_)
  rw[if_pos rfl]
  refine aO (bO (aW (d:=tx (csT cs)) (aQ (ds:=[.int (m / 5)]) (ae (av (ad rfl) ao (iR (by decide))) ak) l4))) ?_
  have hwn:=vn (n:=n) (t:=csT cs) n32 n10 (by omega)
  cases cs with
  | cons x r =>
   have hne:oNe (tx (csT (x::r))) (.str "")=some (.bool true):=by
    refine(o_neS (b:=S []) (zm λc hc=>by have:=sg c hc;omega) (zm λc hc=>nomatch hc)).trans ?_
    have:(S (csT (x::r))==S [])=false:=by rw[beq_eq_false_iff_ne];exact λz=>AK (wJ z)
    rw[this]
    rfl
   refine aO (bJ (b:=true) (dD (B9 (bQ (av (ad rfl) ao hne)))) (by rw[if_pos rfl];exact bO (radd rfl rfl (by omega)))) ?_
   refine aO (hset rfl rfl rfl) ?_
   exact fin hwn
  | nil =>
   have hne:oNe (tx (csT [])) (.str "")=some (.bool false):=by kernel_rfl
   by_cases h8:m / 5 % 8 > 3
   ·refine aO (bJ (b:=true) (dD (wk (bQ (av (ad rfl) ao hne)) (bQ (av (x:=.int (m / 5 % 8)) (av (av (ad rfl) ao (iR (by decide))) ao (cG (by decide))) ao (by rw[o_gt,decide_eq_true h8]))))) (by rw[if_pos rfl];exact bO (radd rfl rfl (by decide)))) ?_
    refine aO (hset rfl rfl rfl) ?_
    exact fin hwn
   ·refine aO (bJ (b:=false) (dD (wk (bQ (av (ad rfl) ao hne)) (bQ (av (x:=.int (m / 5 % 8)) (av (av (ad rfl) ao (iR (by decide))) ao (cG (by decide))) ao (by rw[o_gt,decide_eq_false h8]))))) rfl) ?_
    refine aO (hset rfl rfl rfl) ?_
    exact fin (x9 n32 n10 (by omega))
 have t1:∀{δ:ar},δ[3]?=some (some (.d (.int m)))->b4 (dB (d2 oLt (d2 di (aj 3) (dC (.int 5))) (dC (.int 2)))) δ μ=R.ret (false,μ):=λ{δ} h=>dD (bQ (av (x:=.int (m % 5)) (av (x:=.int m) (ad (by show(δ.map (v1 0 μ))[3]?=_;rw[Φ,h];rfl)) ao (cG (by decide))) ao (by rw[sB,decide_eq_false h1])))
 by_cases h2:m % 5=2
 ·obtain⟨t,j,tl,hr,hj,T1,hT1,lT1,ho⟩:=odd_ev (m / 5 % 4) (by omega) (by omega)
  have hp:=put_no hk hn hr
  have hs:=(vC hk (vn (n:=n) (t:=t) n32 n10 (by omega)) hp).trans rfl
  have hnc:=xu (X:=tx ([99,117,101,115,32]++n++10::t)) hk hs
  refine⟨E,μ,ij ?_,hE,by omega,hc,hq,λ_ _ _=>rfl⟩
  unfold dn
  refine aO (bO (row0 rfl)) ?_
  refine aO (bJ (b:=false) (t1 rfl) rfl) ?_
  refine kN (bJ (b:=true) (dD (bQ (av (x:=.int (m % 5)) (av (ad rfl) ao (cG (by decide))) ao (by rw[sC,decide_eq_true h2])))) ?_)
  rw[if_pos rfl]
  refine aO (bO (aW (d:=tx t) (av (x:=.list [.str "\n",.str "x",tx (T1++[10]),.str "00:00:02.000 00:00:01.000 a b"]) (y:=.int (m / 5 % 4)) (gr (ae ao (ae ao (ae (av (aQ (ds:=[.int 1]) (ae ao ak) hT1) (ao (d:=tx [10])) (kW (by show _+1<=_;omega))) (ae ao ak)))) rfl) (av (av (ad rfl) ao (iR (by decide))) ao (cG (by decide))) ho))) ?_
  exact fq (qX (kP (aT (aL rfl) (aT (radd rfl rfl tl) b9)) hnc) (aW (d:=.int j) (av (x:=.list [.int 1,.int 1,.int 2,.int 1]) (y:=.int (m / 5 % 4)) (gr (ae ao (ae ao (ae ao (ae ao ak)))) rfl) (av (av (ad rfl) ao (iR (by decide))) ao (cG (by decide))) hj)) rfl rfl (by rw[sC,decide_eq_true rfl]) rfl)
 have t2:∀{δ:ar},δ[3]?=some (some (.d (.int m)))->b4 (dB (d2 oEq (d2 di (aj 3) (dC (.int 5))) (dC (.int 2)))) δ μ=R.ret (false,μ):=λ{δ} h=>dD (bQ (av (x:=.int (m % 5)) (av (x:=.int m) (ad (by show(δ.map (v1 0 μ))[3]?=_;rw[Φ,h];rfl)) ao (cG (by decide))) ao (by rw[sC,decide_eq_false h2])))
 have t3:∀{δ:ar},δ[3]?=some (some (.d (.int m)))->b4 (dB (d2 oEq (d2 di (aj 3) (dC (.int 5))) (dC (.int 3)))) δ μ=R.ret (decide (m % 5=3),μ):=λ{δ} h=>dD (bQ (av (x:=.int (m % 5)) (av (x:=.int m) (ad (by show(δ.map (v1 0 μ))[3]?=_;rw[Φ,h];rfl)) ao (cG (by decide))) ao (by rw[sC])))
 by_cases h3:m % 5=3/\(gF E n).isSome=true
 ·obtain⟨e,hg⟩:=V1.mp h3.2
  have set:=set_ok (kR E n)
  have hk':(μ.set q (.dct (kvs fT (kR E n))))[k]?=some (dkO c a b):=by rw[Y8 (λz=>kq z.symm)];exact hk
  have hc':(μ.set q (.dct (kvs fT (kR E n))))[c]?=some (.dct (kvs fC E)):=by rw[Y8 (λz=>cq z.symm)];exact hc
  refine⟨kR E n,_,ij ?_,λe he=>hE e (Y5.mp he).1,Y9 (List.length_filter_le _ _) (Nat.le_succ _),set.1,set.2.1,set.2.2⟩
  unfold dn
  refine aO (bO (row0 rfl)) ?_
  refine aO (bJ (b:=false) (t1 rfl) rfl) ?_
  refine aO (bJ (b:=false) (t2 rfl) rfl) ?_
  refine kN (bJ (b:=true) (μ1:=μ) (Aw (t3 rfl) (by rw[decide_eq_true h3.1,if_pos rfl];exact(nU (n:=false) (aL rfl) (aL rfl) rfl hq).trans (by rw[lv,hg];rfl))) ?_)
  rw[if_pos rfl]
  refine aO (kO (wu (aL rfl) hq (aL rfl) rfl (by rw[mq,hg];rfl))) ?_
  rw[vU]
  exact fq (qX (As (k:=k) (aL rfl) hk' (by kernel_rfl) (aT (aW (d:=tx ([100,114,111,112,32]++n)) (av (ao (d:=tx [100,114,111,112,32])) (ad rfl) (adT (by show 5+_<=_;omega)))) b9) (yv hk' hc' hn hg)) (aW ao) rfl rfl okok rfl)
 ·refine⟨E,μ,ij ?_,hE,by omega,hc,hq,λ_ _ _=>rfl⟩
  unfold dn
  refine aO (bO (row0 rfl)) ?_
  refine aO (bJ (b:=false) (t1 rfl) rfl) ?_
  refine aO (bJ (b:=false) (t2 rfl) rfl) ?_
  refine aO (bJ (b:=false) (μ1:=μ) (Aw (t3 rfl) ?_) rfl) (fq (aW ao))
  by_cases h4:m % 5=3
  ·rw[decide_eq_true h4,if_pos rfl]
   refine(nU (n:=false) (aL rfl) (aL rfl) rfl hq).trans ?_
   rw[lv]
   cases hg:(gF E n).isSome with
   | true=>exact absurd ⟨h4,hg⟩ h3
   | false=>rfl
  ·rw[decide_eq_false h4,if_neg Z0]
end
theorem lstS{fa:ar->Sto->R (List Val×Sto)}{δ:ar}{μ μ':Sto}{xs:List Val}(h:fa δ μ=R.ret (xs,μ'))(hz:aN xs.length=true):yx fa δ μ=R.ret (.h μ'.length,μ'++[.lst xs]):=by
 unfold yx
 rw[h,bf,if_pos hz]
theorem notS{fa:ar->Sto->R (Bool×Sto)}{δ:ar}{μ μ':Sto}{b:Bool}(h:fa δ μ=R.ret (b,μ')):yw fa δ μ=R.ret (!b,μ'):=by
 unfold yw
 rw[h,bf]
theorem sH{ns:List (List Nat)}(h4:ns.length=4){i:Int}(h0:0<=i)(h1:i<4):∃w∈ns,oIx (.list (ns.map tx)) (.int i)=some (tx w):=by
 obtain⟨k,rfl⟩:∃k:Nat,i=(k:Int):=⟨i.toNat,by omega⟩
 have hk:k<ns.length:=by omega
 exact⟨ns[k],List.getElem_mem hk,iA (by rw[Φ,Z7 hk];rfl)⟩
structure St(μ:Sto)(E0 E1:List En):Prop where
 h0:μ[0]?=some (dkO 1 2 3)
 h1:μ[1]?=some (.dct (kvs fC E0))
 h4:μ[4]?=some (dkO 5 6 7)
 h5:μ[5]?=some (.dct (kvs fC E1))
 h8:μ[8]?=some (.lst [.h 0,.h 4])
 h9:μ[9]?=some (.dct (kvs fT E0))
 h10:μ[10]?=some (.dct (kvs fT E1))
 h11:μ[11]?=some (.lst [.h 9,.h 10])
 ok0:∀e∈E0,En.ok e
 ok1:∀e∈E1,En.ok e
section
variable{μ:Sto}{E0 E1:List En}
theorem Cj{E:List En}(hE:∀e∈E,En.ok e)(n:List Nat):(nW E n).canLay0=true/\(nW E n).depth<=60:=by
 unfold nW
 cases hg:gF E n with
 | none=>exact⟨rfl,by decide⟩
 | some e =>
  have:PyData.strOk (S (csT e.cs))=true:=zm λc hc=>by have:=AJ (hE e (v7 hg)).1 c hc;omega
  exact⟨by simp [fT,V8,this],by simp [fT,PyData.depth]⟩
theorem AT{k c a b q N:Nat}{E:List En}{i j:Int}{w:List Nat}{NS:D}{s x:Int}(hk:μ[k]?=some (dkO c a b))(hc:μ[c]?=some (.dct (kvs fC E)))(hq:μ[q]?=some (.dct (kvs fT E)))(hD:μ[8]?=some (.lst [.h 0,.h 4]))(hK:μ[11]?=some (.lst [.h 9,.h 10]))(hE:∀e∈E,En.ok e)(iD:L2.atI [Val.h 0,.h 4] i=some (.h k))(iK:L2.atI [Val.h 9,.h 10] i=some (.h q))(hi:(s+x) % 2=i)(hj:(s+x) / 2 % 4=j)(hw:Hd w)(hx:oIx NS (.int j)=some (tx w))(y5 y6 y7:Option Val) :
  cS N [some (.h 8),some (.h 11),some (.d NS),some (.d (.int s)),some (.d (.int x)),y5,y6,y7] μ=R.ret (.nx [some (.h 8),some (.h 11),some (.d NS),some (.d (.int s)),some (.d (.int x)),some (.d (.int i)),some (.d (tx w)),some (.d (nW E w))] μ):=by
 obtain⟨l1,l2⟩:=Cj hE w
 have sh:=yu hk hc hw hE
 have ixK:∀{δ:ar},δ[1]?=some (some (.h 11))->δ[5]?=some (some (.d (.int i)))->sIx (aY 1) (aY 5) δ μ=R.ret (.h q,μ):=λh1 h2=>wp (aL h1) (aL h2) hK iK
 unfold cS
 refine aO (bO (aW (d:=.int i) (av (av (ad rfl) (ad rfl) kr) ao (by rw[cG (by decide),hi])))) ?_
 refine aO (bO (aW (d:=tx w) (av (x:=NS) (y:=.int j) (ad rfl) (av (av (av (ad rfl) (ad rfl) kr) ao (iR (by decide))) ao (by rw[cG (by decide),hj])) hx))) ?_
 refine aO (bO (aW (d:=.list [.bool true]) (gr (ae ao ak) rfl))) ?_
 refine aO (δ':=[some (.h 8),some (.h 11),some (.d NS),some (.d (.int s)),some (.d (.int x)),some (.d (.int i)),some (.d (tx w)),some (.d (nW E w))]) (μ':=μ) (bJ (b:=(gF E w).isSome) (μ1:=μ) ((nU (n:=false) (aL rfl) (ixK rfl rfl) rfl hq).trans (by rw[lv];rfl)) ?_) ?_
 ·unfold nW
  cases hg:gF E w with
  | none=>rfl
  | some e =>
   rw[show(some e).isSome=true from rfl,if_pos rfl]
   exact bO ((wv (ixK rfl rfl) (aL rfl) rfl hq (by rw[mq,hg];rfl)).trans rfl)
 ·exact bJ (b:=false) (Av (qX (kP (aT (wp (aL rfl) (aL rfl) hD iD) (aT (aL rfl) b9)) sh) (aL rfl) rfl rfl (zy l1 l2) rfl)) rfl
theorem tI(I:St μ E0 E1){ns:List (List Nat)}(h4:ns.length=4)(hn:∀w∈ns,Hd w)(s:Int)(N:Nat):∀(q:List D) (y4 y5 y6 y7:Option Val),(∀d∈q,∃x:Int,d=.int x)->∃z4 z5 z6 z7:Option Val,qT (agN 4) (cS N) q [some (.h 8),some (.h 11),some (.d (.list (ns.map tx))),some (.d (.int s)),y4,y5,y6,y7] μ=R.ret (.nx [some (.h 8),some (.h 11),some (.d (.list (ns.map tx))),some (.d (.int s)),z4,z5,z6,z7] μ)
 | [],y4,y5,y6,y7,_=>⟨y4,y5,y6,y7,rfl⟩
 | d::q,y4,y5,y6,y7,hq=>by
  obtain⟨x,rfl⟩:=hq d υ
  obtain⟨w,hw,hx⟩:=sH h4 (i:=(s+x) / 2 % 4) (by omega) (by omega)
  have step:∃z7,cS N [some (.h 8),some (.h 11),some (.d (.list (ns.map tx))),some (.d (.int s)),some (.d (.int x)),y5,y6,y7] μ=R.ret (.nx [some (.h 8),some (.h 11),some (.d (.list (ns.map tx))),some (.d (.int s)),some (.d (.int x)),some (.d (.int ((s+x) % 2))),some (.d (tx w)),z7] μ):=by
   have:(s+x) % 2=0\/(s+x) % 2=1:=by omega
   rcases this with h | h
   ·rw[h]
    exact⟨_,AT I.h0 I.h1 I.h9 I.h8 I.h11 I.ok0 rfl rfl h rfl (hn w hw) hx y5 y6 y7⟩
   ·rw[h]
    exact⟨_,AT I.h4 I.h5 I.h10 I.h8 I.h11 I.ok1 rfl rfl h rfl (hn w hw) hx y5 y6 y7⟩
  obtain⟨z7,step⟩:=step
  obtain⟨u4,u5,u6,u7,hL⟩:=tI I h4 hn s N q (some (.d (.int x))) (some (.d (.int ((s+x) % 2)))) (some (.d (tx w))) z7 (λd hd=>hq d (ρ _ hd))
  refine⟨u4,u5,u6,u7,?_⟩
  show(cS N [some (.h 8),some (.h 11),some (.d (.list (ns.map tx))),some (.d (.int s)),some (.d (.int x)),y5,y6,y7] μ).thn _=_
  rw[step]
  exact hL
theorem AU(I:St μ E0 E1){ns:List (List Nat)}(h4:ns.length=4)(hn:∀w∈ns,Hd w)(s:Int):dy [.h 8,.h 11,.d (.list (ns.map tx)),.d (.int s)] μ=R.ret (.d (.bool true),μ):=by
 obtain⟨z4,z5,z6,z7,hL⟩:=tI I h4 hn s μ.length (fX 0 8) none none none none (λd hd=>by
  obtain⟨k,rfl,_⟩:=kA hd
  exact⟨k,rfl⟩)
 refine ij ?_
 unfold ia
 exact aO (Au (ds:=fX 0 8) (mt (ae ao ak) rfl) hL) (fq (aW ao))
theorem A3(I:St μ E0 E1)(l0:E0.length<400)(l1:E1.length<400){ns:List (List Nat)}(h4:ns.length=4)(hn:∀w∈ns,Hd w){SC:D}{c1:Int}(hc1:bU [SC,.int 1]=M.ret (.int c1))(N:Nat)(j:Nat)(hj:j<1000)(m:Int)(y6 y7:Option Val):∃(μ':Sto) (E0' E1':List En) (z6 z7:Option Val),iw N [some (.d SC),some (.d (.list (ns.map tx))),some (.h 8),some (.h 11),some (.d (.int (j:Int))),some (.d (.int m)),y6,y7] μ=R.ret (.nx [some (.d SC),some (.d (.list (ns.map tx))),some (.h 8),some (.h 11),some (.d (.int (j:Int))),some (.d (.int m)),z6,z7] μ')/\St μ' E0' E1'/\E0'.length<=E0.length+1/\E1'.length<=E1.length+1:=by
 obtain⟨w,hw,hx⟩:=sH h4 (i:=m / 2 % 4) (by omega) (by omega)
 have fin:∀{k q:Nat} {i:Int} {μ':Sto} {E0' E1':List En},m % 2=i->L2.atI [Val.h 0,.h 4] i=some (.h k)->L2.atI [Val.h 9,.h 10] i=some (.h q)->cU [.h k,.h q,.d (tx w),.d (.int (m / 8))] μ=R.ret (.d (.bool true),μ')->St μ' E0' E1'->iw N [some (.d SC),some (.d (.list (ns.map tx))),some (.h 8),some (.h 11),some (.d (.int (j:Int))),some (.d (.int m)),y6,y7] μ=R.ret (.nx [some (.d SC),some (.d (.list (ns.map tx))),some (.h 8),some (.h 11),some (.d (.int (j:Int))),some (.d (.int m)),some (.d (.int i)),some (.d (tx w))] μ'):=λ{k q i μ' E0' E1'} hi iD iK hd I'=>by
  have ha:=AU I' h4 hn (c1+(j:Int)*m)
  generalize Y0 (ns.map tx)=NS at hx ha
  unfold iw
  refine aO (bO (aW (d:=.int i) (av (ad rfl) ao (by rw[cG (by decide),hi])))) ?_
  refine aO (bO (aW (d:=tx w) (av (x:=NS) (y:=.int (m / 2 % 4)) (ad rfl) (av (av (ad rfl) ao (iR (by decide))) ao (cG (by decide))) hx))) ?_
  refine aO (bJ (b:=false) (notS (Av (kP (aT (wp (aL rfl) (aL rfl) I.h8 iD) (aT (wp (aL rfl) (aL rfl) I.h11 iK) (aT (aL rfl) (aT (aW (d:=.int (m / 8)) (av (ad rfl) ao (iR (by decide)))) b9)))) hd))) rfl) ?_
  exact bJ (b:=false) (notS (Av (kP (aT (aL rfl) (aT (aL rfl) (aT (aL rfl) (aT (aW (d:=.int (c1+(j:Int)*m)) (av (aQ (ds:=[SC,.int 1]) (ae (ad rfl) (ae ao ak)) hc1) (av (ad rfl) (ad rfl) (vR (AR (by omega) (by omega)))) kr)) b9)))) ha))) rfl
 have:m % 2=0\/m % 2=1:=by omega
 rcases this with h | h
 ·obtain⟨E',μ',hd,g1,g2,g3,g4,g5⟩:=wy I.h0 I.h1 I.h9 (by decide) (by decide) (by decide) (hn w hw) I.ok0 (by omega) (m / 8)
  have I':St μ' E' E1:=⟨(g5 0 (by decide) (by decide)).trans I.h0,g3,(g5 4 (by decide) (by decide)).trans I.h4,(g5 5 (by decide) (by decide)).trans I.h5,(g5 8 (by decide) (by decide)).trans I.h8,g4,(g5 10 (by decide) (by decide)).trans I.h10,(g5 11 (by decide) (by decide)).trans I.h11,g1,I.ok1⟩
  exact⟨μ',E',E1,_,_,fin h rfl rfl hd I',I',g2,by omega⟩
 ·obtain⟨E',μ',hd,g1,g2,g3,g4,g5⟩:=wy I.h4 I.h5 I.h10 (by decide) (by decide) (by decide) (hn w hw) I.ok1 (by omega) (m / 8)
  have I':St μ' E0 E':=⟨(g5 0 (by decide) (by decide)).trans I.h0,(g5 1 (by decide) (by decide)).trans I.h1,(g5 4 (by decide) (by decide)).trans I.h4,g3,(g5 8 (by decide) (by decide)).trans I.h8,(g5 9 (by decide) (by decide)).trans I.h9,g4,(g5 11 (by decide) (by decide)).trans I.h11,I.ok0,g1⟩
  exact⟨μ',E0,E',_,_,fin h rfl rfl hd I',I',by omega,g2⟩
end
theorem turns{ns:List (List Nat)}(h4:ns.length=4)(hn:∀w∈ns,Hd w){SC:D}{c1:Int}(hc1:bU [SC,.int 1]=M.ret (.int c1))(N:Nat):∀(q:List Int) (j:Nat) (μ:Sto) (E0 E1:List En) (y4 y5 y6 y7:Option Val),St μ E0 E1->E0.length+q.length<300->E1.length+q.length<300->j+q.length<500->∃(μ':Sto) (E0' E1':List En) (z4 z5 z6 z7:Option Val),qT (AV 2 (oG (agN 4) (oG (agN 5) AW))) (iw N) (ej j (q.map Θ)) [some (.d SC),some (.d (.list (ns.map tx))),some (.h 8),some (.h 11),y4,y5,y6,y7] μ=R.ret (.nx [some (.d SC),some (.d (.list (ns.map tx))),some (.h 8),some (.h 11),z4,z5,z6,z7] μ')/\St μ' E0' E1'
 | [],j,μ,E0,E1,y4,y5,y6,y7,I,_,_,_=>⟨μ,E0,E1,y4,y5,y6,y7,rfl,I⟩
 | m::q,j,μ,E0,E1,y4,y5,y6,y7,I,l0,l1,lj=>by
  rw[ω] at l0 l1 lj
  obtain⟨μ',E0',E1',z6,z7,hs,I',k0,k1⟩:=A3 I (by omega) (by omega) h4 hn hc1 N j (by omega) m y6 y7
  obtain⟨μ2,F0,F1,u4,u5,u6,u7,hL,I2⟩:=turns h4 hn hc1 N q (j+1) μ' E0' E1' (some (.d (.int (j:Int)))) (some (.d (.int m))) z6 z7 I' (by omega) (by omega) (by omega)
  refine⟨μ2,F0,F1,u4,u5,u6,u7,?_,I2⟩
  show(iw N [some (.d SC),some (.d (.list (ns.map tx))),some (.h 8),some (.h 11),some (.d (.int (j:Int))),some (.d (.int m)),y6,y7] μ).thn _=_
  rw[hs]
  exact hL
theorem Co(ns:List Int)(lo hi:Option Int):jT (ns.map Θ) lo hi=(jT ns lo hi).map Θ:=by
 unfold jT
 rw[ι,List.map_take,List.map_drop]
theorem zI(ns:List Int)(hl:ns.length<=63):wK [.list (ns.map Θ)]=M.ret (.bool true):=by
 obtain⟨c0,hc0⟩:=oz ns 0 (by decide)
 obtain⟨c1,hc1⟩:=oz ns 1 (by decide)
 obtain⟨ws,hn,h4,hnm⟩:=zC c0
 have hcut:zw (some 2) (some 18) (.list (ns.map Θ))=some (.list ((jT ns (some 2) (some 18)).map Θ)):=by
  show some (Y0 (jT (ns.map Θ) (some 2) (some 18)))=_
  rw[Co]
 have hcl:=wB ns (some 2) (some 18)
 generalize jT ns (some 2) (some 18)=cells at hcut hcl
 generalize Y0 (ns.map Θ)=SC at hc0 hc1 hcut ⊢
 have ini0:cm [.h 0] [.ins "Desk" []]=R.ret (.d .none,[dkO 1 2 3,.dct [],.dct oJ,.lst []]):=vY []
 have ini1:cm [.h 4] ([dkO 1 2 3,.dct [],.dct oJ,.lst []]++[.ins "Desk" []])=R.ret (.d .none,[dkO 1 2 3,.dct [],.dct oJ,.lst []]++[dkO 5 6 7,.dct [],.dct oJ,.lst []]):=vY [dkO 1 2 3,.dct [],.dct oJ,.lst []]
 have I0:St ([dkO 1 2 3,.dct [],.dct oJ,.lst []]++[dkO 5 6 7,.dct [],.dct oJ,.lst []]++[.lst [.h 0,.h 4]]++[.dct []]++[.dct []]++[.lst [.h 9,.h 10]]) [] []:=⟨rfl,rfl,rfl,rfl,rfl,rfl,rfl,rfl,(λe h=>nomatch h),(λe h=>nomatch h)⟩
 obtain⟨μ2,F0,F1,u4,u5,u6,u7,hL,I2⟩:=turns h4 hn hc1 0 cells 0 _ [] [] none none none none I0 (by show 0+_<_;omega) (by show 0+_<_;omega) (by omega)
 have ha:=AU I2 h4 hn 0
 have main:rB [.d SC] []=R.ret (.d (.bool true),μ2):=by
  refine ij ?_
  unfold wa
  generalize Y0 (ws.map tx)=NS at hnm hL ha
  refine aO (bO (aW (d:=NS) (aQ (ds:=[.int c0]) (ae (aQ (ds:=[SC,.int 0]) (ae (ad rfl) (ae ao ak)) hc0) ak) hnm))) ?_
  refine aO (bO (lstS (aT (es_mk b9 ini0) (aT (es_mk b9 ini1) b9)) rfl)) ?_
  refine aO (bO (lstS (aT (v:=.h 9) rfl (aT (v:=.h 10) rfl b9)) rfl)) ?_
  refine aO (Au (ds:=ej 0 (cells.map Θ)) (Al (ae (Ca (x:=SC) (ad rfl) (qW ao) (qW ao) hcut) ak)) hL) ?_
  exact fq (kP (aT (aL rfl) (aT (aL rfl) (aT (aL rfl) (aT (aW ao) b9)))) ha)
 show asD rB [SC]=_
 unfold asD
 show(match rB [.d SC] [] with | some (.ok (.d x,_))=>M.ret x | _=>none)=_
 rw[main]
 rfl
open PyProof.Rows
noncomputable def top(i:Nat):Stmt:=PySem.Challenge.pw_cuetimer_k61_cues_at_the_desk.main.body.getD i (.Pass ⟨0,0,0,0⟩)
noncomputable def mth(s:Stmt)(i:Nat):Stmt:=match s with
 | .ClassDef _ _ _ b _ _ _ _ _ _ _=>b.getD i (.Pass ⟨0,0,0,0⟩)
 | s=>s
theorem jy{P:Program}{w:World}{K:ε}{a:Addr}{t0 u0 t1 u1 t2 u2 t3 u3 t4 u4 t5 u5 t6 u6:Tok}{ep:Nat}(hl:W3 a K=some { cls:=.type "dict",data:=.dict #[⟨Z3 w.params "sign",.str "sign" t0,.int 60 u0⟩,⟨Z3 w.params "least",.str "least" t1,.int 1000 u1⟩,⟨Z3 w.params "most",.str "most" t2,.int 7000 u2⟩,⟨Z3 w.params "apart",.str "apart" t3,.int 80 u3⟩,⟨Z3 w.params "shy",.str "shy" t4,.int 200 u4⟩,⟨Z3 w.params "begin",.str "begin" t5,.int 2 u5⟩,⟨Z3 w.params "end",.str "end" t6,.int 1 u6⟩] ep })(hd:(a==sysModules)=false):KDD P w K a cg:=DL.sN (l:=[("sign",t0,60,u0),("least",t1,1000,u1),("most",t2,7000,u2),("apart",t3,80,u3),("shy",t4,200,u4),("begin",t5,2,u5),("end",t6,1,u6)]) hl hd (show(["sign", "least", "most", "apart", "shy", "begin", "end"]:List Str).Nodup from by decide +kernel) (Nat.le_of_ble_eq_true rfl) rfl
theorem oX{P:Program}{w:World}{K:ε}{a:Addr}{t0 u0 t1 u1 t2 u2 t3 u3 t4 u4 t5 u5 t6 u6 t7 u7 t8 u8 t9 u9 t10 u10 t11 u11 t12 u12:Tok}{ep:Nat}(hl:W3 a K=some { cls:=.type "dict",data:=.dict #[⟨Z3 w.params "set",.str "set" t0,.int 3 u0⟩,⟨Z3 w.params "cut",.str "cut" t1,.int 2 u1⟩,⟨Z3 w.params "uncut",.str "uncut" t2,.int 2 u2⟩,⟨Z3 w.params "cues",.str "cues" t3,.int 2 u3⟩,⟨Z3 w.params "drop",.str "drop" t4,.int 2 u4⟩,⟨Z3 w.params "show",.str "show" t5,.int 2 u5⟩,⟨Z3 w.params "broken",.str "broken" t6,.int 2 u6⟩,⟨Z3 w.params "price",.str "price" t7,.int 2 u7⟩,⟨Z3 w.params "time",.str "time" t8,.int 3 u8⟩,⟨Z3 w.params "both",.str "both" t9,.int 6 u9⟩,⟨Z3 w.params "rows",.str "rows" t10,.int 5 u10⟩,⟨Z3 w.params "part",.str "part" t11,.int 3 u11⟩,⟨Z3 w.params "join",.str "join" t12,.int 3 u12⟩] ep })(hd:(a==sysModules)=false):KDD P w K a cH:=DL.sN (l:=[("set",t0,3,u0),("cut",t1,2,u1),("uncut",t2,2,u2),("cues",t3,2,u3),("drop",t4,2,u4),("show",t5,2,u5),("broken",t6,2,u6),("price",t7,2,u7),("time",t8,3,u8),("both",t9,6,u9),("rows",t10,5,u10),("part",t11,3,u11),("join",t12,3,u12)]) hl hd (show(["set", "cut", "uncut", "cues", "drop", "show", "broken", "price", "time", "both", "rows", "part", "join"]:List Str).Nodup from by decide +kernel) (Nat.le_of_ble_eq_true rfl) rfl
local macro_rules | `(tactic| walk_at "L")=>`(tactic| first | exact Or.inl rfl | exact Or.inr rfl)
local macro_rules | `(tactic| walk_at "S")=>`(tactic| exact⟨rfl,rfl,rfl,by decide +kernel,rfl,by decide +kernel,by decide +kernel⟩)
local macro_rules | `(tactic| walk_at "B1")=>`(tactic| exact λ_ _ _ _ _ _ us hl=>match us,hl with | [_],_=>rfl)
local macro_rules | `(tactic| walk_at "B2")=>`(tactic| exact λ_ _ _ _ _ _ us hl=>match us,hl with | [_,_],_=>rfl)
local macro_rules | `(tactic| walk_at "B3")=>`(tactic| exact λ_ _ _ _ _ _ us hl=>match us,hl with | [_,_,_],_=>rfl)
local macro_rules | `(tactic| walk_at "B4")=>`(tactic| exact λ_ _ _ _ _ _ us hl=>match us,hl with | [_,_,_,_],_=>rfl)
structure ClsT_Desk(K:ε)(C:Addr):Prop where
 nn:η K mainGlobals "Desk" = some (some (.ref C))
 cl:Cls K C
 cues_:θ K (.ref C) "cues" = some none
 clock_:θ K (.ref C) "clock" = some none
 settings_:θ K (.ref C) "settings" = some none
 cuts_:θ K (.ref C) "cuts" = some none
def xW(K:ε)(C:Addr)(m:Str)(f:Addr):Prop:=θ K (.ref C) m=some (some (.ref f))/\X3 K (.ref f)=true
section
variable{P:Program}{w:World}{K:ε}{mg:Str->Option Value}{base:Heap}
theorem oN:FnScope ["parts", "sign", "figures", "hours", "minutes", "seconds", "last"] ["parts", "sign", "figures"] (af (top 38)):=by walk_at "S"
theorem ip{f:Addr}{fd:FuncData}(F0:Fun K "show_parts" "show_parts" (top 38) f fd)(hm:mg "show_parts" = some (.ref f))(z_str:mg "str" = none):Def P w K mg base 1 "show_parts" 3 eC:=by
 have S:=oN
 refine b8 (N:=["parts", "sign", "figures", "hours", "minutes", "seconds", "last"]) (ps:=["parts", "sign", "figures"]) (k:=0) (g:=fw) F0 S hm (F0.binds (by walk_at "B3")) λcdv A outer s H E hr=>?_
 unfold fw
 exact(au (bz (i:=3) S.nd rfl (by walk_at "L") (bX PySem.F.slot_str_zfill PySem.F.type_str_zfill d5 (bY d6 rfl z_str PyProof.Rows.boot_str (aa (aP (ac (pv 0)) ah (λ_ _=>rfl)) ag)) (aa ah ag)))
  (au (bz (i:=4) S.nd rfl (by walk_at "L") (bX PySem.F.slot_str_zfill PySem.F.type_str_zfill d5 (bY d6 rfl z_str PyProof.Rows.boot_str (aa (aP (ac (pv 0)) ah (λ_ _=>rfl)) ag)) (aa ah ag)))
  (au (bz (i:=5) S.nd rfl (by walk_at "L") (bX PySem.F.slot_str_zfill PySem.F.type_str_zfill d5 (bY d6 rfl z_str PyProof.Rows.boot_str (aa (aP (ac (pv 0)) ah (λ_ _=>rfl)) ag)) (aa ah ag)))
  (au (bz (i:=6) S.nd rfl (by walk_at "L") (bX PySem.F.slot_str_zfill PySem.F.type_str_zfill d5 (bY d6 rfl z_str PyProof.Rows.boot_str (aa (aP (ac (pv 0)) ah (λ_ _=>rfl)) ag)) (aa (ac (pv 2)) ag)))
  (aC (bu (xm (PDJ.cons (sv (ac (pv 3))) (PDJ.cons aw (PDJ.cons (sv (ac (pv 4))) (PDJ.cons aw (PDJ.cons (sv (ac (pv 5))) (PDJ.cons (sv (ac (pv 1))) (PDJ.cons (sv (ac (pv 6))) PDJ.nil))))))))))))))
theorem mM:FnScope ["moment", "second", "minute"] ["moment"] (af (top 32)):=by walk_at "S"
theorem gx{f:Addr}{fd:FuncData}(F0:Fun K "show_moment" "show_moment" (top 32) f fd)(hm:mg "show_moment" = some (.ref f))(ip:Def P w K mg base 1 "show_parts" 3 eC):Def P w K mg base 2 "show_moment" 1 dM:=by
 have S:=mM
 refine b8 (N:=["moment", "second", "minute"]) (ps:=["moment"]) (k:=1) (g:=eS) F0 S hm (F0.binds (by walk_at "B1")) λcdv A outer s H E hr=>?_
 unfold eS
 exact(au (bz (i:=1) S.nd rfl (by walk_at "L") (aH en (ac (pv 0)) ah))
  (au (bz (i:=2) S.nd rfl (by walk_at "L") (aH en (ac (pv 1)) ah))
  (aC (bu (bd ip (hr.mono (by decide)) rfl rfl (aa (qE (aa (aH en (ac (pv 2)) ah) (aa (aH bw (ac (pv 2)) ah) (aa (aH bw (ac (pv 1)) ah) (aa (aH bw (ac (pv 0)) ah) ag))))) (aa aw (aa ah ag))))))))
theorem jv:FnScope ["self", "moment"] ["self", "moment"] (af (mth (top 45) 0)):=by walk_at "S"
theorem cQ{f:Addr}{fd:FuncData}(F0:Fun K "show" "Thousandths.show" (mth (top 45) 0) f fd){C_Thousandths:Addr}(m_Thousandths:mg "Thousandths" = some (.ref C_Thousandths))(nn_Thousandths:η K mainGlobals "Thousandths" = some (some (.ref C_Thousandths)))(pg_Thousandths:W6 K C_Thousandths Str.empty=true)(hd_Thousandths:X8 K C_Thousandths=true)(po_Thousandths:V6 K C_Thousandths=true)(sa_Thousandths:θ K (.ref C_Thousandths) "__setattr__" = some (some (.builtin "object.__setattr__")))(gx:Def P w K mg base 2 "show_moment" 1 dM)(hat:θ K (.ref C_Thousandths) "show" = some (some (.ref f)))(hfn:X3 K (.ref f)=true):DefM P w K mg base 3 "Thousandths" "show" 2 bP:=by
 have S:=jv
 refine⟨C_Thousandths,f,fd,["self", "moment"],nn_Thousandths,⟨pg_Thousandths,hd_Thousandths,po_Thousandths,sa_Thousandths⟩,⟨hat,hfn,F0.kp⟩,Ae (N:=["self", "moment"]) (ps:=["self", "moment"]) (k:=2) (g:=cO) F0 S (λcdv A outer s H E hr=>?_),(F0.binds (by walk_at "B2"))⟩
 unfold cO
 exact(aC (bu (bd gx (hr.mono (by decide)) rfl rfl (aa (ac (pv 1)) ag))))
theorem mQ:FnScope ["text"] ["text"] (af (top 21)):=by walk_at "S"
theorem dJ{f:Addr}{fd:FuncData}(F0:Fun K "are_figures" "are_figures" (top 21) f fd)(hm:mg "are_figures" = some (.ref f)){t_FIGURES:Tok}(m_FIGURES:mg "FIGURES" = some (.str "0123456789" t_FIGURES))(z_all:mg "all" = none):Def P w K mg base 1 "are_figures" 1 cx:=by
 have S:=mQ
 refine b8 (N:=["text"]) (ps:=["text"]) (k:=0) (g:=gp) F0 S hm (F0.binds (by walk_at "B1")) λcdv A outer s H E hr=>?_
 unfold gp
 exact(aC (bu (dU (eL (jP hr.units) (ac (pv 0)) aw (aZ _)) (eK (bF (jt rfl) rfl z_all PyProof.Rows.boot_all (aa (iO (fr:=[]) (tn:=["sign"]) rfl rfl (by decide +kernel) (by rfl) (λ_ _ h=>h) (kE (by rfl)) nP (by decide +kernel) (jf (ac (pv 0))) (λC s3 H3 fp=>(bS (bW (i:=0) (show(["sign"]:List Str).Nodup from by decide +kernel) rfl (by walk_at "L")))) (λC s3 H3 fp=>iN) (λC s3 H3 fp=>(eL Cl (ac (pv 0)) (zi rfl m_FIGURES) rfl))) ag))))))
theorem mP:FnScope ["text", "figures"] ["text", "figures"] (af (top 42)):=by walk_at "S"
theorem cv{f:Addr}{fd:FuncData}(F0:Fun K "has_figures" "has_figures" (top 42) f fd)(hm:mg "has_figures" = some (.ref f))(dJ:Def P w K mg base 1 "are_figures" 1 cx)(z_len:mg "len" = none):Def P w K mg base 2 "has_figures" 2 bR:=by
 have S:=mP
 refine b8 (N:=["text", "figures"]) (ps:=["text", "figures"]) (k:=1) (g:=gn) F0 S hm (F0.binds (by walk_at "B2")) λcdv A outer s H E hr=>?_
 unfold gn
 exact(aC (bu (dU (eL (bI hr.units) (bF cA rfl z_len PySem.boot_len (aa (ac (pv 0)) ag)) (ac (pv 1)) (aZ _)) (eK (bd dJ (hr.mono (by decide)) rfl rfl (aa (ac (pv 0)) ag))))))
theorem qr:FnScope ["text"] ["text"] (af (top 40)):=by walk_at "S"
theorem i8{f:Addr}{fd:FuncData}(F0:Fun K "are_hours" "are_hours" (top 40) f fd)(hm:mg "are_hours" = some (.ref f))(cv:Def P w K mg base 2 "has_figures" 2 bR)(dJ:Def P w K mg base 1 "are_figures" 1 cx)(z_len:mg "len" = none):Def P w K mg base 3 "are_hours" 1 ff:=by
 have S:=qr
 refine b8 (N:=["text"]) (ps:=["text"]) (k:=2) (g:=gg) F0 S hm (F0.binds (by walk_at "B1")) λcdv A outer s H E hr=>?_
 unfold gg
 exact(au (dl (cL (bd cv (hr.mono (by decide)) rfl rfl (aa (ac (pv 0)) (aa ah ag)))) (aC (bu jE)) ce)
  (aC (bu (dU (iP el el ah (bF cA rfl z_len PySem.boot_len (aa (ac (pv 0)) ag)) ah) (dU (bd dJ (hr.mono (by decide)) rfl rfl (aa (ac (pv 0)) ag)) (eK (eL (jP hr.units) (aP (ac (pv 0)) ah (λ_ _=>rfl)) aw (aZ _))))))))
theorem lg:FnScope ["text"] ["text"] (af (top 41)):=by walk_at "S"
theorem dQ{f:Addr}{fd:FuncData}(F0:Fun K "are_sixtieths" "are_sixtieths" (top 41) f fd)(hm:mg "are_sixtieths" = some (.ref f))(cv:Def P w K mg base 2 "has_figures" 2 bR)(z_int:mg "int" = none):Def P w K mg base 3 "are_sixtieths" 1 cb:=by
 have S:=lg
 refine b8 (N:=["text"]) (ps:=["text"]) (k:=2) (g:=fm) F0 S hm (F0.binds (by walk_at "B1")) λcdv A outer s H E hr=>?_
 unfold fm
 exact(aC (bu (dU (bd cv (hr.mono (by decide)) rfl rfl (aa (ac (pv 0)) (aa ah ag))) (eK (eL n5 (bY eO rfl z_int PyProof.Rows.boot_int (aa (ac (pv 0)) ag)) ah (aZ _))))))
theorem oO:FnScope ["text", "sign", "figures", "hours", "minutes", "seconds"] ["text", "sign", "figures"] (af (top 39)):=by walk_at "S"
theorem iq{f:Addr}{fd:FuncData}(F0:Fun K "read_parts" "read_parts" (top 39) f fd)(hm:mg "read_parts" = some (.ref f)){C_NoTime:Addr}(m_NoTime:mg "NoTime" = some (.ref C_NoTime))(x_NoTime:X5 K C_NoTime [.type "ValueError",.type "Exception",.type "BaseException",.type "object"] "ValueError.__new__" = true)(i8:Def P w K mg base 3 "are_hours" 1 ff)(dQ:Def P w K mg base 3 "are_sixtieths" 1 cb)(cv:Def P w K mg base 2 "has_figures" 2 bR)(z_isinstance:mg "isinstance" = none)(z_str:mg "str" = none)(z_int:mg "int" = none):DefX P w K mg base 4 "read_parts" 3 eD:=by
 have S:=oO
 refine mz (N:=["text", "sign", "figures", "hours", "minutes", "seconds"]) (ps:=["text", "sign", "figures"]) (k:=3) (g:=fx) F0 S hm (F0.binds (by walk_at "B3")) λcdv A outer s H E hr=>?_
 unfold fx
 exact(au (dl (dz (cL (d0 rfl (kC _) rfl z_isinstance rfl z_str PyProof.Rows.boot_str (ac (pv 0))))) (aC (m8 fJ (λ_ _ h=>h) x_NoTime PySem.F.excBase_ValueError rfl rfl m_NoTime (aa aw ag))) ce)
  (au (bz (i:=3) S.nd rfl (by walk_at "L") (bX PySem.F.slot_str_partition PySem.F.type_str_partition eY (ac (pv 0)) (aa aw ag)))
  (au (bz (i:=4) S.nd rfl (by walk_at "L") (bX PySem.F.slot_str_partition PySem.F.type_str_partition eY (aP (ac (pv 3)) ah (λ_ _=>rfl)) (aa aw ag)))
  (au (bz (i:=5) S.nd rfl (by walk_at "L") (bX PySem.F.slot_str_partition PySem.F.type_str_partition eY (aP (ac (pv 4)) ah (λ_ _=>rfl)) (aa (ac (pv 1)) ag)))
  (au (dl (dz (PDW.t (qC (cL (bd i8 (hr.mono (by decide)) rfl rfl (aa (aP (ac (pv 3)) ah (λ_ _=>rfl)) ag))) (qC (cL (bd dQ (hr.mono (by decide)) rfl rfl (aa (aP (ac (pv 4)) ah (λ_ _=>rfl)) ag))) (sq (cL (bd dQ (hr.mono (by decide)) rfl rfl (aa (aP (ac (pv 5)) ah (λ_ _=>rfl)) ag)))))))) (aC (m8 fJ (λ_ _ h=>h) x_NoTime PySem.F.excBase_ValueError rfl rfl m_NoTime (aa aw ag))) ce)
  (au (dl (dz (cL (bd cv (hr.mono (by decide)) rfl rfl (aa (aP (ac (pv 5)) ah (λ_ _=>rfl)) (aa (ac (pv 2)) ag))))) (aC (m8 fJ (λ_ _ h=>h) x_NoTime PySem.F.excBase_ValueError rfl rfl m_NoTime (aa aw ag))) ce)
  (aC (bu (qE (aa (bY eO rfl z_int PyProof.Rows.boot_int (aa (aP (ac (pv 3)) ah (λ_ _=>rfl)) ag)) (aa (bY eO rfl z_int PyProof.Rows.boot_int (aa (aP (ac (pv 4)) ah (λ_ _=>rfl)) ag)) (aa (bY eO rfl z_int PyProof.Rows.boot_int (aa (aP (ac (pv 5)) ah (λ_ _=>rfl)) ag)) (aa (bY eO rfl z_int PyProof.Rows.boot_int (aa (aP (ac (pv 5)) ah (λ_ _=>rfl)) ag)) ag)))))))))))))
theorem mO:FnScope ["text", "parts", "second"] ["text"] (af (top 33)):=by walk_at "S"
theorem gy{f:Addr}{fd:FuncData}(F0:Fun K "read_moment" "read_moment" (top 33) f fd)(hm:mg "read_moment" = some (.ref f))(iq:DefX P w K mg base 4 "read_parts" 3 eD):DefX P w K mg base 5 "read_moment" 1 dN:=by
 have S:=mO
 refine mz (N:=["text", "parts", "second"]) (ps:=["text"]) (k:=4) (g:=eU) F0 S hm (F0.binds (by walk_at "B1")) λcdv A outer s H E hr=>?_
 unfold eU
 exact(au (bz (i:=1) S.nd rfl (by walk_at "L") (m9 iq (hr.mono (by decide)) cM (λ_ _ h=>h) rfl rfl (aa (ac (pv 0)) (aa aw (aa ah ag)))))
  (au (bz (i:=2) S.nd rfl (by walk_at "L") (aH ba (aH im ah (aH ba (aH im ah (aP (ac (pv 1)) ah (λ_ _=>rfl))) (aP (ac (pv 1)) ah (λ_ _=>rfl)))) (aP (ac (pv 1)) ah (λ_ _=>rfl))))
  (aC (bu (aH ba (aH im ah (ac (pv 2))) (aP (ac (pv 1)) ah (λ_ _=>rfl)))))))
theorem jw:FnScope ["self", "text"] ["self", "text"] (af (mth (top 45) 1)):=by walk_at "S"
theorem cR{f:Addr}{fd:FuncData}(F0:Fun K "read" "Thousandths.read" (mth (top 45) 1) f fd){C_Thousandths:Addr}(m_Thousandths:mg "Thousandths" = some (.ref C_Thousandths))(nn_Thousandths:η K mainGlobals "Thousandths" = some (some (.ref C_Thousandths)))(pg_Thousandths:W6 K C_Thousandths Str.empty=true)(hd_Thousandths:X8 K C_Thousandths=true)(po_Thousandths:V6 K C_Thousandths=true)(sa_Thousandths:θ K (.ref C_Thousandths) "__setattr__" = some (some (.builtin "object.__setattr__")))(gy:DefX P w K mg base 5 "read_moment" 1 dN)(hat:θ K (.ref C_Thousandths) "read" = some (some (.ref f)))(hfn:X3 K (.ref f)=true):DefMX P w K mg base 6 "Thousandths" "read" 2 bE:=by
 have S:=jw
 refine⟨C_Thousandths,f,fd,["self", "text"],nn_Thousandths,⟨pg_Thousandths,hd_Thousandths,po_Thousandths,sa_Thousandths⟩,⟨hat,hfn,F0.kp⟩,fn_ofX (N:=["self", "text"]) (ps:=["self", "text"]) (k:=5) (g:=cP) F0 S (λcdv A outer s H E hr=>?_),(F0.binds (by walk_at "B2"))⟩
 unfold cP
 exact(aC (bu (m9 gy (hr.mono (by decide)) cM (λ_ _ h=>h) rfl rfl (aa (ac (pv 1)) ag))))
theorem qw:FnScope ["self"] ["self"] (af (mth (top 113) 0)):=by walk_at "S"
theorem fB{f:Addr}{fd:FuncData}(F0:Fun K "__init__" "Desk.__init__" (mth (top 113) 0) f fd){C_Desk:Addr}(m_Desk:mg "Desk" = some (.ref C_Desk)){C_Thousandths:Addr}(m_Thousandths:mg "Thousandths" = some (.ref C_Thousandths)){a_FIRST_SETTINGS:Addr}(m_FIRST_SETTINGS:mg "FIRST_SETTINGS" = some (.ref a_FIRST_SETTINGS))(T_FIRST_SETTINGS:KDD P w K a_FIRST_SETTINGS cg)(cT:ClsT_Desk K C_Desk)(nn_Thousandths:η K mainGlobals "Thousandths" = some (some (.ref C_Thousandths)))(mk_Thousandths:W9 K C_Thousandths=true)(ii_Thousandths:θ K (.ref C_Thousandths) "__init__" = some (some (.builtin "object.__init__")))(so_Thousandths:PySem.W.subIn K (.ref C_Thousandths) (.type "object")=some true)(kc_Thousandths:ξ K (.ref C_Thousandths)=true)(z_dict:mg "dict" = none)(hM:xW K C_Desk "__init__" f)(mk:W9 K C_Desk=true)(kc:ξ K (.ref C_Desk)=true):SL.MkS P w K mg base 1 "Desk" 1 cm:=by
 have S:=qw
 refine⟨C_Desk,f,fd,["self"],cT.nn,m_Desk,⟨mk,hM.1,hM.2,kc⟩,SL.uO (N:=["self"]) (ps:=["self"]) (k:=0) (g:=gi) F0 S (λcdv A outer s H E hr=>?_),(F0.binds (by walk_at "B1"))⟩
 unfold gi
 exact(aE (jZ (aG (pv 0)) qg cT.nn cT.cl cT.cues_)
  (aE (jZ (aG (pv 0)) (aV (pd_mk0 ⟨mk_Thousandths,ii_Thousandths,so_Thousandths,kc_Thousandths⟩ nn_Thousandths rfl m_Thousandths)) cT.nn cT.cl cT.clock_)
  (aE (jZ (aG (pv 0)) (yj T_FIRST_SETTINGS rfl rfl z_dict rfl m_FIRST_SETTINGS) cT.nn cT.cl cT.settings_)
  (aF (jZ (aG (pv 0)) (A6 (kf ag)) cT.nn cT.cl cT.cuts_)))))
theorem j1:FnScope ["row", "parts", "words"] ["row"] (af (top 114)):=by walk_at "S"
theorem eP{f:Addr}{fd:FuncData}(F0:Fun K "words_and_text" "words_and_text" (top 114) f fd)(hm:mg "words_and_text" = some (.ref f))(z_isinstance:mg "isinstance" = none)(z_str:mg "str" = none):Def P w K mg base 1 "words_and_text" 1 aS:=by
 have S:=j1
 refine b8 (N:=["row", "parts", "words"]) (ps:=["row"]) (k:=0) (g:=b6) F0 S hm (F0.binds (by walk_at "B1")) λcdv A outer s H E hr=>?_
 unfold b6
 exact(au (dl (dz (cL (d0 rfl (kC _) rfl z_isinstance rfl z_str PyProof.Rows.boot_str (ac (pv 0))))) (aC ss) ce)
  (au (bz (i:=1) S.nd rfl (by walk_at "L") (bX PySem.F.slot_str_partition PySem.F.type_str_partition eY (ac (pv 0)) (aa aw ag)))
  (au (bz (i:=2) S.nd rfl (by walk_at "L") (bX PySem.F.slot_str_split PySem.F.type_str_split jr (aP (ac (pv 1)) ah (λ_ _=>rfl)) (aa aw ag)))
  (au (dl (bt (bI hr.units) (aP (ac (pv 2)) ah (λ_ _=>rfl)) aw (aZ _)) (aC (bu (qE (aa (ac (pv 2)) (aa (aP (ac (pv 1)) ah (λ_ _=>rfl)) ag))))) ce)
  (aC (bu (qE (aa (bX PySem.F.slot_str_split PySem.F.type_str_split jr (ac (pv 0)) (aa aw ag)) (aa aw ag)))))))))
theorem w8:FnScope ["words"] ["words"] (af (top 115)):=by walk_at "S"
theorem og{f:Addr}{fd:FuncData}(F0:Fun K "is_row" "is_row" (top 115) f fd)(hm:mg "is_row" = some (.ref f)){a_HOW_MANY:Addr}(m_HOW_MANY:mg "HOW_MANY" = some (.ref a_HOW_MANY))(T_HOW_MANY:KDD P w K a_HOW_MANY cH)(z_len:mg "len" = none):Def P w K mg base 1 "is_row" 1 fV:=by
 have S:=w8
 refine b8 (N:=["words"]) (ps:=["words"]) (k:=0) (g:=kH) F0 S hm (F0.binds (by walk_at "B1")) λcdv A outer s H E hr=>?_
 unfold kH
 exact(au (dl (bt (bI hr.units) (aP (ac (pv 0)) ah (λ_ _=>rfl)) aw (aZ _)) (aC (bu (pd_or (eL (bI hr.units) (vM (ac (pv 0)) (m7 ah) zd) (gm (aa aw ag)) (aZ _)) (eK (dU (eL (bI hr.units) (bF cA rfl z_len PySem.boot_len (aa (ac (pv 0)) ag)) ah (aZ _)) (eK (eL (bI hr.units) (aP (ac (pv 0)) ah (λ_ _=>rfl)) aw (aZ _)))))))) ce)
  (au (dl (bt (bI hr.units) (aP (ac (pv 0)) ah (λ_ _=>rfl)) aw (aZ _)) (aC (bu (dU (eL dop_ge (bF cA rfl z_len PySem.boot_len (aa (ac (pv 0)) ag)) ah (aZ _)) (eK (eL (bI hr.units) (aH bw (bF cA rfl z_len PySem.boot_len (aa (ac (pv 0)) ag)) ah) ah (aZ _)))))) ce)
  (aC (bu (eL (bI hr.units) (zh T_HOW_MANY rfl m_HOW_MANY (aP (ac (pv 0)) ah (λ_ _=>rfl)) ⟨rfl,rfl,rfl,rfl⟩) (bF cA rfl z_len PySem.boot_len (aa (ac (pv 0)) ag)) (aZ _))))))
theorem rQ:FnScope ["clock", "cue"] ["clock", "cue"] (af (top 50)):=by walk_at "S"
theorem jQ{f:Addr}{fd:FuncData}(F0:Fun K "show_row" "show_row" (top 50) f fd)(hm:mg "show_row" = some (.ref f))(cQ:DefM P w K mg base 3 "Thousandths" "show" 2 bP):Def P w K mg base 4 "show_row" 2 eQ:=by
 have S:=rQ
 refine b8 (N:=["clock", "cue"]) (ps:=["clock", "cue"]) (k:=3) (g:=hW) F0 S hm (F0.binds (by walk_at "B2")) λcdv A outer s H E hr=>?_
 unfold hW
 exact(aC (bu (bX PySem.F.slot_str_join PySem.F.type_str_join n6 aw (aa (gm (aa (su cQ (hr.mono (by decide)) rfl (ac (pv 0)) (aa (aP (ac (pv 1)) ah (λ_ _=>rfl)) ag)) (aa (su cQ (hr.mono (by decide)) rfl (ac (pv 0)) (aa (aP (ac (pv 1)) ah (λ_ _=>rfl)) ag)) (aa (aP (ac (pv 1)) ah (λ_ _=>rfl)) (aa (aP (ac (pv 1)) ah (λ_ _=>rfl)) ag))))) ag))))
theorem ql:FnScope ["clock", "cues"] ["clock", "cues"] (af (top 49)):=by walk_at "S"
theorem iZ{f:Addr}{fd:FuncData}(F0:Fun K "show_cues" "show_cues" (top 49) f fd)(hm:mg "show_cues" = some (.ref f))(jQ:Def P w K mg base 4 "show_row" 2 eQ):Def P w K mg base 5 "show_cues" 2 dv:=by
 have S:=ql
 refine b8 (N:=["clock", "cues"]) (ps:=["clock", "cues"]) (k:=4) (g:=ge) F0 S hm (F0.binds (by walk_at "B2")) λcdv A outer s H E hr=>?_
 unfold ge
 exact(aC (bu (bX PySem.F.slot_str_join PySem.F.type_str_join n6 aw (aa (iO (fr:=[(0, "clock")]) (tn:=["cue"]) rfl rfl (by decide +kernel) (by rfl) (λ_ _ h=>h) (kE (by rfl)) (B7 rfl rfl rfl ⟨_,rfl⟩ nP) (by decide +kernel) (jf (ac (pv 1))) (λC s3 H3 fp=>(bS (bW (i:=0) (show(["cue", "clock"]:List Str).Nodup from by decide +kernel) rfl (by walk_at "L")))) (λC s3 H3 fp=>iN) (λC s3 H3 fp=>(bd jQ (hr.mono (by decide)) rfl rfl (aa (ac (pv 1)) (aa (ac (pv 0)) ag))))) ag))))
theorem lX:FnScope ["self", "name"] ["self", "name"] (af (mth (top 113) 3)):=by walk_at "S"
theorem cX{f:Addr}{fd:FuncData}(F0:Fun K "cues_by" "Desk.cues_by" (mth (top 113) 3) f fd){C_Desk:Addr}(m_Desk:mg "Desk" = some (.ref C_Desk)){C_NoName:Addr}(m_NoName:mg "NoName" = some (.ref C_NoName))(cT:ClsT_Desk K C_Desk)(x_NoName:X5 K C_NoName [.type "ValueError",.type "Exception",.type "BaseException",.type "object"] "ValueError.__new__" = true)(hM:xW K C_Desk "cues_by" f):SL.DefSMX P w K mg base 1 "Desk" "cues_by" 2 bD:=by
 have S:=lX
 refine⟨C_Desk,f,fd,["self", "name"],cT.nn,cT.cl,⟨hM.1,hM.2,F0.kp⟩,SL.kJ (N:=["self", "name"]) (ps:=["self", "name"]) (k:=0) (g:=dr) F0 S (λcdv A outer s H E hr=>?_),(F0.binds (by walk_at "B2"))⟩
 unfold dr
 exact(aE (cV (wW (nK hr) (aG (pv 1)) (pf (aG (pv 0)) cT.nn cT.cl cT.cues_)) (aF (rM fJ (λ_ _ h=>h) x_NoName PySem.F.excBase_ValueError rfl rfl m_NoName (aa aw ag))) cK)
  (aF (dR (vy (nK hr) (pf (aG (pv 0)) cT.nn cT.cl cT.cues_) (aG (pv 1)) (λ_ _=>rfl)))))
theorem tW:FnScope ["thing"] ["thing"] (af (top 17)):=by walk_at "S"
theorem gP{f:Addr}{fd:FuncData}(F0:Fun K "is_name" "is_name" (top 17) f fd)(hm:mg "is_name" = some (.ref f))(z_isinstance:mg "isinstance" = none)(z_str:mg "str" = none)(z_len:mg "len" = none)(z_all:mg "all" = none):Def P w K mg base 1 "is_name" 1 d7:=by
 have S:=tW
 refine b8 (N:=["thing"]) (ps:=["thing"]) (k:=0) (g:=gH) F0 S hm (F0.binds (by walk_at "B1")) λcdv A outer s H E hr=>?_
 unfold gH
 exact(au (dl (PDW.t (qB (dz (cL (d0 rfl (kC _) rfl z_isinstance rfl z_str PyProof.Rows.boot_str (ac (pv 0))))) (mm (dz (xj el el ah (bF cA rfl z_len PySem.boot_len (aa (ac (pv 0)) ag)) ah))))) (aC (bu jE)) ce)
  (aC (bu (bF (jt rfl) rfl z_all PyProof.Rows.boot_all (aa (iO (fr:=[]) (tn:=["sign"]) rfl rfl (by decide +kernel) (by rfl) (λ_ _ h=>h) (kE (by rfl)) nP (by decide +kernel) (jf (ac (pv 0))) (λC s3 H3 fp=>(bS (bW (i:=0) (show(["sign"]:List Str).Nodup from by decide +kernel) rfl (by walk_at "L")))) (λC s3 H3 fp=>iN) (λC s3 H3 fp=>(iP el el aw (ac (pv 0)) aw))) ag)))))
theorem rS:FnScope ["word"] ["word"] (af (top 117)):=by walk_at "S"
theorem jS{f:Addr}{fd:FuncData}(F0:Fun K "read_new" "read_new" (top 117) f fd)(hm:mg "read_new" = some (.ref f))(gP:Def P w K mg base 1 "is_name" 1 d7):Def P w K mg base 2 "read_new" 1 fU:=by
 have S:=rS
 refine b8 (N:=["word"]) (ps:=["word"]) (k:=1) (g:=hZ) F0 S hm (F0.binds (by walk_at "B1")) λcdv A outer s H E hr=>?_
 unfold hZ
 exact(au (dl (dz (cL (bd gP (hr.mono (by decide)) rfl rfl (aa (ac (pv 0)) ag)))) (aC ss) ce)
  (aC (bu (ac (pv 0)))))
theorem oR:FnScope ["self", "row"] ["self", "row"] (af (mth (top 4) 0)):=by walk_at "S"
theorem ck{f:Addr}{fd:FuncData}(F0:Fun K "__init__" "NoCue.__init__" (mth (top 4) 0) f fd){C_NoCue:Addr}(m_NoCue:mg "NoCue" = some (.ref C_NoCue)){C_CueError:Addr}(m_CueError:mg "CueError" = some (.ref C_CueError))(x1_NoCue:XF.ef K C_NoCue XF.VE "ValueError.__new__" = true)(g1_NoCue:θ K (.ref C_NoCue) "__getattribute__" = some (some (.builtin "BaseException.__getattribute__")))(g2_NoCue:θ K (.ref C_NoCue) "__getattr__" = some none)(sa_NoCue:θ K (.ref C_NoCue) "__setattr__" = some (some (.builtin "object.__setattr__")))(g7_NoCue:W0 K C_NoCue (.type "BaseException")=some true)(g6_NoCue:W0 K C_NoCue (.type "object")=some true)(hd_NoCue:X8 K C_NoCue=true)(st_NoCue:((PySem.W.clsIn K C_NoCue).any λcd=>XF.pj cd.mro==XF.VE)=true)(na_NoCue_row:θ K (.ref C_NoCue) "row" = some none)(rd_CueError:PySem.W.readsIn K C_CueError (.type "type")=true)(sp_CueError:U5 K (.ref C_CueError) "__getattribute__" = some (some (.builtin "type.__getattribute__")))(fd_CueError:PySem.W.findCls K (.ref C_CueError) (.type "type") "__init__" = some (.val (.builtin "ValueError.__init__")))(hat:θ K (.ref C_NoCue) "__init__" = some (some (.ref f)))(hfn:X3 K (.ref f)=true)(kc:ξ K (.ref C_NoCue)=true):XDefH P w K mg base 1 "NoCue" "row" C_NoCue:=by
 have S:=oR
 exact⟨f,fd,["self", "row"],⟨x1_NoCue,hat,beq_iff_eq.mp hfn,kc⟩,XF.zY (k:=0) F0 S rfl (XF.txt3 (a := "row ") (b := " is no row of cues") (by decide +kernel) (by decide +kernel)) (λcdv A outer s H E=>j9 (ml (XF.sj x1_NoCue ⟨rd_CueError,sp_CueError,fd_CueError⟩ rfl m_CueError (dO (pv 0) (dO (lm (.cons m5 (.cons (yW (pv 1)) (.cons m5 .nil rfl) rfl) rfl)) iQ)))) (mj (XF.ps_xf ⟨g1_NoCue,g2_NoCue,sa_NoCue,g7_NoCue,g6_NoCue,hd_NoCue,st_NoCue⟩ na_NoCue_row (pv 0) (pv 1)))),XF.xG (k:=0) F0 S rfl (XF.txt3 (a := "row ") (b := " is no row of cues") (by decide +kernel) (by decide +kernel)) (λcdv A hv outer s H=>j9 (ml (XF.sj x1_NoCue ⟨rd_CueError,sp_CueError,fd_CueError⟩ rfl m_CueError (dO (pv 0) (dO (lm (.cons m5 (.cons (yW (pv 1)) (.cons m5 .nil rfl) rfl) rfl)) iQ)))) (mj (XF.ps_xf ⟨g1_NoCue,g2_NoCue,sa_NoCue,g7_NoCue,g6_NoCue,hd_NoCue,st_NoCue⟩ na_NoCue_row (pv 0) (pv 1)))),rfl,(F0.binds (by walk_at "B2"))⟩
theorem rT:FnScope ["thing"] ["thing"] (af (top 16)):=by walk_at "S"
theorem ir{f:Addr}{fd:FuncData}(F0:Fun K "is_whole" "is_whole" (top 16) f fd)(hm:mg "is_whole" = some (.ref f))(z_isinstance:mg "isinstance" = none)(z_int:mg "int" = none)(z_bool:mg "bool" = none):Def P w K mg base 1 "is_whole" 1 eR:=by
 have S:=rT
 refine b8 (N:=["thing"]) (ps:=["thing"]) (k:=0) (g:=jM) F0 S hm (F0.binds (by walk_at "B1")) λcdv A outer s H E hr=>?_
 unfold jM
 exact(aC (bu (dU (d0 rfl (BU _) rfl z_isinstance rfl z_int PyProof.Rows.boot_int (ac (pv 0))) (eK (zg (d0 rfl (zO _) rfl z_isinstance rfl z_bool PyProof.Rows.boot_bool (ac (pv 0))))))))
theorem lU:FnScope ["sign"] ["sign"] (af (top 20)):=by walk_at "S"
theorem fS{f:Addr}{fd:FuncData}(F0:Fun K "is_word_sign" "is_word_sign" (top 20) f fd)(hm:mg "is_word_sign" = some (.ref f)){t_PERCENT:Tok}(m_PERCENT:mg "PERCENT" = some (.int 37 t_PERCENT))(z_ord:mg "ord" = none):Def P w K mg base 1 "is_word_sign" 1 cC:=by
 have S:=lU
 refine b8 (N:=["sign"]) (ps:=["sign"]) (k:=0) (g:=ed) F0 S hm (F0.binds (by walk_at "B1")) λcdv A outer s H E hr=>?_
 unfold ed
 exact(aC (bu (dU (iP el el aw (ac (pv 0)) aw) (eK (eL (jP hr.units) (bF xN rfl z_ord PyProof.Rows.boot_ord (aa (ac (pv 0)) ag)) (zj rfl m_PERCENT) (aZ _))))))
theorem tV:FnScope ["text"] ["text"] (af (top 19)):=by walk_at "S"
theorem lD{f:Addr}{fd:FuncData}(F0:Fun K "is_word" "is_word" (top 19) f fd)(hm:mg "is_word" = some (.ref f))(fS:Def P w K mg base 1 "is_word_sign" 1 cC)(z_len:mg "len" = none)(z_all:mg "all" = none):Def P w K mg base 2 "is_word" 1 fE:=by
 have S:=tV
 refine b8 (N:=["text"]) (ps:=["text"]) (k:=1) (g:=jl) F0 S hm (F0.binds (by walk_at "B1")) λcdv A outer s H E hr=>?_
 unfold jl
 exact(aC (bu (dU (iP el el ah (bF cA rfl z_len PySem.boot_len (aa (ac (pv 0)) ag)) ah) (eK (bF (jt rfl) rfl z_all PyProof.Rows.boot_all (aa (iO (fr:=[]) (tn:=["sign"]) rfl rfl (by decide +kernel) (by rfl) (λ_ _ h=>h) (kE (by rfl)) nP (by decide +kernel) (jf (ac (pv 0))) (λC s3 H3 fp=>(bS (bW (i:=0) (show(["sign"]:List Str).Nodup from by decide +kernel) rfl (by walk_at "L")))) (λC s3 H3 fp=>iN) (λC s3 H3 fp=>(bd fS (hr.mono (by decide)) rfl rfl (aa (ac (pv 0)) ag)))) ag))))))
theorem qo:FnScope ["thing"] ["thing"] (af (top 18)):=by walk_at "S"
theorem i7{f:Addr}{fd:FuncData}(F0:Fun K "are_words" "are_words" (top 18) f fd)(hm:mg "are_words" = some (.ref f))(lD:Def P w K mg base 2 "is_word" 1 fE)(z_isinstance:mg "isinstance" = none)(z_str:mg "str" = none)(z_all:mg "all" = none):Def P w K mg base 3 "are_words" 1 e9:=by
 have S:=qo
 refine b8 (N:=["thing"]) (ps:=["thing"]) (k:=2) (g:=gf) F0 S hm (F0.binds (by walk_at "B1")) λcdv A outer s H E hr=>?_
 unfold gf
 exact(aC (bu (dU (d0 rfl (kC _) rfl z_isinstance rfl z_str PyProof.Rows.boot_str (ac (pv 0))) (eK (bF (jt rfl) rfl z_all PyProof.Rows.boot_all (aa (iO (fr:=[]) (tn:=["part"]) rfl rfl (by decide +kernel) (by rfl) (λ_ _ h=>h) (kE (by rfl)) nP (by decide +kernel) (jf (bX PySem.F.slot_str_split PySem.F.type_str_split jr (ac (pv 0)) (aa aw ag))) (λC s3 H3 fp=>(bS (bW (i:=0) (show(["part"]:List Str).Nodup from by decide +kernel) rfl (by walk_at "L")))) (λC s3 H3 fp=>iN) (λC s3 H3 fp=>(bd lD (hr.mono (by decide)) rfl rfl (aa (ac (pv 0)) ag)))) ag))))))
theorem w9:FnScope ["thing"] ["thing"] (af (top 48)):=by walk_at "S"
theorem oh{f:Addr}{fd:FuncData}(F0:Fun K "is_cue" "is_cue" (top 48) f fd)(hm:mg "is_cue" = some (.ref f))(ir:Def P w K mg base 1 "is_whole" 1 eR)(gP:Def P w K mg base 1 "is_name" 1 d7)(i7:Def P w K mg base 3 "are_words" 1 e9)(z_isinstance:mg "isinstance" = none)(z_tuple:mg "tuple" = none)(z_len:mg "len" = none):Def P w K mg base 4 "is_cue" 1 gW:=by
 have S:=w9
 refine b8 (N:=["thing"]) (ps:=["thing"]) (k:=3) (g:=kI) F0 S hm (F0.binds (by walk_at "B1")) λcdv A outer s H E hr=>?_
 unfold kI
 exact(au (dl (PDW.t (qB (dz (cL (d0 rfl (xA _) rfl z_isinstance rfl z_tuple PyProof.Rows.boot_tuple (ac (pv 0))))) (mm (bt (jP hr.units) (bF cA rfl z_len PySem.boot_len (aa (ac (pv 0)) ag)) ah (aZ _))))) (aC (bu jE)) ce)
  (au (dl (PDW.t (qB (dz (cL (bd ir (hr.mono (by decide)) rfl rfl (aa (aP (ac (pv 0)) ah (λ_ _=>rfl)) ag)))) (mm (dz (cL (bd ir (hr.mono (by decide)) rfl rfl (aa (aP (ac (pv 0)) ah (λ_ _=>rfl)) ag))))))) (aC (bu jE)) ce)
  (aC (bu (dU (iP el n5 ah (aP (ac (pv 0)) ah (λ_ _=>rfl)) (aP (ac (pv 0)) ah (λ_ _=>rfl))) (dU (bd gP (hr.mono (by decide)) rfl rfl (aa (aP (ac (pv 0)) ah (λ_ _=>rfl)) ag)) (eK (bd i7 (hr.mono (by decide)) rfl rfl (aa (aP (ac (pv 0)) ah (λ_ _=>rfl)) ag)))))))))
theorem rR:FnScope ["clock", "row", "number", "parts", "cue"] ["clock", "row", "number"] (af (top 53)):=by walk_at "S"
theorem jR{f:Addr}{fd:FuncData}(F0:Fun K "read_row" "read_row" (top 53) f fd)(hm:mg "read_row" = some (.ref f)){C_NoCue:Addr}(m_NoCue:mg "NoCue" = some (.ref C_NoCue)){C_NoTime:Addr}(m_NoTime:mg "NoTime" = some (.ref C_NoTime))(x1_NoTime:XF.ef K C_NoTime XF.VE "ValueError.__new__" = true)(ck:XDefH P w K mg base 1 "NoCue" "row" C_NoCue)(cR:DefMX P w K mg base 6 "Thousandths" "read" 2 bE)(oh:Def P w K mg base 4 "is_cue" 1 gW)(z_len:mg "len" = none):DefX P w K mg base 7 "read_row" 3 cw:=by
 have S:=rR
 refine mz (N:=["clock", "row", "number", "parts", "cue"]) (ps:=["clock", "row", "number"]) (k:=6) (g:=eM) F0 S hm (F0.binds (by walk_at "B3")) λcdv A outer s H E hr=>?_
 unfold eM
 exact(au (bz (i:=3) S.nd rfl (by walk_at "L") (bX PySem.F.slot_str_split PySem.F.type_str_split uX (ac (pv 1)) (aa aw (aa ah ag))))
  (au (dl (bt (jP hr.units) (bF cA rfl z_len PySem.boot_len (aa (ac (pv 3)) ag)) ah (aZ _)) (aC (jh ck.x XF.e6 (λ_ _ h=>h) (hr.mono (by decide)) rfl rfl m_NoCue (aa (ac (pv 2)) ag))) ce)
  (au (um (i:=4) x1_NoTime (λea=>PassesOwnAt.leavingOf (SameStack.mark _ _)) rfl rfl rfl rfl m_NoTime S.nd rfl (by walk_at "L") (λE1=>(Bv (jg (sk cR (hr.mono (by decide)) rfl (ac (pv 0)) (aa (aP (ac (pv 3)) ah (λ_ _=>rfl)) ag)) (jg (sk cR (hr.mono (by decide)) rfl (ac (pv 0)) (aa (aP (ac (pv 3)) ah (λ_ _=>rfl)) ag)) (jg (y9 (aP (ac (pv 3)) ah (λ_ _=>rfl))) (jg (y9 (aP (ac (pv 3)) ah (λ_ _=>rfl))) zf)))))) (λpn ea oe vs hpn hin hod ho2=>(aC (xl ck XF.e6 (λ_ _ h=>h) (hr.mono (by decide)) hpn hin hod ho2 rfl m_NoCue (aa (ac (pv 2)) ag)))))
  (au (dl (dz (cL (bd oh (hr.mono (by decide)) rfl rfl (aa (ac (pv 4)) ag)))) (aC (jh ck.x XF.e6 (λ_ _ h=>h) (hr.mono (by decide)) rfl rfl m_NoCue (aa (ac (pv 2)) ag))) ce)
  (aC (bu (ac (pv 4))))))))
theorem tU:FnScope ["text"] ["text"] (af (top 52)):=by walk_at "S"
theorem lC{f:Addr}{fd:FuncData}(F0:Fun K "rows_of" "rows_of" (top 52) f fd)(hm:mg "rows_of" = some (.ref f)):Def P w K mg base 1 "rows_of" 1 fD:=by
 have S:=tU
 refine b8 (N:=["text"]) (ps:=["text"]) (k:=0) (g:=gG) F0 S hm (F0.binds (by walk_at "B1")) λcdv A outer s H E hr=>?_
 unfold gG
 exact(aC (bu (pd_if (za (ac (pv 0))) (bX PySem.F.slot_str_split PySem.F.type_str_split jr (ac (pv 0)) (aa aw ag)) (gm ag))))
theorem qm:FnScope ["clock", "text", "cues", "number", "row", "cue"] ["clock", "text"] (af (top 51)):=by walk_at "S"
theorem i0{f:Addr}{fd:FuncData}(F0:Fun K "read_cues" "read_cues" (top 51) f fd)(hm:mg "read_cues" = some (.ref f)){C_NoCue:Addr}(m_NoCue:mg "NoCue" = some (.ref C_NoCue))(ck:XDefH P w K mg base 1 "NoCue" "row" C_NoCue)(jR:DefX P w K mg base 7 "read_row" 3 cw)(lC:Def P w K mg base 1 "rows_of" 1 fD)(z_isinstance:mg "isinstance" = none)(z_str:mg "str" = none)(z_enumerate:mg "enumerate" = none):DefX P w K mg base 8 "read_cues" 2 bK:=by
 have S:=qm
 refine mz (N:=["clock", "text", "cues", "number", "row", "cue"]) (ps:=["clock", "text"]) (k:=7) (g:=d4) F0 S hm (F0.binds (by walk_at "B2")) λcdv A outer s H E hr=>?_
 unfold d4 db
 exact(au (dl (dz (cL (d0 rfl (kC _) rfl z_isinstance rfl z_str PyProof.Rows.boot_str (ac (pv 1))))) (aC (jh ck.x XF.e6 (λ_ _ h=>h) (hr.mono (by decide)) rfl rfl m_NoCue (aa ah ag))) ce)
  (au (mo (i:=2) S.nd rfl (by walk_at "L") (kf ag))
  (au (ki PassesOwn.leaving rfl (xk rfl z_enumerate (aa (bd lC (hr.mono (by decide)) rfl rfl (aa (ac (pv 1)) ag)) ag)) (mn rfl (dZ (bS (bW (i:=3) S.nd rfl (by walk_at "L"))) (dZ (bS (bW (i:=4) S.nd rfl (by walk_at "L"))) kh))) (au (bz (i:=5) S.nd rfl (by walk_at "L") (m9 jR (hr.mono (by decide)) cM (λ_ _ h=>h) rfl rfl (aa (ac (pv 0)) (aa (ac (pv 4)) (aa (ac (pv 3)) ag)))))
  (au (dl (zc 2 (PDW.t (qC (za (ac (pv 2))) (sq (bt n5 (aP (ac (pv 5)) ah (λ_ _=>rfl)) (aP (aP (ac (pv 2)) (pd_neg ah) (λ_ _=>rfl)) ah (λ_ _=>rfl)) (aZ _)))))) (aC (jh ck.x XF.e6 (λ_ _ h=>h) (hr.mono (by decide)) rfl rfl m_NoCue (aa (ac (pv 3)) ag))) ce)
  (aC (qH (i:=2) (pv 2) (ac (pv 5)))))))
  (aC (qF (pv 2))))))
theorem li:FnScope ["self", "words", "text", "name"] ["self", "words", "text"] (af (mth (top 113) 9)):=by walk_at "S"
theorem eN{f:Addr}{fd:FuncData}(F0:Fun K "put_cues" "Desk.put_cues" (mth (top 113) 9) f fd){C_Desk:Addr}(m_Desk:mg "Desk" = some (.ref C_Desk))(cT:ClsT_Desk K C_Desk)(jS:Def P w K mg base 2 "read_new" 1 fU)(i0:DefX P w K mg base 8 "read_cues" 2 bK)(hM:xW K C_Desk "put_cues" f):SL.DefSMX P w K mg base 9 "Desk" "put_cues" 3 bp:=by
 have S:=li
 refine⟨C_Desk,f,fd,["self", "words", "text"],cT.nn,cT.cl,⟨hM.1,hM.2,F0.kp⟩,SL.kJ (N:=["self", "words", "text", "name"]) (ps:=["self", "words", "text"]) (k:=8) (g:=cW) F0 S (λcdv A outer s H E hr=>?_),(F0.binds (by walk_at "B3"))⟩
 unfold cW
 exact(aE (cp (i:=3) S.nd rfl (by walk_at "L") (aV (bd jS (hr.mono (by decide)) rfl rfl (aa (aP (ac (pv 1)) ah (λ_ _=>rfl)) ag))))
  (aF (vA (nK hr) (pf (aG (pv 0)) cT.nn cT.cl cT.cues_) (aG (pv 3)) (wS i0 (hr.mono (by decide)) cM (λ_ _ h=>h) rfl rfl (aX (pf (aG (pv 0)) cT.nn cT.cl cT.clock_) (aX (aG (pv 2)) dh))))))
theorem j2:FnScope ["self", "name"] ["self", "name"] (af (mth (top 113) 10)):=by walk_at "S"
theorem ek{f:Addr}{fd:FuncData}(F0:Fun K "drop_cues" "Desk.drop_cues" (mth (top 113) 10) f fd){C_Desk:Addr}(m_Desk:mg "Desk" = some (.ref C_Desk))(cT:ClsT_Desk K C_Desk)(cX:SL.DefSMX P w K mg base 1 "Desk" "cues_by" 2 bD)(hM:xW K C_Desk "drop_cues" f):SL.DefSMX P w K mg base 2 "Desk" "drop_cues" 2 cn:=by
 have S:=j2
 refine⟨C_Desk,f,fd,["self", "name"],cT.nn,cT.cl,⟨hM.1,hM.2,F0.kp⟩,SL.kJ (N:=["self", "name"]) (ps:=["self", "name"]) (k:=1) (g:=dA) F0 S (λcdv A outer s H E hr=>?_),(F0.binds (by walk_at "B2"))⟩
 unfold dA
 exact(aE (gZ (gY cX (hr.mono (by decide)) cM (λ_ _ h=>h) rfl (aG (pv 0)) (aX (aG (pv 1)) dh)))
  (aF (gZ (vx (pf (aG (pv 0)) cT.nn cT.cl cT.cues_) (aG (pv 1)) ⟨rfl,rfl,rfl,rfl⟩))))
theorem mT:FnScope ["self", "words", "text", "first"] ["self", "words", "text"] (af (mth (top 113) 2)):=by walk_at "S"
theorem fR{f:Addr}{fd:FuncData}(F0:Fun K "change" "Desk.change" (mth (top 113) 2) f fd){C_Desk:Addr}(m_Desk:mg "Desk" = some (.ref C_Desk))(cT:ClsT_Desk K C_Desk)(eN:SL.DefSMX P w K mg base 9 "Desk" "put_cues" 3 bp)(ek:SL.DefSMX P w K mg base 2 "Desk" "drop_cues" 2 cn)(hM:xW K C_Desk "change" f):SL.DefSMX P w K mg base 10 "Desk" "change" 3 bB:=by
 have S:=mT
 refine⟨C_Desk,f,fd,["self", "words", "text"],cT.nn,cT.cl,⟨hM.1,hM.2,F0.kp⟩,SL.kJ (N:=["self", "words", "text", "first"]) (ps:=["self", "words", "text"]) (k:=9) (g:=cZ) F0 S (λcdv A outer s H E hr=>?_),(F0.binds (by walk_at "B3"))⟩
 unfold cZ
 exact(aE (cp (i:=3) S.nd rfl (by walk_at "L") (aV (aP (ac (pv 1)) ah (λ_ _=>rfl))))
  (aF (cV (bV (bt (bI hr.units) (ac (pv 3)) aw (aZ _))) (aF iy) (aF (cV (bV (bt (bI hr.units) (ac (pv 3)) aw (aZ _))) (aF iy) (aF (cV (bV (bt (bI hr.units) (ac (pv 3)) aw (aZ _))) (aF iy) (aF (cV (bV (bt (bI hr.units) (ac (pv 3)) aw (aZ _))) (aF iy) (aF (cV (bV (bt (bI hr.units) (ac (pv 3)) aw (aZ _))) (aF (gZ (gY eN (hr.mono (by decide)) cM (λ_ _ h=>h) rfl (aG (pv 0)) (aX (aG (pv 1)) (aX (aG (pv 2)) dh))))) (aF (cV (bV (bt (bI hr.units) (ac (pv 3)) aw (aZ _))) (aF (gZ (gY ek (hr.mono (by decide)) cM (λ_ _ h=>h) rfl (aG (pv 0)) (aX (aV (aP (ac (pv 1)) ah (λ_ _=>rfl))) dh)))) (aF (cV (bV (bt (bI hr.units) (ac (pv 3)) aw (aZ _))) (aF iy) (aF (cV (bV (bt (bI hr.units) (ac (pv 3)) aw (aZ _))) (aF iy) (aF (cV (bV (bt (bI hr.units) (ac (pv 3)) aw (aZ _))) (aF iy) (aF (cV (bV (bt (bI hr.units) (ac (pv 3)) aw (aZ _))) (aF iy) (aF iy))))))))))))))))))))))
theorem rW:FnScope ["self", "row", "parts", "words"] ["self", "row"] (af (mth (top 113) 1)):=by walk_at "S"
theorem cI{f:Addr}{fd:FuncData}(F0:Fun K "say" "Desk.say" (mth (top 113) 1) f fd){C_Desk:Addr}(m_Desk:mg "Desk" = some (.ref C_Desk)){C_NoRow:Addr}(m_NoRow:mg "NoRow" = some (.ref C_NoRow))(cT:ClsT_Desk K C_Desk)(x_NoRow:X5 K C_NoRow [.type "ValueError",.type "Exception",.type "BaseException",.type "object"] "ValueError.__new__" = true)(eP:Def P w K mg base 1 "words_and_text" 1 aS)(og:Def P w K mg base 1 "is_row" 1 fV)(iZ:Def P w K mg base 5 "show_cues" 2 dv)(cX:SL.DefSMX P w K mg base 1 "Desk" "cues_by" 2 bD)(fR:SL.DefSMX P w K mg base 10 "Desk" "change" 3 bB)(hM:xW K C_Desk "say" f):SL.DefSMX P w K mg base 11 "Desk" "say" 2 bc:=by
 have S:=rW
 refine⟨C_Desk,f,fd,["self", "row"],cT.nn,cT.cl,⟨hM.1,hM.2,F0.kp⟩,SL.kJ (N:=["self", "row", "parts", "words"]) (ps:=["self", "row"]) (k:=10) (g:=fM) F0 S (λcdv A outer s H E hr=>?_),(F0.binds (by walk_at "B2"))⟩
 unfold fM
 exact(aE (cp (i:=2) S.nd rfl (by walk_at "L") (aV (bd eP (hr.mono (by decide)) rfl rfl (aa (ac (pv 1)) ag))))
  (aE (cp (i:=3) S.nd rfl (by walk_at "L") (aV (aP (ac (pv 2)) ah (λ_ _=>rfl))))
  (aE (cV (bV (dz (cL (bd og (hr.mono (by decide)) rfl rfl (aa (ac (pv 3)) ag))))) (aF (rM fJ (λ_ _ h=>h) x_NoRow PySem.F.excBase_ValueError rfl rfl m_NoRow (aa aw ag))) cK)
  (aE (cV (bV (bt (bI hr.units) (aP (ac (pv 3)) ah (λ_ _=>rfl)) aw (aZ _))) (aF (dR (wR iZ (hr.mono (by decide)) rfl rfl (aX (pf (aG (pv 0)) cT.nn cT.cl cT.clock_) (aX (gY cX (hr.mono (by decide)) cM (λ_ _ h=>h) rfl (aG (pv 0)) (aX (aV (aP (ac (pv 3)) ah (λ_ _=>rfl))) dh)) dh))))) cK)
  (aE (cV (bV (bt (bI hr.units) (aP (ac (pv 3)) ah (λ_ _=>rfl)) aw (aZ _))) (aF iy) cK)
  (aE (cV (bV (bt (bI hr.units) (aP (ac (pv 3)) ah (λ_ _=>rfl)) aw (aZ _))) (aF iy) cK)
  (aE (cV (bV (bt (bI hr.units) (aP (ac (pv 3)) ah (λ_ _=>rfl)) aw (aZ _))) (aF iy) cK)
  (aE (gZ (gY fR (hr.mono (by decide)) cM (λ_ _ h=>h) rfl (aG (pv 0)) (aX (aG (pv 3)) (aX (aV (aP (ac (pv 2)) ah (λ_ _=>rfl))) dh))))
  (aF (dR (aV aw)))))))))))
theorem lW:FnScope ["_law_script", "_law_k"] ["_law_script", "_law_k"] (af (top 122)):=by walk_at "S"
theorem er{f:Addr}{fd:FuncData}(F0:Fun K "_law_cell_at" "_law_cell_at" (top 122) f fd)(hm:mg "_law_cell_at" = some (.ref f))(z_len:mg "len" = none):Def P w K mg base 1 "_law_cell_at" 2 bU:=by
 have S:=lW
 refine b8 (N:=["_law_script", "_law_k"]) (ps:=["_law_script", "_law_k"]) (k:=0) (g:=dq) F0 S hm (F0.binds (by walk_at "B2")) λcdv A outer s H E hr=>?_
 unfold dq
 exact(au (dl (bt n5 (ac (pv 1)) (bF cA rfl z_len PySem.boot_len (aa (ac (pv 0)) ag)) (aZ _)) (aC (bu (aP (ac (pv 0)) (ac (pv 1)) (λ_ _=>rfl)))) ce)
  (aC (bu ah)))
theorem lV:FnScope ["_law_cell", "_law_many", "_law_found", "_law_number", "_law_k"] ["_law_cell", "_law_many"] (af (top 123)):=by walk_at "S"
theorem cB{f:Addr}{fd:FuncData}(F0:Fun K "_law_numbers" "_law_numbers" (top 123) f fd)(hm:mg "_law_numbers" = some (.ref f))(z_range:mg "range" = none):Def P w K mg base 1 "_law_numbers" 2 bT:=by
 have S:=lV
 refine b8 (N:=["_law_cell", "_law_many", "_law_found", "_law_number", "_law_k"]) (ps:=["_law_cell", "_law_many"]) (k:=0) (g:=dm) F0 S hm (F0.binds (by walk_at "B2")) λcdv A outer s H E hr=>?_
 unfold dm gT
 exact(au (mo (i:=2) S.nd rfl (by walk_at "L") (kf ag))
  (au (bz (i:=3) S.nd rfl (by walk_at "L") (aH bw (ac (pv 0)) ah))
  (au (ki PassesOwn.never rfl (kg rfl z_range (aa (ac (pv 1)) ag)) (bS (bW (i:=4) S.nd rfl (by walk_at "L"))) (au (bz (i:=3) S.nd rfl (by walk_at "L") (aH bw (aH im (aH ba (aH ba (ac (pv 3)) (ac (pv 4))) ah) ah) ah))
  (aC (qH (i:=2) (pv 2) (ac (pv 3))))))
  (aC (qF (pv 2))))))
theorem oQ:FnScope ["_law_cell", "_law_letters", "_law_some", "_law_many", "_law_at", "_law_names_here", "_law_turn", "_law_name", "_law_k"] ["_law_cell"] (af (top 124)):=by walk_at "S"
theorem iu{f:Addr}{fd:FuncData}(F0:Fun K "_law_names" "_law_names" (top 124) f fd)(hm:mg "_law_names" = some (.ref f))(cB:Def P w K mg base 1 "_law_numbers" 2 bT)(z_int:mg "int" = none)(z_range:mg "range" = none):Def P w K mg base 2 "_law_names" 1 eE:=by
 have S:=oQ
 refine b8 (N:=["_law_cell", "_law_letters", "_law_some", "_law_many", "_law_at", "_law_names_here", "_law_turn", "_law_name", "_law_k"]) (ps:=["_law_cell"]) (k:=1) (g:=fz) F0 S hm (F0.binds (by walk_at "B1")) λcdv A outer s H E hr=>?_
 unfold fz eA eB
 exact(au (bz (i:=1) S.nd rfl (by walk_at "L") aw)
  (au (bz (i:=2) S.nd rfl (by walk_at "L") (bd cB (hr.mono (by decide)) rfl rfl (aa (ac (pv 0)) (aa ah ag))))
  (au (bz (i:=3) S.nd rfl (by walk_at "L") (aH ba ah (aH bw (aP (ac (pv 2)) ah (λ_ _=>rfl)) ah)))
  (au (bz (i:=4) S.nd rfl (by walk_at "L") (aH bw (aP (ac (pv 2)) ah (λ_ _=>rfl)) (ac (pv 3))))
  (au (mo (i:=5) S.nd rfl (by walk_at "L") (kf ag))
  (au (ki PassesOwn.never rfl (kg rfl z_range (aa ah ag)) (bS (bW (i:=6) S.nd rfl (by walk_at "L"))) (au (bz (i:=7) S.nd rfl (by walk_at "L") aw)
  (au (ki PassesOwn.never rfl (kg rfl z_range (aa (ac (pv 3)) ag)) (bS (bW (i:=8) S.nd rfl (by walk_at "L"))) (aC (bz (i:=7) S.nd rfl (by walk_at "L") (aH ba (ac (pv 7)) (aP (ac (pv 1)) (aH bw (aH ba (aP (ac (pv 2)) (ac (pv 8)) (λ_ _=>rfl)) (aH im (ac (pv 6)) (bY eO rfl z_int PyProof.Rows.boot_int (aa (eL (bI hr.units) (ac (pv 8)) (ac (pv 4)) (aZ _)) ag)))) ah) (λ_ _=>rfl))))))
  (aC (qH (i:=5) (pv 5) (ac (pv 7)))))))
  (aC (qF (pv 5)))))))))
theorem mS:FnScope ["_law_moment_here", "_law_ahead", "_law_seconds", "_law_rest", "_law_minutes", "_law_hours"] ["_law_moment_here"] (af (top 125)):=by walk_at "S"
theorem eZ{f:Addr}{fd:FuncData}(F0:Fun K "_law_moment" "_law_moment" (top 125) f fd)(hm:mg "_law_moment" = some (.ref f))(z_divmod:mg "divmod" = none)(z_str:mg "str" = none):Def P w K mg base 1 "_law_moment" 1 de:=by
 have S:=mS
 refine b8 (N:=["_law_moment_here", "_law_ahead", "_law_seconds", "_law_rest", "_law_minutes", "_law_hours"]) (ps:=["_law_moment_here"]) (k:=0) (g:=eW) F0 S hm (F0.binds (by walk_at "B1")) λcdv A outer s H E hr=>?_
 unfold eW
 exact(au (uq (bF io rfl z_divmod PyProof.Rows.boot_divmod (aa (ac (pv 0)) (aa ah ag))) (mn rfl (dZ (bS (bW (i:=2) S.nd rfl (by walk_at "L"))) (dZ (bS (bW (i:=3) S.nd rfl (by walk_at "L"))) kh))))
  (au (uq (bF io rfl z_divmod PyProof.Rows.boot_divmod (aa (ac (pv 2)) (aa ah ag))) (mn rfl (dZ (bS (bW (i:=4) S.nd rfl (by walk_at "L"))) (dZ (bS (bW (i:=2) S.nd rfl (by walk_at "L"))) kh))))
  (au (uq (bF io rfl z_divmod PyProof.Rows.boot_divmod (aa (ac (pv 4)) (aa ah ag))) (mn rfl (dZ (bS (bW (i:=5) S.nd rfl (by walk_at "L"))) (dZ (bS (bW (i:=4) S.nd rfl (by walk_at "L"))) kh))))
  (au (bz (i:=1) S.nd rfl (by walk_at "L") (aH ba (aH ba (aH ba (aH ba (bX PySem.F.slot_str_zfill PySem.F.type_str_zfill d5 (bY d6 rfl z_str PyProof.Rows.boot_str (aa (ac (pv 5)) ag)) (aa ah ag)) aw) (bX PySem.F.slot_str_zfill PySem.F.type_str_zfill d5 (bY d6 rfl z_str PyProof.Rows.boot_str (aa (ac (pv 4)) ag)) (aa ah ag))) aw) (bX PySem.F.slot_str_zfill PySem.F.type_str_zfill d5 (bY d6 rfl z_str PyProof.Rows.boot_str (aa (ac (pv 2)) ag)) (aa ah ag))))
  (aC (bu (aH ba (aH ba (ac (pv 1)) aw) (bX PySem.F.slot_str_zfill PySem.F.type_str_zfill d5 (bY d6 rfl z_str PyProof.Rows.boot_str (aa (ac (pv 3)) ag)) (aa ah ag)))))))))
theorem qt:FnScope ["_law_cell", "_law_rows", "_law_begin", "_law_number", "_law_some", "_law_end", "_law_words", "_law_hand"] ["_law_cell"] (af (top 126)):=by walk_at "S"
theorem gl{f:Addr}{fd:FuncData}(F0:Fun K "_law_text" "_law_text" (top 126) f fd)(hm:mg "_law_text" = some (.ref f))(cB:Def P w K mg base 1 "_law_numbers" 2 bT)(eZ:Def P w K mg base 1 "_law_moment" 1 de):Def P w K mg base 2 "_law_text" 1 dw:=by
 have S:=qt
 refine b8 (N:=["_law_cell", "_law_rows", "_law_begin", "_law_number", "_law_some", "_law_end", "_law_words", "_law_hand"]) (ps:=["_law_cell"]) (k:=1) (g:=gh) F0 S hm (F0.binds (by walk_at "B1")) λcdv A outer s H E hr=>?_
 unfold gh dL
 exact(au (mo (i:=1) S.nd rfl (by walk_at "L") (kf ag))
  (au (bz (i:=2) S.nd rfl (by walk_at "L") ah)
  (au (ki PassesOwn.never rfl (jf (bd cB (hr.mono (by decide)) rfl rfl (aa (ac (pv 0)) (aa (aH bw (ac (pv 0)) ah) ag)))) (bS (bW (i:=3) S.nd rfl (by walk_at "L"))) (au (bz (i:=4) S.nd rfl (by walk_at "L") (bd cB (hr.mono (by decide)) rfl rfl (aa (ac (pv 3)) (aa ah ag))))
  (au (bz (i:=2) S.nd rfl (by walk_at "L") (aH ba (ac (pv 2)) (aP (gm (aa ah (aa (aH bw (aP (ac (pv 4)) ah (λ_ _=>rfl)) ah) (aa (aH bw (aP (ac (pv 4)) ah (λ_ _=>rfl)) (aH wx ah ah)) (aa (aH bw (aH im (aP (ac (pv 4)) ah (λ_ _=>rfl)) ah) (aH wx ah ah)) ag))))) (aH bw (aP (ac (pv 4)) ah (λ_ _=>rfl)) ah) (λ_ _=>rfl))))
  (au (bz (i:=5) S.nd rfl (by walk_at "L") (aH ba (aH ba (ac (pv 2)) ah) (aH bw (aP (ac (pv 4)) ah (λ_ _=>rfl)) ah)))
  (au (bz (i:=6) S.nd rfl (by walk_at "L") (aP (gm (aa aw (aa aw (aa aw (aa aw ag))))) (aH bw (aP (ac (pv 4)) ah (λ_ _=>rfl)) ah) (λ_ _=>rfl)))
  (au (bz (i:=7) S.nd rfl (by walk_at "L") (aP (gm (aa aw (aa aw (aa aw ag)))) (aH bw (aH en (aP (ac (pv 4)) ah (λ_ _=>rfl)) ah) ah) (λ_ _=>rfl)))
  (aC (qH (i:=1) (pv 1) (aH ba (aH ba (aH ba (aH ba (aH ba (aH ba (bd eZ (hr.mono (by decide)) rfl rfl (aa (ac (pv 2)) ag)) aw) (bd eZ (hr.mono (by decide)) rfl rfl (aa (ac (pv 5)) ag))) aw) (ac (pv 7))) aw) (ac (pv 6)))))))))))
  (Bw 1 (aC (bu (bX PySem.F.slot_str_join PySem.F.type_str_join n6 aw (aa (ac (pv 1)) ag))))))))
theorem oP:FnScope ["_law_desk", "_law_name", "_law_found", "_law_refused", "e"] ["_law_desk", "_law_name"] (af (top 127)):=by walk_at "S"
theorem gw{f:Addr}{fd:FuncData}(F0:Fun K "_law_shown" "_law_shown" (top 127) f fd)(hm:mg "_law_shown" = some (.ref f)){C_NoName:Addr}(m_NoName:mg "NoName" = some (.ref C_NoName)){C_CueError:Addr}(m_CueError:mg "CueError" = some (.ref C_CueError)){C_NoRow:Addr}(m_NoRow:mg "NoRow" = some (.ref C_NoRow))(g1_NoName:θ K (.ref C_NoName) "__getattribute__" = some (some (.builtin "BaseException.__getattribute__")))(g2_NoName:θ K (.ref C_NoName) "__getattr__" = some none)(g3_NoName:θ K (.ref C_NoName) "__class__" = some (some (.builtin "object.__class__")))(g4_:U5 K (.builtin "object.__class__") "__get__" = some (some (.builtin "getset_descriptor.__get__")))(g5_:PySem.W.takesIn K (.builtin "object.__class__")=some true)(g6_NoName:W0 K C_NoName (.type "object")=some true)(g7_NoName:W0 K C_NoName (.type "BaseException")=some true)(ki_NoName_CueError:W7 K (.ref C_NoName) (.ref C_CueError)=some true)(ki_NoName_ValueError:W7 K (.ref C_NoName) (.type "ValueError")=some true)(ki_NoName_NoRow:W7 K (.ref C_NoName) (.ref C_NoRow)=some false)(x_NoName:X5 K C_NoName [.type "ValueError",.type "Exception",.type "BaseException",.type "object"] "ValueError.__new__" = true)(z_isinstance:mg "isinstance" = none)(z_ValueError:mg "ValueError" = none)(cI:SL.DefSMX P w K mg base 11 "Desk" "say" 2 bc):SL.DefS P w K mg base 12 "_law_shown" 2 df:=by
 have S:=oP
 refine SL.my (N:=["_law_desk", "_law_name", "_law_found", "_law_refused", "e"]) (ps:=["_law_desk", "_law_name"]) (k:=11) (g:=fy) F0 S hm (F0.binds (by walk_at "B2")) λcdv A outer s H E hr=>?_
 unfold fy
 exact(aE (cp (i:=2) S.nd rfl (by walk_at "L") (aV qG))
  (aE (cp (i:=3) S.nd rfl (by walk_at "L") (aV qG))
  (aE (wY (i:=4) x_NoName PySem.F.excBase_ValueError rfl rfl rfl m_NoName S.nd rfl rfl (λpn xe Ex hps=>(aF (cp (i:=2) S.nd rfl (by walk_at "L") (gY cI (hr.mono (by decide)) hps (λ_ _ h=>h) rfl (aG (pv 0)) (aX (aV (aH ba aw (ac (pv 1)))) dh))))) (λpn a oe hin hoe=>(aC (bz (i:=3) S.nd rfl (by walk_at "L") (dU (uo (v:=.ref C_CueError) (i:=4) hin hoe (lz g1_NoName g2_NoName g3_NoName g4_ g5_ g6_NoName g7_NoName) rfl ki_NoName_CueError rfl rfl z_isinstance rfl (Or.inl rfl) (je rfl m_CueError rfl)) (dU (uo (v:=.ty "ValueError") (i:=4) hin hoe (lz g1_NoName g2_NoName g3_NoName g4_ g5_ g6_NoName g7_NoName) rfl ki_NoName_ValueError rfl rfl z_isinstance rfl (Or.inl rfl) (vK rfl z_ValueError (by decide +kernel) rfl)) (eK (zg (uo (v:=.ref C_NoRow) (i:=4) hin hoe (lz g1_NoName g2_NoName g3_NoName g4_ g5_ g6_NoName g7_NoName) rfl ki_NoName_NoRow rfl rfl z_isinstance rfl (Or.inl rfl) (je rfl m_NoRow rfl))))))))))
  (aE (cV (bV (bt xL (ac (pv 3)) qG (aZ _))) (aF (dR (aV (gm (aa (ac (pv 3)) ag))))) cK)
  (aF (dR (aG (pv 2))))))))
theorem mR:FnScope ["_law_desk", "_law_row", "_law_found", "e"] ["_law_desk", "_law_row"] (af (top 128)):=by walk_at "S"
theorem fQ{f:Addr}{fd:FuncData}(F0:Fun K "_law_no_cue" "_law_no_cue" (top 128) f fd)(hm:mg "_law_no_cue" = some (.ref f)){C_NoCue:Addr}(m_NoCue:mg "NoCue" = some (.ref C_NoCue))(x1_NoCue:XF.ef K C_NoCue XF.VE "ValueError.__new__" = true)(g1_NoCue:θ K (.ref C_NoCue) "__getattribute__" = some (some (.builtin "BaseException.__getattribute__")))(g2_NoCue:θ K (.ref C_NoCue) "__getattr__" = some none)(sa_NoCue:θ K (.ref C_NoCue) "__setattr__" = some (some (.builtin "object.__setattr__")))(g7_NoCue:W0 K C_NoCue (.type "BaseException")=some true)(g6_NoCue:W0 K C_NoCue (.type "object")=some true)(hd_NoCue:X8 K C_NoCue=true)(st_NoCue:((PySem.W.clsIn K C_NoCue).any λcd=>XF.pj cd.mro==XF.VE)=true)(na_NoCue_row:θ K (.ref C_NoCue) "row" = some none)(cI:SL.DefSMX P w K mg base 11 "Desk" "say" 2 bc):SL.DefS P w K mg base 12 "_law_no_cue" 2 cE:=by
 have S:=mR
 refine SL.my (N:=["_law_desk", "_law_row", "_law_found", "e"]) (ps:=["_law_desk", "_law_row"]) (k:=11) (g:=eV) F0 S hm (F0.binds (by walk_at "B2")) λcdv A outer s H E hr=>?_
 unfold eV
 exact(aE (cp (i:=2) S.nd rfl (by walk_at "L") (aV qG))
  (aE (wX (i:=3) x1_NoCue rfl rfl rfl m_NoCue S.nd rfl rfl (λpn xe Ex hps=>(aF (gZ (gY cI (hr.mono (by decide)) hps (λ_ _ h=>h) rfl (aG (pv 0)) (aX (aG (pv 1)) dh))))) (λpn a oe ax od j tk hin hoe hnc hdi hin2 hlk=>(aC (bz (i:=2) S.nd rfl (by walk_at "L") (pd_xat (i:=3) ⟨g1_NoCue,g2_NoCue,sa_NoCue,g7_NoCue,g6_NoCue,hd_NoCue,st_NoCue⟩ na_NoCue_row hin hoe hnc hdi hin2 hlk rfl (Or.inl rfl))))))
  (aF (dR (aG (pv 2))))))
theorem rV:FnScope ["_law_desks", "_law_kept", "_law_names_here", "_law_start", "_law_k", "_law_desk", "_law_name", "_law_due"] ["_law_desks", "_law_kept", "_law_names_here", "_law_start"] (af (top 129)):=by walk_at "S"
theorem gj{f:Addr}{fd:FuncData}(F0:Fun K "_law_all" "_law_all" (top 129) f fd)(hm:mg "_law_all" = some (.ref f))(z_range:mg "range" = none)(gw:SL.DefS P w K mg base 12 "_law_shown" 2 df):SL.DefS P w K mg base 13 "_law_all" 4 dy:=by
 have S:=rV
 refine SL.my (N:=["_law_desks", "_law_kept", "_law_names_here", "_law_start", "_law_k", "_law_desk", "_law_name", "_law_due"]) (ps:=["_law_desks", "_law_kept", "_law_names_here", "_law_start"]) (k:=12) (g:=ia) F0 S hm (F0.binds (by walk_at "B4")) λcdv A outer s H E hr=>?_
 unfold ia cS
 exact(aE (yp PassesOwn.never rfl (kg rfl z_range (aa ah ag)) (qk (bW (i:=4) S.nd rfl (by walk_at "L"))) (aE (cp (i:=5) S.nd rfl (by walk_at "L") (aV (aH bw (aH ba (ac (pv 3)) (ac (pv 4))) ah)))
  (aE (cp (i:=6) S.nd rfl (by walk_at "L") (aV (aP (ac (pv 2)) (aH bw (aH en (aH ba (ac (pv 3)) (ac (pv 4))) ah) ah) (λ_ _=>rfl))))
  (aE (cp (i:=7) S.nd rfl (by walk_at "L") (aV (gm (aa jE ag))))
  (aE (cV (yo (nK hr) (aG (pv 6)) (rK (aG (pv 1)) (aG (pv 5)) (λ_ _=>rfl))) (aF (cp (i:=7) S.nd rfl (by walk_at "L") (vy (nK hr) (rK (aG (pv 1)) (aG (pv 5)) (λ_ _=>rfl)) (aG (pv 6)) (λ_ _=>rfl)))) cK)
  (aF (cV (st_cmp (jP hr.units) (jX gw (hr.mono (by decide)) rfl rfl (aX (rK (aG (pv 0)) (aG (pv 5)) (λ_ _=>rfl)) (aX (aG (pv 6)) dh))) (aG (pv 7)) (aZ _)) (aF (dR (aV jE))) cK)))))))
  (aF (dR (aV jE))))
theorem qu:FnScope ["_law_desk", "_law_told", "_law_name", "_law_cell", "_law_row", "_law_text_here", "_law_odd"] ["_law_desk", "_law_told", "_law_name", "_law_cell"] (af (top 130)):=by walk_at "S"
theorem il{f:Addr}{fd:FuncData}(F0:Fun K "_law_done" "_law_done" (top 130) f fd)(hm:mg "_law_done" = some (.ref f))(gl:Def P w K mg base 2 "_law_text" 1 dw)(cI:SL.DefSMX P w K mg base 11 "Desk" "say" 2 bc)(fQ:SL.DefS P w K mg base 12 "_law_no_cue" 2 cE):SL.DefS P w K mg base 13 "_law_done" 4 cU:=by
 have S:=qu
 refine SL.my (N:=["_law_desk", "_law_told", "_law_name", "_law_cell", "_law_row", "_law_text_here", "_law_odd"]) (ps:=["_law_desk", "_law_told", "_law_name", "_law_cell"]) (k:=12) (g:=dn) F0 S hm (F0.binds (by walk_at "B4")) λcdv A outer s H E hr=>?_
 unfold dn
 exact(aE (cp (i:=4) S.nd rfl (by walk_at "L") (aV (aH ba aw (ac (pv 2)))))
  (aE (cV (bV (bt n5 (aH bw (ac (pv 3)) ah) ah (aZ _))) (aE (cp (i:=5) S.nd rfl (by walk_at "L") (aV (bd gl (hr.mono (by decide)) rfl rfl (aa (aH en (ac (pv 3)) ah) ag))))
  (aE (cV (bV (PDW.t (qB (bt (jP hr.units) (ac (pv 5)) aw (aZ _)) (mm (bt dop_gt (aH bw (aH en (ac (pv 3)) ah) ah) ah (aZ _)))))) (aF (cp (i:=4) S.nd rfl (by walk_at "L") (aV (aH ba (aH ba (ac (pv 4)) aw) (ac (pv 5)))))) cK)
  (aE (vA (nK hr) (aG (pv 1)) (aG (pv 2)) (aG (pv 5)))
  (aF (dR (tS (bI hr.units) (vw cI (hr.mono (by decide)) rfl (aG (pv 0)) (aX (aG (pv 4)) dh)) (aV aw) (aZ _))))))) cK)
  (aE (cV (bV (bt (bI hr.units) (aH bw (ac (pv 3)) ah) ah (aZ _))) (aE (cp (i:=6) S.nd rfl (by walk_at "L") (aV (aP (gm (aa aw (aa aw (aa (aH ba (bd gl (hr.mono (by decide)) rfl rfl (aa ah ag)) aw) (aa aw ag))))) (aH bw (aH en (ac (pv 3)) ah) ah) (λ_ _=>rfl))))
  (aF (dR (tS (bI hr.units) (jX fQ (hr.mono (by decide)) rfl rfl (aX (aG (pv 0)) (aX (aV (aH ba (aH ba (ac (pv 4)) aw) (ac (pv 6)))) dh))) (aV (aP (gm (aa ah (aa ah (aa ah (aa ah ag))))) (aH bw (aH en (ac (pv 3)) ah) ah) (λ_ _=>rfl))) (aZ _))))) cK)
  (aE (cV (SW.t (sw_and (bV (bt (bI hr.units) (aH bw (ac (pv 3)) ah) ah (aZ _))) (A7 (yo (nK hr) (aG (pv 2)) (aG (pv 1)))))) (aE (gZ (vx (aG (pv 1)) (aG (pv 2)) ⟨rfl,rfl,rfl,rfl⟩))
  (aF (dR (tS (bI hr.units) (vw cI (hr.mono (by decide)) rfl (aG (pv 0)) (aX (aV (aH ba aw (ac (pv 2)))) dh)) (aV aw) (aZ _))))) cK)
  (aF (dR (aV jE)))))))
theorem sc_law:FnScope ["_law_script", "_law_names_here", "_law_desks", "_law_kept", "_law_k", "_law_cell", "_law_which", "_law_name"] ["_law_script"] (af (top 131)):=by walk_at "S"
theorem fn_law{f:Addr}{fd:FuncData}(F0:Fun K "law" "law" (top 131) f fd)(er:Def P w K mg base 1 "_law_cell_at" 2 bU)(iu:Def P w K mg base 2 "_law_names" 1 eE)(z_enumerate:mg "enumerate" = none)(fB:SL.MkS P w K mg base 1 "Desk" 1 cm)(il:SL.DefS P w K mg base 13 "_law_done" 4 cU)(gj:SL.DefS P w K mg base 13 "_law_all" 4 dy):FnOk P w K mg base CX0 14 f fd ["_law_script"] (spD K 1 wK):=by
 have S:=sc_law
 refine SL.fn_toD (SL.uO (N:=["_law_script", "_law_names_here", "_law_desks", "_law_kept", "_law_k", "_law_cell", "_law_which", "_law_name"]) (ps:=["_law_script"]) (k:=13) (g:=wa) F0 S λcdv A outer s H E hr=>?_)
 unfold wa iw
 exact(aE (cp (i:=1) S.nd rfl (by walk_at "L") (aV (bd iu (hr.mono (by decide)) rfl rfl (aa (bd er (hr.mono (by decide)) rfl rfl (aa (ac (pv 0)) (aa ah ag))) ag))))
  (aE (cp (i:=2) S.nd rfl (by walk_at "L") (yi (aX (yh fB (hr.mono (by decide)) rfl) (aX (yh fB (hr.mono (by decide)) rfl) dh))))
  (aE (cp (i:=3) S.nd rfl (by walk_at "L") (yi (aX qg (aX qg dh))))
  (aE (yp PassesOwn.never rfl (ze rfl z_enumerate (aa (vM (ac (pv 0)) (m7 ah) (m7 ah)) ag)) (sg_tup rfl (rP (qk (bW (i:=4) S.nd rfl (by walk_at "L"))) (rP (qk (bW (i:=5) S.nd rfl (by walk_at "L"))) Bc))) (aE (cp (i:=6) S.nd rfl (by walk_at "L") (aV (aH bw (ac (pv 5)) ah)))
  (aE (cp (i:=7) S.nd rfl (by walk_at "L") (aV (aP (ac (pv 1)) (aH bw (aH en (ac (pv 5)) ah) ah) (λ_ _=>rfl))))
  (aE (cV (yn (ym (jX il (hr.mono (by decide)) rfl rfl (aX (rK (aG (pv 2)) (aG (pv 6)) (λ_ _=>rfl)) (aX (rK (aG (pv 3)) (aG (pv 6)) (λ_ _=>rfl)) (aX (aG (pv 7)) (aX (aV (aH en (ac (pv 5)) ah)) dh))))))) (aF (dR (aV jE))) cK)
  (aF (cV (yn (ym (jX gj (hr.mono (by decide)) rfl rfl (aX (aG (pv 2)) (aX (aG (pv 3)) (aX (aG (pv 1)) (aX (aV (aH ba (bd er (hr.mono (by decide)) rfl rfl (aa (ac (pv 0)) (aa ah ag))) (aH im (ac (pv 4)) (ac (pv 5))))) dh))))))) (aF (dR (aV jE))) cK))))))
  (aF (dR (jX gj (hr.mono (by decide)) rfl rfl (aX (aG (pv 2)) (aX (aG (pv 3)) (aX (aG (pv 1)) (aX (aV ah) dh)))))))))))
end
theorem all_mk{l:PySem.W.OpenLaw}{w:World}{K:ε}{h:Heap}{mg:Str->Option Value}{fa f0 f1 f2 f3 f4 f5 f6 f7 f8 f9 f10 f11 f12 f13 f14 f15 f16 f17 f18 f19 f20 f21 f22 f23 f24 f25 f26 f27 f28 f29 f30 f31 f32 f33 f34 f35 f36 f37 f38 f39 f40:Addr}(X:K.In h)(G:h.Ns mainGlobals mg)(hfa:mg "law" = some (.ref fa))
  {od0 an0 od1 an1 od2 an2 od3 an3 od4 an4 od5 an5 od6 an6 od7 an7 od8 an8 od9 an9 od10 an10 od11 an11 od12 an12 od13 an13 od14 an14 od15 an15 od16 an16 od17 an17 od18 an18 od19 an19 od20 an20 od21 an21 od22 an22 od23 an23 od24 an24 od25 an25 od26 an26 od27 an27 od28 an28 od29 an29 od30 an30 od31 an31 od32 an32 od33 an33 od34 an34 od35 an35 od36 an36 od37 an37 od38 an38 od39 an39 od40 an40:Option Addr} {sl0 sl1 sl2 sl3 sl4 sl5 sl6 sl7 sl8 sl9 sl10 sl11 sl12 sl13 sl14 sl15 sl16 sl17 sl18 sl19 sl20 sl21 sl22 sl23 sl24 sl25 sl26 sl27 sl28 sl29 sl30 sl31 sl32 sl33 sl34 sl35 sl36 sl37 sl38 sl39 sl40:Array (Option Value)} {oc0 kV0 dc0 pm0 cd0 ct0 oc1 kV1 dc1 pm1 cd1 ct1 oc2 kV2 dc2 pm2 cd2 ct2 oc3 kV3 dc3 pm3 cd3 ct3 oc4 kV4 dc4 pm4 cd4 ct4 oc5 kV5 dc5 pm5 cd5 ct5 oc6 kV6 dc6 pm6 cd6 ct6 oc7 kV7 dc7 pm7 cd7 ct7 oc8 kV8 dc8 pm8 cd8 ct8 oc9 kV9 dc9 pm9 cd9 ct9 oc10 kV10 dc10 pm10 cd10 ct10 oc11 kV11 dc11 pm11 cd11 ct11 oc12 kV12 dc12 pm12 cd12 ct12 oc13 kV13 dc13 pm13 cd13 ct13 oc14 kV14 dc14 pm14 cd14 ct14 oc15 kV15 dc15 pm15 cd15 ct15 oc16 kV16 dc16 pm16 cd16 ct16 oc17 kV17 dc17 pm17 cd17 ct17 oc18 kV18 dc18 pm18 cd18 ct18 oc19 kV19 dc19 pm19 cd19 ct19 oc20 kV20 dc20 pm20 cd20 ct20 oc21 kV21 dc21 pm21 cd21 ct21 oc22 kV22 dc22 pm22 cd22 ct22 oc23 kV23 dc23 pm23 cd23 ct23 oc24 kV24 dc24 pm24 cd24 ct24 oc25 kV25 dc25 pm25 cd25 ct25 oc26 kV26 dc26 pm26 cd26 ct26 oc27 kV27 dc27 pm27 cd27 ct27 oc28 kV28 dc28 pm28 cd28 ct28 oc29 kV29 dc29 pm29 cd29 ct29 oc30 kV30 dc30 pm30 cd30 ct30 oc31 kV31 dc31 pm31 cd31 ct31 oc32 kV32 dc32 pm32 cd32 ct32 oc33 kV33 dc33 pm33 cd33 ct33 oc34 kV34 dc34 pm34 cd34 ct34 oc35 kV35 dc35 pm35 cd35 ct35 oc36 kV36 dc36 pm36 cd36 ct36 oc37 kV37 dc37 pm37 cd37 ct37 oc38 kV38 dc38 pm38 cd38 ct38 oc39 kV39 dc39 pm39 cd39 ct39 oc40 kV40 dc40 pm40 cd40 ct40:Value}
  (a0:η K mainGlobals "show_parts" = some (some (.ref f0))) (l0:K.lookup f0=some ⟨oc0,od0,.func (ψ "show_parts" "show_parts" (aM (top 38)) (aB (top 38)) (af (top 38)) .none kV0 dc0 pm0 an0 cd0 ct0),sl0⟩) (c0:ς K cd0 "show_parts" = true) (k0:ξ K (.ref f0)=true)
  (a1:η K mainGlobals "show_moment" = some (some (.ref f1))) (l1:K.lookup f1=some ⟨oc1,od1,.func (ψ "show_moment" "show_moment" (aM (top 32)) (aB (top 32)) (af (top 32)) .none kV1 dc1 pm1 an1 cd1 ct1),sl1⟩) (c1:ς K cd1 "show_moment" = true) (k1:ξ K (.ref f1)=true)
  (a3:η K mainGlobals "are_figures" = some (some (.ref f3))) (l3:K.lookup f3=some ⟨oc3,od3,.func (ψ "are_figures" "are_figures" (aM (top 21)) (aB (top 21)) (af (top 21)) .none kV3 dc3 pm3 an3 cd3 ct3),sl3⟩) (c3:ς K cd3 "are_figures" = true) (k3:ξ K (.ref f3)=true)
  (a4:η K mainGlobals "has_figures" = some (some (.ref f4))) (l4:K.lookup f4=some ⟨oc4,od4,.func (ψ "has_figures" "has_figures" (aM (top 42)) (aB (top 42)) (af (top 42)) .none kV4 dc4 pm4 an4 cd4 ct4),sl4⟩) (c4:ς K cd4 "has_figures" = true) (k4:ξ K (.ref f4)=true)
  (a5:η K mainGlobals "are_hours" = some (some (.ref f5))) (l5:K.lookup f5=some ⟨oc5,od5,.func (ψ "are_hours" "are_hours" (aM (top 40)) (aB (top 40)) (af (top 40)) .none kV5 dc5 pm5 an5 cd5 ct5),sl5⟩) (c5:ς K cd5 "are_hours" = true) (k5:ξ K (.ref f5)=true)
  (a6:η K mainGlobals "are_sixtieths" = some (some (.ref f6))) (l6:K.lookup f6=some ⟨oc6,od6,.func (ψ "are_sixtieths" "are_sixtieths" (aM (top 41)) (aB (top 41)) (af (top 41)) .none kV6 dc6 pm6 an6 cd6 ct6),sl6⟩) (c6:ς K cd6 "are_sixtieths" = true) (k6:ξ K (.ref f6)=true)
  (a7:η K mainGlobals "read_parts" = some (some (.ref f7))) (l7:K.lookup f7=some ⟨oc7,od7,.func (ψ "read_parts" "read_parts" (aM (top 39)) (aB (top 39)) (af (top 39)) .none kV7 dc7 pm7 an7 cd7 ct7),sl7⟩) (c7:ς K cd7 "read_parts" = true) (k7:ξ K (.ref f7)=true)
  (a8:η K mainGlobals "read_moment" = some (some (.ref f8))) (l8:K.lookup f8=some ⟨oc8,od8,.func (ψ "read_moment" "read_moment" (aM (top 33)) (aB (top 33)) (af (top 33)) .none kV8 dc8 pm8 an8 cd8 ct8),sl8⟩) (c8:ς K cd8 "read_moment" = true) (k8:ξ K (.ref f8)=true)
  (a11:η K mainGlobals "words_and_text" = some (some (.ref f11))) (l11:K.lookup f11=some ⟨oc11,od11,.func (ψ "words_and_text" "words_and_text" (aM (top 114)) (aB (top 114)) (af (top 114)) .none kV11 dc11 pm11 an11 cd11 ct11),sl11⟩) (c11:ς K cd11 "words_and_text" = true) (k11:ξ K (.ref f11)=true)
  (a12:η K mainGlobals "is_row" = some (some (.ref f12))) (l12:K.lookup f12=some ⟨oc12,od12,.func (ψ "is_row" "is_row" (aM (top 115)) (aB (top 115)) (af (top 115)) .none kV12 dc12 pm12 an12 cd12 ct12),sl12⟩) (c12:ς K cd12 "is_row" = true) (k12:ξ K (.ref f12)=true)
  (a13:η K mainGlobals "show_row" = some (some (.ref f13))) (l13:K.lookup f13=some ⟨oc13,od13,.func (ψ "show_row" "show_row" (aM (top 50)) (aB (top 50)) (af (top 50)) .none kV13 dc13 pm13 an13 cd13 ct13),sl13⟩) (c13:ς K cd13 "show_row" = true) (k13:ξ K (.ref f13)=true)
  (a14:η K mainGlobals "show_cues" = some (some (.ref f14))) (l14:K.lookup f14=some ⟨oc14,od14,.func (ψ "show_cues" "show_cues" (aM (top 49)) (aB (top 49)) (af (top 49)) .none kV14 dc14 pm14 an14 cd14 ct14),sl14⟩) (c14:ς K cd14 "show_cues" = true) (k14:ξ K (.ref f14)=true)
  (a16:η K mainGlobals "is_name" = some (some (.ref f16))) (l16:K.lookup f16=some ⟨oc16,od16,.func (ψ "is_name" "is_name" (aM (top 17)) (aB (top 17)) (af (top 17)) .none kV16 dc16 pm16 an16 cd16 ct16),sl16⟩) (c16:ς K cd16 "is_name" = true) (k16:ξ K (.ref f16)=true)
  (a17:η K mainGlobals "read_new" = some (some (.ref f17))) (l17:K.lookup f17=some ⟨oc17,od17,.func (ψ "read_new" "read_new" (aM (top 117)) (aB (top 117)) (af (top 117)) .none kV17 dc17 pm17 an17 cd17 ct17),sl17⟩) (c17:ς K cd17 "read_new" = true) (k17:ξ K (.ref f17)=true)
  (a19:η K mainGlobals "is_whole" = some (some (.ref f19))) (l19:K.lookup f19=some ⟨oc19,od19,.func (ψ "is_whole" "is_whole" (aM (top 16)) (aB (top 16)) (af (top 16)) .none kV19 dc19 pm19 an19 cd19 ct19),sl19⟩) (c19:ς K cd19 "is_whole" = true) (k19:ξ K (.ref f19)=true)
  (a20:η K mainGlobals "is_word_sign" = some (some (.ref f20))) (l20:K.lookup f20=some ⟨oc20,od20,.func (ψ "is_word_sign" "is_word_sign" (aM (top 20)) (aB (top 20)) (af (top 20)) .none kV20 dc20 pm20 an20 cd20 ct20),sl20⟩) (c20:ς K cd20 "is_word_sign" = true) (k20:ξ K (.ref f20)=true)
  (a21:η K mainGlobals "is_word" = some (some (.ref f21))) (l21:K.lookup f21=some ⟨oc21,od21,.func (ψ "is_word" "is_word" (aM (top 19)) (aB (top 19)) (af (top 19)) .none kV21 dc21 pm21 an21 cd21 ct21),sl21⟩) (c21:ς K cd21 "is_word" = true) (k21:ξ K (.ref f21)=true)
  (a22:η K mainGlobals "are_words" = some (some (.ref f22))) (l22:K.lookup f22=some ⟨oc22,od22,.func (ψ "are_words" "are_words" (aM (top 18)) (aB (top 18)) (af (top 18)) .none kV22 dc22 pm22 an22 cd22 ct22),sl22⟩) (c22:ς K cd22 "are_words" = true) (k22:ξ K (.ref f22)=true)
  (a23:η K mainGlobals "is_cue" = some (some (.ref f23))) (l23:K.lookup f23=some ⟨oc23,od23,.func (ψ "is_cue" "is_cue" (aM (top 48)) (aB (top 48)) (af (top 48)) .none kV23 dc23 pm23 an23 cd23 ct23),sl23⟩) (c23:ς K cd23 "is_cue" = true) (k23:ξ K (.ref f23)=true)
  (a24:η K mainGlobals "read_row" = some (some (.ref f24))) (l24:K.lookup f24=some ⟨oc24,od24,.func (ψ "read_row" "read_row" (aM (top 53)) (aB (top 53)) (af (top 53)) .none kV24 dc24 pm24 an24 cd24 ct24),sl24⟩) (c24:ς K cd24 "read_row" = true) (k24:ξ K (.ref f24)=true)
  (a25:η K mainGlobals "rows_of" = some (some (.ref f25))) (l25:K.lookup f25=some ⟨oc25,od25,.func (ψ "rows_of" "rows_of" (aM (top 52)) (aB (top 52)) (af (top 52)) .none kV25 dc25 pm25 an25 cd25 ct25),sl25⟩) (c25:ς K cd25 "rows_of" = true) (k25:ξ K (.ref f25)=true)
  (a26:η K mainGlobals "read_cues" = some (some (.ref f26))) (l26:K.lookup f26=some ⟨oc26,od26,.func (ψ "read_cues" "read_cues" (aM (top 51)) (aB (top 51)) (af (top 51)) .none kV26 dc26 pm26 an26 cd26 ct26),sl26⟩) (c26:ς K cd26 "read_cues" = true) (k26:ξ K (.ref f26)=true)
  (a31:η K mainGlobals "_law_cell_at" = some (some (.ref f31))) (l31:K.lookup f31=some ⟨oc31,od31,.func (ψ "_law_cell_at" "_law_cell_at" (aM (top 122)) (aB (top 122)) (af (top 122)) .none kV31 dc31 pm31 an31 cd31 ct31),sl31⟩) (c31:ς K cd31 "_law_cell_at" = true) (k31:ξ K (.ref f31)=true)
  (a32:η K mainGlobals "_law_numbers" = some (some (.ref f32))) (l32:K.lookup f32=some ⟨oc32,od32,.func (ψ "_law_numbers" "_law_numbers" (aM (top 123)) (aB (top 123)) (af (top 123)) .none kV32 dc32 pm32 an32 cd32 ct32),sl32⟩) (c32:ς K cd32 "_law_numbers" = true) (k32:ξ K (.ref f32)=true)
  (a33:η K mainGlobals "_law_names" = some (some (.ref f33))) (l33:K.lookup f33=some ⟨oc33,od33,.func (ψ "_law_names" "_law_names" (aM (top 124)) (aB (top 124)) (af (top 124)) .none kV33 dc33 pm33 an33 cd33 ct33),sl33⟩) (c33:ς K cd33 "_law_names" = true) (k33:ξ K (.ref f33)=true)
  (a34:η K mainGlobals "_law_moment" = some (some (.ref f34))) (l34:K.lookup f34=some ⟨oc34,od34,.func (ψ "_law_moment" "_law_moment" (aM (top 125)) (aB (top 125)) (af (top 125)) .none kV34 dc34 pm34 an34 cd34 ct34),sl34⟩) (c34:ς K cd34 "_law_moment" = true) (k34:ξ K (.ref f34)=true)
  (a35:η K mainGlobals "_law_text" = some (some (.ref f35))) (l35:K.lookup f35=some ⟨oc35,od35,.func (ψ "_law_text" "_law_text" (aM (top 126)) (aB (top 126)) (af (top 126)) .none kV35 dc35 pm35 an35 cd35 ct35),sl35⟩) (c35:ς K cd35 "_law_text" = true) (k35:ξ K (.ref f35)=true)
  (a36:η K mainGlobals "_law_shown" = some (some (.ref f36))) (l36:K.lookup f36=some ⟨oc36,od36,.func (ψ "_law_shown" "_law_shown" (aM (top 127)) (aB (top 127)) (af (top 127)) .none kV36 dc36 pm36 an36 cd36 ct36),sl36⟩) (c36:ς K cd36 "_law_shown" = true) (k36:ξ K (.ref f36)=true)
  (a37:η K mainGlobals "_law_no_cue" = some (some (.ref f37))) (l37:K.lookup f37=some ⟨oc37,od37,.func (ψ "_law_no_cue" "_law_no_cue" (aM (top 128)) (aB (top 128)) (af (top 128)) .none kV37 dc37 pm37 an37 cd37 ct37),sl37⟩) (c37:ς K cd37 "_law_no_cue" = true) (k37:ξ K (.ref f37)=true)
  (a38:η K mainGlobals "_law_all" = some (some (.ref f38))) (l38:K.lookup f38=some ⟨oc38,od38,.func (ψ "_law_all" "_law_all" (aM (top 129)) (aB (top 129)) (af (top 129)) .none kV38 dc38 pm38 an38 cd38 ct38),sl38⟩) (c38:ς K cd38 "_law_all" = true) (k38:ξ K (.ref f38)=true)
  (a39:η K mainGlobals "_law_done" = some (some (.ref f39))) (l39:K.lookup f39=some ⟨oc39,od39,.func (ψ "_law_done" "_law_done" (aM (top 130)) (aB (top 130)) (af (top 130)) .none kV39 dc39 pm39 an39 cd39 ct39),sl39⟩) (c39:ς K cd39 "_law_done" = true) (k39:ξ K (.ref f39)=true)
  (a40:η K mainGlobals "law" = some (some (.ref f40))) (l40:K.lookup f40=some ⟨oc40,od40,.func (ψ "law" "law" (aM (top 131)) (aB (top 131)) (af (top 131)) .none kV40 dc40 pm40 an40 cd40 ct40),sl40⟩) (c40:ς K cd40 "law" = true) (k40:ξ K (.ref f40)=true)
  (z_str:η K mainGlobals "str" = some none)
  (z_all:η K mainGlobals "all" = some none)
  (z_len:η K mainGlobals "len" = some none)
  (z_int:η K mainGlobals "int" = some none)
  (z_isinstance:η K mainGlobals "isinstance" = some none)
  (z_dict:η K mainGlobals "dict" = some none)
  (z_bool:η K mainGlobals "bool" = some none)
  (z_ord:η K mainGlobals "ord" = some none)
  (z_tuple:η K mainGlobals "tuple" = some none)
  (z_enumerate:η K mainGlobals "enumerate" = some none)
  (z_range:η K mainGlobals "range" = some none)
  (z_divmod:η K mainGlobals "divmod" = some none)
  (z_ValueError:η K mainGlobals "ValueError" = some none)
  {C_Thousandths:Addr} (n_Thousandths:η K mainGlobals "Thousandths" = some (some (.ref C_Thousandths)))
  {C_NoTime:Addr} (n_NoTime:η K mainGlobals "NoTime" = some (some (.ref C_NoTime)))
  {C_Desk:Addr} (n_Desk:η K mainGlobals "Desk" = some (some (.ref C_Desk)))
  {C_NoName:Addr} (n_NoName:η K mainGlobals "NoName" = some (some (.ref C_NoName)))
  {C_NoCue:Addr} (n_NoCue:η K mainGlobals "NoCue" = some (some (.ref C_NoCue)))
  {C_CueError:Addr} (n_CueError:η K mainGlobals "CueError" = some (some (.ref C_CueError)))
  {C_NoRow:Addr} (n_NoRow:η K mainGlobals "NoRow" = some (some (.ref C_NoRow)))
  (a2:θ K (.ref C_Thousandths) "show" = some (some (.ref f2))) (l2:K.lookup f2=some ⟨oc2,od2,.func (ψ "show" "Thousandths.show" (aM (mth (top 45) 0)) (aB (mth (top 45) 0)) (af (mth (top 45) 0)) .none kV2 dc2 pm2 an2 cd2 ct2),sl2⟩) (c2:ς K cd2 "Thousandths.show" = true) (k2:ξ K (.ref f2)=true) (i2:X3 K (.ref f2)=true)
  (a9:θ K (.ref C_Thousandths) "read" = some (some (.ref f9))) (l9:K.lookup f9=some ⟨oc9,od9,.func (ψ "read" "Thousandths.read" (aM (mth (top 45) 1)) (aB (mth (top 45) 1)) (af (mth (top 45) 1)) .none kV9 dc9 pm9 an9 cd9 ct9),sl9⟩) (c9:ς K cd9 "Thousandths.read" = true) (k9:ξ K (.ref f9)=true) (i9:X3 K (.ref f9)=true)
  (a10:θ K (.ref C_Desk) "__init__" = some (some (.ref f10))) (l10:K.lookup f10=some ⟨oc10,od10,.func (ψ "__init__" "Desk.__init__" (aM (mth (top 113) 0)) (aB (mth (top 113) 0)) (af (mth (top 113) 0)) .none kV10 dc10 pm10 an10 cd10 ct10),sl10⟩) (c10:ς K cd10 "Desk.__init__" = true) (k10:ξ K (.ref f10)=true) (i10:X3 K (.ref f10)=true)
  (mk10:W9 K C_Desk=true) (kc10:ξ K (.ref C_Desk)=true)
  (a15:θ K (.ref C_Desk) "cues_by" = some (some (.ref f15))) (l15:K.lookup f15=some ⟨oc15,od15,.func (ψ "cues_by" "Desk.cues_by" (aM (mth (top 113) 3)) (aB (mth (top 113) 3)) (af (mth (top 113) 3)) .none kV15 dc15 pm15 an15 cd15 ct15),sl15⟩) (c15:ς K cd15 "Desk.cues_by" = true) (k15:ξ K (.ref f15)=true) (i15:X3 K (.ref f15)=true)
  (a18:θ K (.ref C_NoCue) "__init__" = some (some (.ref f18))) (l18:K.lookup f18=some ⟨oc18,od18,.func (ψ "__init__" "NoCue.__init__" (aM (mth (top 4) 0)) (aB (mth (top 4) 0)) (af (mth (top 4) 0)) .none kV18 dc18 pm18 an18 cd18 ct18),sl18⟩) (c18:ς K cd18 "NoCue.__init__" = true) (k18:ξ K (.ref f18)=true) (i18:X3 K (.ref f18)=true)
  (kc18:ξ K (.ref C_NoCue)=true)
  (a27:θ K (.ref C_Desk) "put_cues" = some (some (.ref f27))) (l27:K.lookup f27=some ⟨oc27,od27,.func (ψ "put_cues" "Desk.put_cues" (aM (mth (top 113) 9)) (aB (mth (top 113) 9)) (af (mth (top 113) 9)) .none kV27 dc27 pm27 an27 cd27 ct27),sl27⟩) (c27:ς K cd27 "Desk.put_cues" = true) (k27:ξ K (.ref f27)=true) (i27:X3 K (.ref f27)=true)
  (a28:θ K (.ref C_Desk) "drop_cues" = some (some (.ref f28))) (l28:K.lookup f28=some ⟨oc28,od28,.func (ψ "drop_cues" "Desk.drop_cues" (aM (mth (top 113) 10)) (aB (mth (top 113) 10)) (af (mth (top 113) 10)) .none kV28 dc28 pm28 an28 cd28 ct28),sl28⟩) (c28:ς K cd28 "Desk.drop_cues" = true) (k28:ξ K (.ref f28)=true) (i28:X3 K (.ref f28)=true)
  (a29:θ K (.ref C_Desk) "change" = some (some (.ref f29))) (l29:K.lookup f29=some ⟨oc29,od29,.func (ψ "change" "Desk.change" (aM (mth (top 113) 2)) (aB (mth (top 113) 2)) (af (mth (top 113) 2)) .none kV29 dc29 pm29 an29 cd29 ct29),sl29⟩) (c29:ς K cd29 "Desk.change" = true) (k29:ξ K (.ref f29)=true) (i29:X3 K (.ref f29)=true)
  (a30:θ K (.ref C_Desk) "say" = some (some (.ref f30))) (l30:K.lookup f30=some ⟨oc30,od30,.func (ψ "say" "Desk.say" (aM (mth (top 113) 1)) (aB (mth (top 113) 1)) (af (mth (top 113) 1)) .none kV30 dc30 pm30 an30 cd30 ct30),sl30⟩) (c30:ς K cd30 "Desk.say" = true) (k30:ξ K (.ref f30)=true) (i30:X3 K (.ref f30)=true)
  {t_FIGURES:Tok} (n_FIGURES:η K mainGlobals "FIGURES" = some (some (.str "0123456789" t_FIGURES)))
  {a_FIRST_SETTINGS:Addr} (n_FIRST_SETTINGS:η K mainGlobals "FIRST_SETTINGS" = some (some (.ref a_FIRST_SETTINGS))) (T_FIRST_SETTINGS:KDD l.prog w K a_FIRST_SETTINGS cg)
  {a_HOW_MANY:Addr} (n_HOW_MANY:η K mainGlobals "HOW_MANY" = some (some (.ref a_HOW_MANY))) (T_HOW_MANY:KDD l.prog w K a_HOW_MANY cH)
  {t_PERCENT:Tok} (n_PERCENT:η K mainGlobals "PERCENT" = some (some (.int 37 t_PERCENT)))
  (nn_Thousandths:η K mainGlobals "Thousandths" = some (some (.ref C_Thousandths)))
  (pg_Thousandths:W6 K C_Thousandths Str.empty=true)
  (hd_Thousandths:X8 K C_Thousandths=true)
  (po_Thousandths:V6 K C_Thousandths=true)
  (sa_Thousandths:θ K (.ref C_Thousandths) "__setattr__" = some (some (.builtin "object.__setattr__")))
  (x_NoTime:X5 K C_NoTime [.type "ValueError",.type "Exception",.type "BaseException",.type "object"] "ValueError.__new__" = true)
  (nn_Desk:η K mainGlobals "Desk" = some (some (.ref C_Desk)))
  (pg_Desk:W6 K C_Desk Str.empty=true)
  (hd_Desk:X8 K C_Desk=true)
  (po_Desk:V6 K C_Desk=true)
  (sa_Desk:θ K (.ref C_Desk) "__setattr__" = some (some (.builtin "object.__setattr__")))
  (na_Desk_cues:θ K (.ref C_Desk) "cues" = some none)
  (na_Desk_clock:θ K (.ref C_Desk) "clock" = some none)
  (mk_Thousandths:W9 K C_Thousandths=true)
  (ii_Thousandths:θ K (.ref C_Thousandths) "__init__" = some (some (.builtin "object.__init__")))
  (so_Thousandths:PySem.W.subIn K (.ref C_Thousandths) (.type "object")=some true)
  (kc_Thousandths:ξ K (.ref C_Thousandths)=true)
  (na_Desk_settings:θ K (.ref C_Desk) "settings" = some none)
  (na_Desk_cuts:θ K (.ref C_Desk) "cuts" = some none)
  (x_NoName:X5 K C_NoName [.type "ValueError",.type "Exception",.type "BaseException",.type "object"] "ValueError.__new__" = true)
  (x1_NoCue:XF.ef K C_NoCue XF.VE "ValueError.__new__" = true)
  (g1_NoCue:θ K (.ref C_NoCue) "__getattribute__" = some (some (.builtin "BaseException.__getattribute__")))
  (g2_NoCue:θ K (.ref C_NoCue) "__getattr__" = some none)
  (sa_NoCue:θ K (.ref C_NoCue) "__setattr__" = some (some (.builtin "object.__setattr__")))
  (g7_NoCue:W0 K C_NoCue (.type "BaseException")=some true)
  (g6_NoCue:W0 K C_NoCue (.type "object")=some true)
  (hd_NoCue:X8 K C_NoCue=true)
  (st_NoCue:((PySem.W.clsIn K C_NoCue).any λcd=>XF.pj cd.mro==XF.VE)=true)
  (na_NoCue_row:θ K (.ref C_NoCue) "row" = some none)
  (rd_CueError:PySem.W.readsIn K C_CueError (.type "type")=true)
  (sp_CueError:U5 K (.ref C_CueError) "__getattribute__" = some (some (.builtin "type.__getattribute__")))
  (fd_CueError:PySem.W.findCls K (.ref C_CueError) (.type "type") "__init__" = some (.val (.builtin "ValueError.__init__")))
  (x1_NoTime:XF.ef K C_NoTime XF.VE "ValueError.__new__" = true)
  (x_NoRow:X5 K C_NoRow [.type "ValueError",.type "Exception",.type "BaseException",.type "object"] "ValueError.__new__" = true)
  (g1_NoName:θ K (.ref C_NoName) "__getattribute__" = some (some (.builtin "BaseException.__getattribute__")))
  (g2_NoName:θ K (.ref C_NoName) "__getattr__" = some none)
  (g3_NoName:θ K (.ref C_NoName) "__class__" = some (some (.builtin "object.__class__")))
  (g4_:U5 K (.builtin "object.__class__") "__get__" = some (some (.builtin "getset_descriptor.__get__")))
  (g5_:PySem.W.takesIn K (.builtin "object.__class__")=some true)
  (g6_NoName:W0 K C_NoName (.type "object")=some true)
  (g7_NoName:W0 K C_NoName (.type "BaseException")=some true)
  (ki_NoName_CueError:W7 K (.ref C_NoName) (.ref C_CueError)=some true)
  (ki_NoName_ValueError:W7 K (.ref C_NoName) (.type "ValueError")=some true)
  (ki_NoName_NoRow:W7 K (.ref C_NoName) (.ref C_NoRow)=some false) :
  ∃fd:FuncData,(∀(s:Shared) (v:Value),BindsTo s fd ⟨[v],[]⟩ [("_law_script",v)])/\∀base:Heap,K.In base->base.Ns mainGlobals mg->FnOk l.prog w K mg base CX0 14 fa fd ["_law_script"] (spD K 1 wK):=by
 have cT:ClsT_Desk K C_Desk:=⟨nn_Desk,⟨pg_Desk,hd_Desk,po_Desk,sa_Desk⟩,na_Desk_cues,na_Desk_clock,na_Desk_settings,na_Desk_cuts⟩
 have e:=hfa.symm.trans (χ X G a40)
 cases e
 have zz_str:=Y4 X G z_str
 have zz_all:=Y4 X G z_all
 have zz_len:=Y4 X G z_len
 have zz_int:=Y4 X G z_int
 have zz_isinstance:=Y4 X G z_isinstance
 have zz_dict:=Y4 X G z_dict
 have zz_bool:=Y4 X G z_bool
 have zz_ord:=Y4 X G z_ord
 have zz_tuple:=Y4 X G z_tuple
 have zz_enumerate:=Y4 X G z_enumerate
 have zz_range:=Y4 X G z_range
 have zz_divmod:=Y4 X G z_divmod
 have zz_ValueError:=Y4 X G z_ValueError
 refine⟨ψ "law" "law" (aM (top 131)) (aB (top 131)) (af (top 131)) .none kV40 dc40 pm40 an40 cd40 ct40,λs v=>.of_eq rfl,λbase _ _=>?_⟩
 have m_Thousandths:=χ X G n_Thousandths
 have m_NoTime:=χ X G n_NoTime
 have m_Desk:=χ X G n_Desk
 have m_NoName:=χ X G n_NoName
 have m_NoCue:=χ X G n_NoCue
 have m_CueError:=χ X G n_CueError
 have m_NoRow:=χ X G n_NoRow
 have m_FIGURES:=χ X G n_FIGURES
 have m_FIRST_SETTINGS:=χ X G n_FIRST_SETTINGS
 have m_HOW_MANY:=χ X G n_HOW_MANY
 have m_PERCENT:=χ X G n_PERCENT
 have D0:Def l.prog w K mg base 1 "show_parts" 3 eC:=ip (bg l0 c0 k0) (χ X G a0) zz_str
 have D1:Def l.prog w K mg base 2 "show_moment" 1 dM:=gx (bg l1 c1 k1) (χ X G a1) D0
 have D2:DefM l.prog w K mg base 3 "Thousandths" "show" 2 bP:=cQ (bg l2 c2 k2) m_Thousandths nn_Thousandths pg_Thousandths hd_Thousandths po_Thousandths sa_Thousandths D1 a2 i2
 have D3:Def l.prog w K mg base 1 "are_figures" 1 cx:=dJ (bg l3 c3 k3) (χ X G a3) m_FIGURES zz_all
 have D4:Def l.prog w K mg base 2 "has_figures" 2 bR:=cv (bg l4 c4 k4) (χ X G a4) D3 zz_len
 have D5:Def l.prog w K mg base 3 "are_hours" 1 ff:=i8 (bg l5 c5 k5) (χ X G a5) D4 D3 zz_len
 have D6:Def l.prog w K mg base 3 "are_sixtieths" 1 cb:=dQ (bg l6 c6 k6) (χ X G a6) D4 zz_int
 have D7:DefX l.prog w K mg base 4 "read_parts" 3 eD:=iq (bg l7 c7 k7) (χ X G a7) m_NoTime x_NoTime D5 D6 D4 zz_isinstance zz_str zz_int
 have D8:DefX l.prog w K mg base 5 "read_moment" 1 dN:=gy (bg l8 c8 k8) (χ X G a8) D7
 have D9:DefMX l.prog w K mg base 6 "Thousandths" "read" 2 bE:=cR (bg l9 c9 k9) m_Thousandths nn_Thousandths pg_Thousandths hd_Thousandths po_Thousandths sa_Thousandths D8 a9 i9
 have DS10:SL.MkS l.prog w K mg base 1 "Desk" 1 cm:=fB (bg l10 c10 k10) m_Desk m_Thousandths m_FIRST_SETTINGS T_FIRST_SETTINGS cT nn_Thousandths mk_Thousandths ii_Thousandths so_Thousandths kc_Thousandths zz_dict ⟨a10,i10⟩ mk10 kc10
 have D11:Def l.prog w K mg base 1 "words_and_text" 1 aS:=eP (bg l11 c11 k11) (χ X G a11) zz_isinstance zz_str
 have D12:Def l.prog w K mg base 1 "is_row" 1 fV:=og (bg l12 c12 k12) (χ X G a12) m_HOW_MANY T_HOW_MANY zz_len
 have D13:Def l.prog w K mg base 4 "show_row" 2 eQ:=jQ (bg l13 c13 k13) (χ X G a13) D2
 have D14:Def l.prog w K mg base 5 "show_cues" 2 dv:=iZ (bg l14 c14 k14) (χ X G a14) D13
 have DS15:SL.DefSMX l.prog w K mg base 1 "Desk" "cues_by" 2 bD:=cX (bg l15 c15 k15) m_Desk m_NoName cT x_NoName ⟨a15,i15⟩
 have D16:Def l.prog w K mg base 1 "is_name" 1 d7:=gP (bg l16 c16 k16) (χ X G a16) zz_isinstance zz_str zz_len zz_all
 have D17:Def l.prog w K mg base 2 "read_new" 1 fU:=jS (bg l17 c17 k17) (χ X G a17) D16
 have D18:XDefH l.prog w K mg base 1 "NoCue" "row" C_NoCue:=ck (bg l18 c18 k18) m_NoCue m_CueError x1_NoCue g1_NoCue g2_NoCue sa_NoCue g7_NoCue g6_NoCue hd_NoCue st_NoCue na_NoCue_row rd_CueError sp_CueError fd_CueError a18 i18 kc18
 have D19:Def l.prog w K mg base 1 "is_whole" 1 eR:=ir (bg l19 c19 k19) (χ X G a19) zz_isinstance zz_int zz_bool
 have D20:Def l.prog w K mg base 1 "is_word_sign" 1 cC:=fS (bg l20 c20 k20) (χ X G a20) m_PERCENT zz_ord
 have D21:Def l.prog w K mg base 2 "is_word" 1 fE:=lD (bg l21 c21 k21) (χ X G a21) D20 zz_len zz_all
 have D22:Def l.prog w K mg base 3 "are_words" 1 e9:=i7 (bg l22 c22 k22) (χ X G a22) D21 zz_isinstance zz_str zz_all
 have D23:Def l.prog w K mg base 4 "is_cue" 1 gW:=oh (bg l23 c23 k23) (χ X G a23) D19 D16 D22 zz_isinstance zz_tuple zz_len
 have D24:DefX l.prog w K mg base 7 "read_row" 3 cw:=jR (bg l24 c24 k24) (χ X G a24) m_NoCue m_NoTime x1_NoTime D18 D9 D23 zz_len
 have D25:Def l.prog w K mg base 1 "rows_of" 1 fD:=lC (bg l25 c25 k25) (χ X G a25)
 have D26:DefX l.prog w K mg base 8 "read_cues" 2 bK:=i0 (bg l26 c26 k26) (χ X G a26) m_NoCue D18 D24 D25 zz_isinstance zz_str zz_enumerate
 have DS27:SL.DefSMX l.prog w K mg base 9 "Desk" "put_cues" 3 bp:=eN (bg l27 c27 k27) m_Desk cT D17 D26 ⟨a27,i27⟩
 have DS28:SL.DefSMX l.prog w K mg base 2 "Desk" "drop_cues" 2 cn:=ek (bg l28 c28 k28) m_Desk cT DS15 ⟨a28,i28⟩
 have DS29:SL.DefSMX l.prog w K mg base 10 "Desk" "change" 3 bB:=fR (bg l29 c29 k29) m_Desk cT DS27 DS28 ⟨a29,i29⟩
 have DS30:SL.DefSMX l.prog w K mg base 11 "Desk" "say" 2 bc:=cI (bg l30 c30 k30) m_Desk m_NoRow cT x_NoRow D11 D12 D14 DS15 DS29 ⟨a30,i30⟩
 have D31:Def l.prog w K mg base 1 "_law_cell_at" 2 bU:=er (bg l31 c31 k31) (χ X G a31) zz_len
 have D32:Def l.prog w K mg base 1 "_law_numbers" 2 bT:=cB (bg l32 c32 k32) (χ X G a32) zz_range
 have D33:Def l.prog w K mg base 2 "_law_names" 1 eE:=iu (bg l33 c33 k33) (χ X G a33) D32 zz_int zz_range
 have D34:Def l.prog w K mg base 1 "_law_moment" 1 de:=eZ (bg l34 c34 k34) (χ X G a34) zz_divmod zz_str
 have D35:Def l.prog w K mg base 2 "_law_text" 1 dw:=gl (bg l35 c35 k35) (χ X G a35) D32 D34
 have DS36:SL.DefS l.prog w K mg base 12 "_law_shown" 2 df:=gw (bg l36 c36 k36) (χ X G a36) m_NoName m_CueError m_NoRow g1_NoName g2_NoName g3_NoName g4_ g5_ g6_NoName g7_NoName ki_NoName_CueError ki_NoName_ValueError ki_NoName_NoRow x_NoName zz_isinstance zz_ValueError DS30
 have D36:Def l.prog w K mg base 12 "_law_shown" 2 rA:=DS36.toD
 have DS37:SL.DefS l.prog w K mg base 12 "_law_no_cue" 2 cE:=fQ (bg l37 c37 k37) (χ X G a37) m_NoCue x1_NoCue g1_NoCue g2_NoCue sa_NoCue g7_NoCue g6_NoCue hd_NoCue st_NoCue na_NoCue_row DS30
 have D37:Def l.prog w K mg base 12 "_law_no_cue" 2 o3:=DS37.toD
 have DS38:SL.DefS l.prog w K mg base 13 "_law_all" 4 dy:=gj (bg l38 c38 k38) (χ X G a38) zz_range DS36
 have D38:Def l.prog w K mg base 13 "_law_all" 4 vk:=DS38.toD
 have DS39:SL.DefS l.prog w K mg base 13 "_law_done" 4 cU:=il (bg l39 c39 k39) (χ X G a39) D35 DS30 DS37
 have D39:Def l.prog w K mg base 13 "_law_done" 4 tJ:=DS39.toD
 exact fn_law (bg l40 c40 k40) D31 D33 zz_enumerate DS10 DS39 DS38
end K61
namespace PySem.W.Fast
def tw10461142571806427054:=0
def tw12778644771252458537:=0
def tw3697455541587948447:=0
def tw1704575831000041632:=0
def tw6066982797628826489:=0
def tw2622640517379726661:=0
def tw16501479332595885532:=0
def tw8616621725358434095:=0
def tw5787635725179736916:=0
def tw9176137167531706749:=0
def tw14198539435817389184:=0
def tw2401972625455596563:=0
def tw13574687628839613824:=0
def tw10941911196347937217:=0
def tw8704957945921480718:=0
def tw10888163371678977731:=0
def tw7723064274693299235:=0
def tw13493350190054493705:=0
def tw11235005472744050970:=0
def tw8150637334729714566:=0
def tw10956989500340941139:=0
def tw14014189033222998325:=0
def tw2966530698448891255:=0
def tw15783500848157124544:=0
def tw9939223220515731918:=0
def tw9745684919943087028:=0
def tw12960745853332639086:=0
def tw14904873527155537517:=0
def tw3410086414188770158:=0
def tw12299707784415037341:=0
def tw3405433290783535864:=0
def tw16537821186365393666:=0
def tw12637402150949033706:=0
def tw5150939884960413347:=0
def tw3590101546509639732:=0
def tw6856258222517629488:=0
def tw3178295132954744531:=0
def tw8600517660046808020:=0
def tw11324125347593185948:=0
def tw16089386062748013599:=0
def tw12234894228730201387:=0
def tw17838306564562000126:=0
def tw5327405008143109065:=0
def tw15152003097646610467:=0
def tw6216372535469314276:=0
def tw3825722297811854170:=0
def tw13873597518757320985:=0
def tw325257974251738162:=0
def tw4702884246906104391:=0
def tw15665720578992322739:=0
def tw13254153418211412566:=0
def tw13739332057082827752:=0
def tw15561210289991190563:=0
def tw2514030626098936355:=0
def tw11051559618267559161:=0
def tw12525588122674389691:=0
def tw11818656106711367717:=0
def tw2124169297637807182:=0
def tw11185028080716211094:=0
def tw13551278233363062772:=0
def tw3871848873773873791:=0
def tw10131420810473615598:=0
def tw15368947359971982283:=0
def tw2243854076173533455:=0
def tw6240213112053000031:=0
def tw2284083148919158728:=0
def tw5822704732398581536:=0
def tw13801982866367125728:=0
def tw14459230808412158366:=0
def tw7859088285133266393:=0
def tw16352377451593638074:=0
def tw1727401678530968409:=0
def tw3571297650156343871:=0
def tw18236748403614806376:=0
def tw1382650700505081674:=0
def tw11028453210738271796:=0
def tw7480016541273204684:=0
def tw2876205040734809908:=0
def tw13508616644887783498:=0
def tw39983992375878104:=0
def tw11786233572037886282:=0
def tw7732034643724767165:=0
def tw10054421591682036056:=0
def tw17372910586217356069:=0
def tw16493830144050308604:=0
def tw9874894656598366446:=0
def tw11287802666036366213:=0
def tw6470855736968282308:=0
def tw16961132975246948600:=0
def tw12512329156515827617:=0
def tw618876621692651891:=0
def tw12578899274261077348:=0
def tw14952214477892462601:=0
def tw10636291809769179375:=0
def tw8609426076555880938:=0
def tw10200156142470312908:=0
def tw6531138815298863542:=0
def tw11915111419551730844:=0
def tw13926946384878539150:=0
def tw13689652205302717666:=0
def tw4657109845152799372:=0
def tw2801679849760089196:=0
def tw5021282189751836160:=0
def tw8990353696511732586:=0
def tw17904761925188010483:=0
def tw3545500179249308267:=0
def tw14150299858477707186:=0
def tw4225312362314435140:=0
def tw14754405804959160726:=0
def tw7021212463791509836:=0
def tw5756087051504183122:=0
def tw4906134890868627787:=0
def tw6750480146846908976:=0
def tw17875985414488102208:=0
def tw9016509216805858081:=0
def tw1199520021543790691:=0
def tw17664750922743829680:=0
def tw6088318515647586424:=0
def tw7689097089279048456:=0
def tw16185890085413116616:=0
def tw16880464814897399834:=0
def tw2454543338349797255:=0
def tw10744343612845197845:=0
def tw413391697109208629:=0
def tw925405557521689618:=0
def tw13681147158623290511:=0
def tw14728996122202995339:=0
def tw3772336046727078448:=0
def tw2296694726593182238:=0
def tw602684332715598213:=0
def tw9601768798427902576:=0
def tw5435178637619532471:=0
def tw7090920789128493936:=0
def tw13451253897496977330:=0
def tw880233288609454054:=0
def tw13810775298672946593:=0
def tw3513788582166356304:=0
def tw8295924924840263807:=0
def tw18115941695858590509:=0
def tw5085389273489974321:=0
def tw16988006323171589257:=0
def tw5623227012429442405:=0
def tw14474358027666116440:=0
def tw5736633465396242265:=0
def tw13792407320005552864:=0
def tw747967325139920417:=0
def tw5624452172414213997:=0
def tw4335461590369653200:=0
def tw6060322062242953548:=0
def tw6550948612824979081:=0
def tw5453735784215780432:=0
def tw7508916036206472638:=0
def tw4607162178189244629:=0
def tw5632883626389130982:=0
def tw12729476034600138836:=0
def tw7176300049313725191:=0
def tw17451539723159237868:=0
def tw12431610407972375538:=0
def tw7019390677545771145:=0
def tw9713997762679552457:=0
def tw6241202208127429419:=0
def tw8948449408597702532:=0
def tw13591070163716513666:=0
def tw7883144070866517294:=0
def tw9857616497599394010:=0
def tw13411890875468885454:=0
def tw2458686799053884641:=0
def tw17986651401856440093:=0
def tw17707263724613472400:=0
def tw12561714201982711556:=0
def tw15808038361320705436:=0
def tw17608567319674255181:=0
def tw6782086560915067022:=0
def tw4302517797303611163:=0
def tw4735948315938649273:=0
def tw10881423901534068572:=0
def tw4195923942037701651:=0
def tw5033265744146650911:=0
def tw3138545918457070399:=0
def tw7391644513280216594:=0
def tw2616602743293015006:=0
def tw11659318621443193759:=0
def tw2375083200463863993:=0
def tw10888730315138443387:=0
def tw1420868292057339010:=0
def tw3637153728592722715:=0
def tw6712207430492050590:=0
def tw2846927428480523064:=0
def tw13156643598809581171:=0
def tw15927798223280342860:=0
def tw4008226647893862006:=0
def tw15844330147070883374:=0
def tw4540317588344487442:=0
def tw10199621292986631525:=0
def tw1791458721838108977:=0
def tw10278382247726612491:=0
def tw12199140513141261240:=0
def tw2133831796556125436:=0
def tw8275385606402391773:=0
def tw18412970292124268201:=0
def tw9477893147259628955:=0
def tw5755733959676182066:=0
def tw18039237049636785712:=0
def tw14709269095014276570:=0
def tw2780367157500732640:=0
def tw4205472894744756469:=0
def tw7885092729933494586:=0
def tw6864905232326209509:=0
def tw3452552531615561942:=0
def tw11346644010689739311:=0
def tw12170614531946426472:=0
def tw14133574494298153189:=0
def tw17267535840249589564:=0
def tw17877915769557889095:=0
def tw10924954965596921905:=0
def tw8817184806338692008:=0
def tw10670009217544084859:=0
def tw11629691620384281985:=0
def tw4567086456151596215:=0
def tw8969944263078595178:=0
def tw8488379339685503508:=0
def tw12596873498233800662:=0
def tw14301715672146754098:=0
def tw2875165298294795028:=0
def tw15371897667894725946:=0
def tw4145931611750176550:=0
def tw6351116949547455240:=0
def tw1629866326529967294:=0
def tw10852065896033468068:=0
def tw15614738871205750114:=0
def tw13854035799742267079:=0
def tw4984278101547099374:=0
def tw5971624053197854350:=0
def tw12932190905850179904:=0
def tw3310286095819922557:=0
def tw6709162673496100147:=0
def tw16381353478520519814:=0
def tw10991268552928249106:=0
def tw4101745871158205139:=0
def tw12821881218917180774:=0
def tw5500465741622299039:=0
def tw8860748608092076029:=0
def tw5590720797227108023:=0
def tw7198424430991865276:=0
def tw16807117099824747305:=0
def tw8936269857579606222:=0
def tw1695731653527685730:=0
def tw2904455811127847415:=0
def tw17248099299255772611:=0
def tw4933399612373362203:=0
def tw15679696497880298638:=0
def tw6199875275740964123:=0
def tw8270223779143109168:=0
def tw12808362597751961692:=0
def tw4367371597480706938:=0
def tw16670607711256574022:=0
def tw6872379029533981762:=0
def tw9720117482509741131:=0
def tw4338203688950512370:=0
def tw15612336268521603783:=0
def tw2714875327699723154:=0
def tw11225536306144501130:=0
def tw3318098543363230275:=0
def tw3958494089164355419:=0
def tw4237971668535591137:=0
def tw2040060059557661103:=0
def tw17691737883538464624:=0
def tw9968301362201255391:=0
def tw11926399114483497549:=0
def tw382077625706524749:=0
def tw10092694905156291872:=0
def tw16354704165802722182:=0
def tw12945892380448172403:=0
def tw4981311262850584206:=0
def tw17637246106604523913:=0
def tw4818325097487742550:=0
def tw17538985716982692117:=0
def tw2646462723529131612:=0
def tw8253537537390707173:=0
def tw3952958857047739362:=0
def tw15673613086715586848:=0
def tw9202928850781327445:=0
def tw2782910032277177033:=0
def tw13370324231329788773:=0
def tw8706261117088374174:=0
def tw14208945100536845232:=0
def tw4333218762651750907:=0
def tw9797787609449295002:=0
def tw2239913626249653930:=0
def tw8248275553423208689:=0
def tw4667695751507214901:=0
def tw7303088029017754601:=0
def tw14850632169942511489:=0
def tw5965494353294300513:=0
def tw6735276305995780128:=0
def tw9338369229468480711:=0
def tw16279806177291711612:=0
def tw6277032149425906581:=0
def tw13909365093791588068:=0
def tw17783727214042702273:=0
def tw7483440357029172118:=0
def tw1991055924060477126:=0
def tw5883960892645711133:=0
def tw4403080406888061102:=0
def tw1135615791889685777:=0
def tw3842968487498948707:=0
def tw8752355827921488654:=0
def tw6574897034305385488:=0
def tw4840369580085437670:=0
def tw4458621949319972294:=0
def tw10879299782768520866:=0
def tw12075816969205749827:=0
def tw16942272442228190320:=0
def tw17321822167557615810:=0
def tw3088393516405189430:=0
def tw17831747272730311572:=0
def tw12126078874379795167:=0
def tw7307318747822057320:=0
def tw5239686128437514907:=0
def tw147165733419211427:=0
def tw6284650280466558496:=0
def tw15658740155086857554:=0
def tw4155372003757819839:=0
def tw6493730523264247749:=0
def tw7591956138283439058:=0
def tw3437775371500660819:=0
def tw14262021878596951485:=0
def tw12512279186594080736:=0
def tw13404269036994104947:=0
def tw4420914360022756455:=0
def tw4464566234250165029:=0
def tw3991909253691359626:=0
def tw3160687586571312297:=0
def tw3261837049826808885:=0
def tw12524173741468338256:=0
def tw13152219324503073472:=0
def tw9692275870009245795:=0
def tw14135715119829104804:=0
def tw3635569508859314923:=0
def tw1675684895245163927:=0
def tw5491405006818733351:=0
def tw15878861402769635912:=0
def tw5794576411222042736:=0
def tw2221932332883473074:=0
def tw338165081530800035:=0
def tw5011503326379437128:=0
def tw12122097464867813370:=0
def tw11203429967898351360:=0
def tw11157785093415810974:=0
def tw4245327833484679786:=0
def tw12239366983555877366:=0
def tw6122461302595483575:=0
def tw14581877749209654702:=0
def tw14626517848351229614:=0
def tw8625897805919984399:=0
def tw5339115462952737378:=0
def tw14759486383446863146:=0
def tw3724835095604241741:=0
def tw9685422459297357689:=0
def tw13115769911609399740:=0
def tw10579547623578506390:=0
def tw7651306063032836164:=0
def tw6083591538449131683:=0
def tw10502196597319711722:=0
def tw14497971373409279656:=0
def tw14410577032714694929:=0
def tw8192565299653427976:=0
def tw3653651569398951638:=0
def tw8023701729345886118:=0
def tw9842080695877664837:=0
def tw14139463159317063698:=0
def tw10652395062024592229:=0
def tw12385464585114122879:=0
def tw8046076408900557298:=0
def tw12578915724496151816:=0
def tw35419396641885156:=0
def tw1636556822039501427:=0
def tw17731127291389502050:=0
def tw14256754893277731002:=0
def tw11956639738950606133:=0
def tw15577886647896925796:=0
def tw3759955443168245448:=0
def tw7041896926232130568:=0
def tw4747574016507478791:=0
def tw7820258671917800911:=0
def tw13656795235042200907:=0
def tw3949257005576368210:=0
def tw16960802217539632064:=0
def tw9466228502800928374:=0
def tw12077193282632987295:=0
def tw8868463593155674712:=0
def tw10814189963285475034:=0
def tw9252715096093056625:=0
def tw1689165303445426899:=0
def tw17817905294132051425:=0
def tw9391751227629403677:=0
def tw17799709773591492642:=0
def tw9729866107772788920:=0
end PySem.W.Fast
open PySem.W PyProof.Rows
set_option maxRecDepth 100000 in
set_option maxHeartbeats 0 in
theorem PySem.Challenge.cw_cuetimer_k61_cues_at_the_desk_holds : PySem.Challenge.rw_cuetimer_k61_cues_at_the_desk.Holds := by
 w_on; o_law; k_head; (case hw => w_witness2)
 k_fill
 refine DL.walk (l := PySem.Challenge.rw_cuetimer_k61_cues_at_the_desk) (k := 14) (F := K61.wK) (x := "_law_script") rfl rfl K61.zI ⟨rfl, by decide, by decide⟩ (fun w h Y => PySem.W.kIn_of Y) ?T
 case T =>
  intro w mg fa h KX G hmg
  refine' K61.all_mk KX G hmg ?a0 ?l0 ?c0 ?k0 ?a1 ?l1 ?c1 ?k1 ?a3 ?l3 ?c3 ?k3 ?a4 ?l4 ?c4 ?k4 ?a5 ?l5 ?c5 ?k5 ?a6 ?l6 ?c6 ?k6 ?a7 ?l7 ?c7 ?k7 ?a8 ?l8 ?c8 ?k8 ?a11 ?l11 ?c11 ?k11 ?a12 ?l12 ?c12 ?k12 ?a13 ?l13 ?c13 ?k13 ?a14 ?l14 ?c14 ?k14 ?a16 ?l16 ?c16 ?k16 ?a17 ?l17 ?c17 ?k17 ?a19 ?l19 ?c19 ?k19 ?a20 ?l20 ?c20 ?k20 ?a21 ?l21 ?c21 ?k21 ?a22 ?l22 ?c22 ?k22 ?a23 ?l23 ?c23 ?k23 ?a24 ?l24 ?c24 ?k24 ?a25 ?l25 ?c25 ?k25 ?a26 ?l26 ?c26 ?k26 ?a31 ?l31 ?c31 ?k31 ?a32 ?l32 ?c32 ?k32 ?a33 ?l33 ?c33 ?k33 ?a34 ?l34 ?c34 ?k34 ?a35 ?l35 ?c35 ?k35 ?a36 ?l36 ?c36 ?k36 ?a37 ?l37 ?c37 ?k37 ?a38 ?l38 ?c38 ?k38 ?a39 ?l39 ?c39 ?k39 ?a40 ?l40 ?c40 ?k40 ?z_str ?z_all ?z_len ?z_int ?z_isinstance ?z_dict ?z_bool ?z_ord ?z_tuple ?z_enumerate ?z_range ?z_divmod ?z_ValueError ?n_Thousandths ?n_NoTime ?n_Desk ?n_NoName ?n_NoCue ?n_CueError ?n_NoRow ?a2 ?l2 ?c2 ?k2 ?i2 ?a9 ?l9 ?c9 ?k9 ?i9 ?a10 ?l10 ?c10 ?k10 ?i10 ?mk10 ?kc10 ?a15 ?l15 ?c15 ?k15 ?i15 ?a18 ?l18 ?c18 ?k18 ?i18 ?kc18 ?a27 ?l27 ?c27 ?k27 ?i27 ?a28 ?l28 ?c28 ?k28 ?i28 ?a29 ?l29 ?c29 ?k29 ?i29 ?a30 ?l30 ?c30 ?k30 ?i30 ?n_FIGURES ?n_FIRST_SETTINGS ?T_FIRST_SETTINGS ?n_HOW_MANY ?T_HOW_MANY ?n_PERCENT ?nn_Thousandths ?pg_Thousandths ?hd_Thousandths ?po_Thousandths ?sa_Thousandths ?x_NoTime ?nn_Desk ?pg_Desk ?hd_Desk ?po_Desk ?sa_Desk ?na_Desk_cues ?na_Desk_clock ?mk_Thousandths ?ii_Thousandths ?so_Thousandths ?kc_Thousandths ?na_Desk_settings ?na_Desk_cuts ?x_NoName ?x1_NoCue ?g1_NoCue ?g2_NoCue ?sa_NoCue ?g7_NoCue ?g6_NoCue ?hd_NoCue ?st_NoCue ?na_NoCue_row ?rd_CueError ?sp_CueError ?fd_CueError ?x1_NoTime ?x_NoRow ?g1_NoName ?g2_NoName ?g3_NoName ?g4_ ?g5_ ?g6_NoName ?g7_NoName ?ki_NoName_CueError ?ki_NoName_ValueError ?ki_NoName_NoRow
  (case a0 => k_is)
  (case l0 => k_is)
  (case c0 => k_is)
  (case k0 => k_is)
  (case a1 => k_is)
  (case l1 => k_is)
  (case c1 => k_is)
  (case k1 => k_is)
  (case a3 => k_is)
  (case l3 => k_is)
  (case c3 => k_is)
  (case k3 => k_is)
  (case a4 => k_is)
  (case l4 => k_is)
  (case c4 => k_is)
  (case k4 => k_is)
  (case a5 => k_is)
  (case l5 => k_is)
  (case c5 => k_is)
  (case k5 => k_is)
  (case a6 => k_is)
  (case l6 => k_is)
  (case c6 => k_is)
  (case k6 => k_is)
  (case a7 => k_is)
  (case l7 => k_is)
  (case c7 => k_is)
  (case k7 => k_is)
  (case a8 => k_is)
  (case l8 => k_is)
  (case c8 => k_is)
  (case k8 => k_is)
  (case a11 => k_is)
  (case l11 => k_is)
  (case c11 => k_is)
  (case k11 => k_is)
  (case a12 => k_is)
  (case l12 => k_is)
  (case c12 => k_is)
  (case k12 => k_is)
  (case a13 => k_is)
  (case l13 => k_is)
  (case c13 => k_is)
  (case k13 => k_is)
  (case a14 => k_is)
  (case l14 => k_is)
  (case c14 => k_is)
  (case k14 => k_is)
  (case a16 => k_is)
  (case l16 => k_is)
  (case c16 => k_is)
  (case k16 => k_is)
  (case a17 => k_is)
  (case l17 => k_is)
  (case c17 => k_is)
  (case k17 => k_is)
  (case a19 => k_is)
  (case l19 => k_is)
  (case c19 => k_is)
  (case k19 => k_is)
  (case a20 => k_is)
  (case l20 => k_is)
  (case c20 => k_is)
  (case k20 => k_is)
  (case a21 => k_is)
  (case l21 => k_is)
  (case c21 => k_is)
  (case k21 => k_is)
  (case a22 => k_is)
  (case l22 => k_is)
  (case c22 => k_is)
  (case k22 => k_is)
  (case a23 => k_is)
  (case l23 => k_is)
  (case c23 => k_is)
  (case k23 => k_is)
  (case a24 => k_is)
  (case l24 => k_is)
  (case c24 => k_is)
  (case k24 => k_is)
  (case a25 => k_is)
  (case l25 => k_is)
  (case c25 => k_is)
  (case k25 => k_is)
  (case a26 => k_is)
  (case l26 => k_is)
  (case c26 => k_is)
  (case k26 => k_is)
  (case a31 => k_is)
  (case l31 => k_is)
  (case c31 => k_is)
  (case k31 => k_is)
  (case a32 => k_is)
  (case l32 => k_is)
  (case c32 => k_is)
  (case k32 => k_is)
  (case a33 => k_is)
  (case l33 => k_is)
  (case c33 => k_is)
  (case k33 => k_is)
  (case a34 => k_is)
  (case l34 => k_is)
  (case c34 => k_is)
  (case k34 => k_is)
  (case a35 => k_is)
  (case l35 => k_is)
  (case c35 => k_is)
  (case k35 => k_is)
  (case a36 => k_is)
  (case l36 => k_is)
  (case c36 => k_is)
  (case k36 => k_is)
  (case a37 => k_is)
  (case l37 => k_is)
  (case c37 => k_is)
  (case k37 => k_is)
  (case a38 => k_is)
  (case l38 => k_is)
  (case c38 => k_is)
  (case k38 => k_is)
  (case a39 => k_is)
  (case l39 => k_is)
  (case c39 => k_is)
  (case k39 => k_is)
  (case a40 => k_is)
  (case l40 => k_is)
  (case c40 => k_is)
  (case k40 => k_is)
  (case z_str => k_is)
  (case z_all => k_is)
  (case z_len => k_is)
  (case z_int => k_is)
  (case z_isinstance => k_is)
  (case z_dict => k_is)
  (case z_bool => k_is)
  (case z_ord => k_is)
  (case z_tuple => k_is)
  (case z_enumerate => k_is)
  (case z_range => k_is)
  (case z_divmod => k_is)
  (case z_ValueError => k_is)
  (case n_Thousandths => k_is)
  (case n_NoTime => k_is)
  (case n_Desk => k_is)
  (case n_NoName => k_is)
  (case n_NoCue => k_is)
  (case n_CueError => k_is)
  (case n_NoRow => k_is)
  (case a2 => k_is)
  (case l2 => k_is)
  (case c2 => k_is)
  (case k2 => k_is)
  (case i2 => k_is)
  (case a9 => k_is)
  (case l9 => k_is)
  (case c9 => k_is)
  (case k9 => k_is)
  (case i9 => k_is)
  (case a10 => k_is)
  (case l10 => k_is)
  (case c10 => k_is)
  (case k10 => k_is)
  (case i10 => k_is)
  (case mk10 => k_is)
  (case kc10 => k_is)
  (case a15 => k_is)
  (case l15 => k_is)
  (case c15 => k_is)
  (case k15 => k_is)
  (case i15 => k_is)
  (case a18 => k_is)
  (case l18 => k_is)
  (case c18 => k_is)
  (case k18 => k_is)
  (case i18 => k_is)
  (case kc18 => k_is)
  (case a27 => k_is)
  (case l27 => k_is)
  (case c27 => k_is)
  (case k27 => k_is)
  (case i27 => k_is)
  (case a28 => k_is)
  (case l28 => k_is)
  (case c28 => k_is)
  (case k28 => k_is)
  (case i28 => k_is)
  (case a29 => k_is)
  (case l29 => k_is)
  (case c29 => k_is)
  (case k29 => k_is)
  (case i29 => k_is)
  (case a30 => k_is)
  (case l30 => k_is)
  (case c30 => k_is)
  (case k30 => k_is)
  (case i30 => k_is)
  (case n_FIGURES => k_is)
  (case n_FIRST_SETTINGS => k_is)
  (case T_FIRST_SETTINGS => (refine' K61.jy ?u_FIRST_SETTINGS (by decide); (case u_FIRST_SETTINGS => k_is)))
  (case n_HOW_MANY => k_is)
  (case T_HOW_MANY => (refine' K61.oX ?u_HOW_MANY (by decide); (case u_HOW_MANY => k_is)))
  (case n_PERCENT => k_is)
  (case nn_Thousandths => k_is)
  (case pg_Thousandths => k_is)
  (case hd_Thousandths => k_is)
  (case po_Thousandths => k_is)
  (case sa_Thousandths => k_is)
  (case x_NoTime => k_exc)
  (case nn_Desk => k_is)
  (case pg_Desk => k_is)
  (case hd_Desk => k_is)
  (case po_Desk => k_is)
  (case sa_Desk => k_is)
  (case na_Desk_cues => k_is)
  (case na_Desk_clock => k_is)
  (case mk_Thousandths => k_is)
  (case ii_Thousandths => k_is)
  (case so_Thousandths => k_is)
  (case kc_Thousandths => k_is)
  (case na_Desk_settings => k_is)
  (case na_Desk_cuts => k_is)
  (case x_NoName => k_exc)
  (case x1_NoCue => kernel_rfl)
  (case g1_NoCue => k_is)
  (case g2_NoCue => k_is)
  (case sa_NoCue => k_is)
  (case g7_NoCue => k_is)
  (case g6_NoCue => k_is)
  (case hd_NoCue => k_is)
  (case st_NoCue => kernel_rfl)
  (case na_NoCue_row => k_is)
  (case rd_CueError => k_is)
  (case sp_CueError => k_is)
  (case fd_CueError => k_is)
  (case x1_NoTime => kernel_rfl)
  (case x_NoRow => k_exc)
  (case g1_NoName => k_is)
  (case g2_NoName => k_is)
  (case g3_NoName => k_is)
  (case g4_ => k_is)
  (case g5_ => k_is)
  (case g6_NoName => k_is)
  (case g7_NoName => k_is)
  (case ki_NoName_CueError => kit_is)
  (case ki_NoName_ValueError => kit_is)
  (case ki_NoName_NoRow => kit_is)
#print axioms PySem.Challenge.cw_cuetimer_k61_cues_at_the_desk_holds
