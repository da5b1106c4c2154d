import PyProof.Rows.All
import KE.KIntText
import KE.KFromBytes
import Wide.Txt2
import KE.KDictOf
import KE.KFind
import KE.LcSums
import KE.KEqDict
import KE.KRevIter
import KE.RegKIsAll
import Wide.FinOn
import OpenK.ZHead
import PySem.Challenge.RW_cuetimer_k62_settings_and_cuts
set_option Elab.async false
set_option linter.all false
set_option maxRecDepth 100000
set_option maxHeartbeats 4000000
open List renaming length_append->ζ,length_cons->θ,length_map->ι,mem_cons_self->υ,mem_cons_of_mem->χ,getElem?_eq_some_iff->ω,map_cons->Δ,mem_cons->Θ,mem_append->Φ,getElem?_append_right->Ψ,mem_singleton->Ω,getElem?_append_left->Z0,map_append->Z3,append_assoc->Z4,length_singleton->Z5,getElem?_map->Z6,append_nil->Z7,getElem?_eq_getElem->Y1,mem_of_getElem?->Y3,length_set->Y5,mem_append_right->Y7,mem_filter->Y8,not_mem_nil->Y9,map_map->X0,length_nil->X1,replicate->X2,lookup->X7,drop_drop->W2,nil_append->W4,find?_cons->W5,mem_map->W6,length_pos_iff->V3,getElem?_set_self->V5,head?_drop->V6,length->V8,takeWhile_cons_of_pos->V9,cons_append->U0,length_replicate->U5,head?->U6,all_eq_true->U7,dropWhile_cons_of_pos->U9
open Nat renaming le_refl->ρ,lt_of_lt_of_le->Z8,ne_of_lt->Y4,le_trans->X5,zero_le->X9,sub_self->V1,add_sub_cancel_left->V4,le_succ->U4,strongRecOn->U8
open Bool renaming false_ne_true->Ξ,and_eq_true->Y0,and_eq_true_iff->X4
open Int renaming toNat_natCast->W3,toNat_of_nonneg->U2
open PySem PySem.Spec
noncomputable section
open PySem.W renaming Frag->ε,keepIn->ξ,nsIn->ο,codeIn->ς,fnOf->ψ,mg_of->Γ,findIn->Λ,sortI->Z9,mg_none_of->Y2,emptyDict->X3,instObj->X6,isFn->W0,makesIn->W8,kia_one->W9,plainGet->V2,hasDictIn->V7,sortI_perm->U1,plainOver->U3
open PySem.PyData renaming int->η,list->Z1,keyHash->Z2,bool->Y6,str->X8,tuple->W1,canLay0->W7,strOk->V0
namespace L2
open PyProof.Rows
abbrev Key:=Sum Int Str
noncomputable def sx:Key->Value->Bool
 | .inl k,v=>Value.isInt k v
 | .inr x,v=>Value.isStrOf x v
noncomputable def keyH(w:World):Key->Int
 | .inl k=>hashInt k
 | .inr x=>hashStr w x
theorem cX:∀{k:Key} {v:Value},sx k v=true->(∃i t,k=Sum.inl i/\v=Value.int i t)\/(∃x t,k=Sum.inr x/\v=Value.str x t)
 | .inl i,v,h=>by
  obtain⟨t,e⟩:=Value.isInt_shape h
  simp_all
 | .inr x,v,h=>by
  obtain⟨t,e⟩:=Value.isStrOf_shape h
  simp_all
theorem zR(i:Int)(t:Tok):sx (.inl i) (.int i t)=true:=by simp [sx,Value.isInt]
theorem zQ(x:Str)(t:Tok):sx (.inr x) (.str x t)=true:=by simp [sx,Value.isStrOf]
theorem key_ll(a b:Int):decide ((Sum.inl a:Key)=Sum.inl b)=(a==b):=by
 grind
theorem key_rr(a b:Str):decide ((Sum.inr a:Key)=Sum.inr b)=decide (a=b):=by
 simp
theorem key_lr(a:Int)(b:Str):decide ((Sum.inl a:Key)=Sum.inr b)=false:=decide_eq_false (λq=>nomatch q)
theorem key_rl(a:Str)(b:Int):decide ((Sum.inr a:Key)=Sum.inl b)=false:=decide_eq_false (λq=>nomatch q)
noncomputable def ci(prog:Program)(w:World):PySem.KeyKind prog w Key where
 is:=sx
 hash:=keyH w
 inj:=λv a b ha hb=>by
  rcases cX ha with ⟨i,t,rfl,rfl⟩ | ⟨x,t,rfl,rfl⟩
  ·rcases cX hb with ⟨j,u,rfl,e⟩ | ⟨y,u,rfl,e⟩
   ·injection e with e1 _;rw[e1]
   ·exact nomatch e
  ·rcases cX hb with ⟨j,u,rfl,e⟩ | ⟨y,u,rfl,e⟩
   ·exact nomatch e
   ·injection e with e1 _;rw[e1]
 byValue:=λk v h=>by
  rcases cX h with ⟨i,t,rfl,rfl⟩ | ⟨x,t,rfl,rfl⟩<;>rfl
 pyHash:=λhv h=>by
  rcases cX hv with ⟨i,t,rfl,rfl⟩ | ⟨x,t,rfl,rfl⟩
  ·exact wpAny_pyHash_int h
  ·exact wpAny_pyHash_str h
 eqBool:=λhu hv h=>by
  rcases cX hu with ⟨i,t,rfl,rfl⟩ | ⟨x,t,rfl,rfl⟩
  ·rcases cX hv with ⟨j,u,rfl,rfl⟩ | ⟨y,u,rfl,rfl⟩
   ·rw[key_ll] at h;exact wpAny_eqBool_int h
   ·rw[key_lr] at h;exact SeqAt.EqAt.int_str i t y u _ _ _ _ h
  ·rcases cX hv with ⟨j,u,rfl,rfl⟩ | ⟨y,u,rfl,rfl⟩
   ·rw[key_rl] at h;exact SeqAt.EqAt.str_int x t j u _ _ _ _ h
   ·rw[key_rr] at h;exact wpAny_eqBool_str h
 «strs»:=λk x t v h=>by
  rcases cX h with ⟨i,u,rfl,e⟩ | ⟨y,u,rfl,e⟩
  ·exact nomatch e
  ·injection e with e1 _
   subst e1
   cases v<;>rfl
theorem vN(prog:Program)(w:World)(i:Int)(t:Tok):(ci prog w).is (.inl i) (.int i t)=true:=zR i t
theorem kN(prog:Program)(w:World)(x:Str)(t:Tok):(ci prog w).is (.inr x) (.str x t)=true:=zQ x t
end L2
namespace L2
open PyProof.Rows
inductive V where
 | non | bl (b:Bool) | int (i:Int) | str (x:Str) | byt (b:Array UInt8) | flt (b:UInt64) | ref (a:Addr) | ty (n:String)
 deriving DecidableEq
def bW:V->Value->Prop
 | .non,u=>u=Value.none
 | .bl b,u=>u=Value.bool b
 | .int i,u=>∃t,u=Value.int i t
 | .str x,u=>∃t,u=Value.str x t
 | .byt b,u=>∃t,u=Value.bytes b t
 | .flt b,u=>∃t,u=Value.float b t
 | .ref a,u=>u=Value.ref a
 | .ty n,u=>u=Value.type n
abbrev bD:List V->List Value->Prop:=Paired bW
theorem bD.length{xs:List V}{us:List Value}(r:bD xs us):xs.length=us.length:=Paired.length r
theorem bD.get:∀{xs:List V} {us:List Value} {i:Nat} {x:V},bD xs us->xs[i]?=some x->∃u,us[i]?=some u/\bW x u
 | _,_,_,_,.nil,e=>by simp at e
 | _,_,0,_,.cons r _,e=>by simp_all
 | _,_,i+1,x,.cons _ t,e=>by
  obtain⟨u,h1,h2⟩:=bD.get t (by assumption)
  simp_all
theorem bD.append:∀{xs ys:List V} {us ws:List Value},bD xs us->bD ys ws->bD (xs++ys) (us++ws)
 | _,_,_,_,.nil,s=>s
 | _,_,_,_,.cons r t,s=>.cons r (bD.append t s)
theorem bD.take:∀{xs:List V} {us:List Value} (n:Nat),bD xs us->bD (xs.take n) (us.take n)
 | _,_,0,_=>.nil
 | _,_,_+1,.nil=>.nil
 | _,_,n+1,.cons r t=>.cons r (bD.take n t)
theorem bD.drop:∀{xs:List V} {us:List Value} (n:Nat),bD xs us->bD (xs.drop n) (us.drop n)
 | _,_,0,r=>r
 | _,_,_+1,.nil=>.nil
 | _,_,n+1,.cons _ t=>bD.drop n t
def kt:Option V->Option Value->Prop
 | some v,some u=>bW v u
 | none,none=>True
 | _,_=>False
def KV{κ:Type}:List (κ×V)->List (κ×Value)->Prop:=Paired λ(p:κ×V) (q:κ×Value)=>p.1=q.1/\bW p.2 q.2
noncomputable def kV:Key->V
 | .inl i=>.int i
 | .inr x=>.str x
inductive HO where
 | lst (xs:List V)
 | tup (xs:List V)
 | dK (kvs:List (Key×V)) | dT (kvs:List (List Key×V))
 | set (S:Int->Bool) (n:Nat)
 | ins (C dx:Addr) (fs:List (Str×V))
 | own (x:Addr)
 | xd (fs:List (Str×V))
 | met (f x:Addr)
 | rng (lo hi:Int)
 | frz (o:Obj) (u:HO)
 | tbl (ps:Array Value)
 | ext (φ:Heap->Prop)
abbrev Hp:=Addr->Option HO
noncomputable def upd(H:Hp)(a:Addr)(o:HO):Hp:=λb=>if b=a then some o else H b
theorem aN{H:Hp}{a:Addr}{o:HO}:upd H a o a=some o:=by unfold upd;simp
theorem upd_ne{H:Hp}{a b:Addr}{o:HO}(h:b≠a):upd H a o b=H b:=by unfold upd;simp_all
theorem BC{H:Hp}{a b:Addr}{o u:HO}(h:H a=some o)(h':H b=some u)(d:o≠u):a≠b:=by
 grind
theorem bp{H:Hp}{a b:Addr}{o:HO}(h:H a=some o)(h':H b=none):a≠b:=by
 grind
section
variable(P:Program)(w:World)
def eQ(H:Hp)(h:Heap)(a:Addr):HO->Prop
 | .lst xs=>xs.length<=sizeLine/\∃(its:List Value) (n:Nat),bD xs its/\h.get? a=some { cls:=.type "list",data:=.seq its.toArray n }
 | .tup xs=>xs.length<=sizeLine/\∃its:List Value,bD xs its/\IsTup h a its.toArray
 | .dK kvs=>kvs.length<=sizeLine/\(a==sysModules)=false/\∃vs,KV kvs vs/\h.DictOf (ci P w) a vs
 | .dT kvs=>kvs.length<=sizeLine/\(a==sysModules)=false/\∃xs:List (List Key×Addr×Value),
   Paired (λ(p:List Key×V) (q:List Key×Addr×Value)=>p.1=q.1/\H q.2.1=some (.tup (p.1.map kV))/\bW p.2 q.2.2) kvs xs /\
   ∃o es ep,h.get? a=some o/\o.ExactDict/\o.data=.dict es ep/\es.toList=xs.map (entryOfKey (tupleKind (ci P w)))/\(xs.map (·.1)).Nodup
 | .set S n=>h.SetOf (intKind P w) a S n
 | .ins C dx fs=>H dx=some (.own a)/\fs.length<=1000/\dx≠a/\h.get? a=some (X6 C dx) /\
   ∃mA,h.Ns1 dx mA/\(∀f,kt (fs.lookup f) (mA f))/\PySem.Within mA (fs.map (·.1))
 | .own _=>∃o,h.get? a=some o
 | .xd fs=>∃mA,h.Ns1 a mA/\∀f,kt (fs.lookup f) (mA f)
 | .rng lo hi=>∃t u v,h.get? a=some { cls:=.type "range",data:=.fields #[.int lo t,.int hi u,.int 1 v] }
 | .frz o u=>h.get? a=some o/\eQ H h a u
 | .tbl ps=>h.get? a=some { cls:=.none,data:=.fields ps }
 | .met f x=>h.get? a=some (PySem.W.methodObj (.ref f) (.ref x))
 | .ext φ=>φ h/\(∃o,h.get? a=some o)/\∀h1 h2:Heap,φ h1->(∀o,h1.get? a=some o->h2.get? a=some o)->φ h2
def HOk(H:Hp)(h:Heap):Prop:=∀a o,H a=some o->eQ P w H h a o
end
section
variable{P:Program}{w:World}{H H':Hp}{h h':Heap}{a:Addr}{o:HO}
theorem eQ.lt(x:eQ P w H h a o):a<h.objs.size:=by
 cases o with
 | lst xs=>obtain⟨_,_,_,_,e⟩:=x;exact Heap.lt_size e
 | tup xs=>obtain⟨_,_,_,p⟩:=x;exact p.lt
 | dK kvs=>obtain⟨_,_,_,_,o,_,_,e,_⟩:=x;exact Heap.lt_size e
 | dT kvs=>obtain⟨_,_,_,_,o,_,_,e,_⟩:=x;exact Heap.lt_size e
 | set S n=>obtain⟨o,_,_,_,e,_⟩:=x;exact Heap.lt_size e
 | ins C dx fs=>obtain⟨_,_,_,e,_⟩:=x;exact Heap.lt_size e
 | own y=>obtain⟨_,e⟩:=x;exact Heap.lt_size e
 | xd fs=>obtain⟨_,⟨_,_,_,e,_⟩,_⟩:=x;exact Heap.lt_size e
 | rng lo hi=>obtain⟨_,_,_,e⟩:=x;exact Heap.lt_size e
 | frz ob u=>obtain⟨e,_⟩:=x;exact Heap.lt_size e
 | tbl ps=>exact Heap.lt_size (show h.get? a=some _ from x)
 | met f y=>exact Heap.lt_size (show h.get? a=some _ from x)
 | ext φ=>obtain⟨_,⟨_,e⟩,_⟩:=x;exact Heap.lt_size e
theorem Paired.mapP{α β:Type}{F G:α->β->Prop}:∀{l₁:List α} {l₂:List β},Paired F l₁ l₂->(∀a b,F a b->G a b)->Paired G l₁ l₂
 | _,_,.nil,_=>.nil
 | _,_,.cons r t,f=>.cons (f _ _ r) (Paired.mapP t f)
theorem eQ.stay(x:eQ P w H h a o)(k:∀b u,(b=a\/H b=some (.own a))->h.get? b=some u->h'.get? b=some u)
  (ho:∀b,H b=some (.own a)->H' b=some (.own a)) (ht:∀b xs,H b=some (.tup xs)->H' b=some (.tup xs)):eQ P w H' h' a o:=by
 induction o with
 | lst xs=>obtain⟨z,its,n,r,e⟩:=x;exact⟨z,its,n,r,k _ _ (.inl rfl) e⟩
 | tup xs=>obtain⟨z,its,r,ob,e,c⟩:=x;exact⟨z,its,r,ob,k _ _ (.inl rfl) e,c⟩
 | dK kvs=>obtain⟨z,y,vs,r,ob,es,ep,e,c⟩:=x;exact⟨z,y,vs,r,ob,es,ep,k _ _ (.inl rfl) e,c⟩
 | dT kvs =>
  obtain⟨z,y,xs,r,ob,es,ep,e,c⟩:=x
  exact⟨z,y,xs,Paired.mapP r λp q z=>⟨z.1,ht _ _ z.2.1,z.2.2⟩,ob,es,ep,k _ _ (.inl rfl) e,c⟩
 | set S n=>obtain⟨ob,es,ep,t,e,c⟩:=x;exact⟨ob,es,ep,t,k _ _ (.inl rfl) e,c⟩
 | ins C dx fs =>
  obtain⟨d,z,ne,e,mA,⟨od,es,ep,e2,c⟩,r⟩:=x
  exact⟨ho _ d,z,ne,k _ _ (.inl rfl) e,mA,⟨od,es,ep,k _ _ (.inr d) e2,c⟩,r⟩
 | own y=>obtain⟨ob,e⟩:=x;exact⟨ob,k _ _ (.inl rfl) e⟩
 | xd fs=>obtain⟨mA,⟨od,es,ep,e,c⟩,r⟩:=x;exact⟨mA,⟨od,es,ep,k _ _ (.inl rfl) e,c⟩,r⟩
 | rng lo hi=>obtain⟨t,u,v,e⟩:=x;exact⟨t,u,v,k _ _ (.inl rfl) e⟩
 | frz ob u ih=>obtain⟨e,q⟩:=x;exact⟨k _ _ (.inl rfl) e,ih q⟩
 | tbl ps =>
  have e:h.get? a=some { cls:=.none,data:=.fields ps }:=x
  show h'.get? a=some { cls:=.none,data:=.fields ps }
  simp_all
 | met f y =>
  have e:h.get? a=some (PySem.W.methodObj (.ref f) (.ref y)):=x
  show h'.get? a=some (PySem.W.methodObj (.ref f) (.ref y))
  simp_all
 | ext φ=>obtain⟨p,⟨o,e⟩,st⟩:=x;exact⟨st _ _ p λo q=>k _ _ (.inl rfl) q,⟨o,k _ _ (.inl rfl) e⟩,st⟩
theorem HOk.lt(x:HOk P w H h)(e:H a=some o):a<h.objs.size:=(x a o e).lt
theorem HOk.fresh(x:HOk P w H h)(e:h.objs.size<=a):H a=none:=by
 cases q:H a with
 | none=>rfl
 | some u=>exact absurd (Z8 (x.lt q) e) (Nat.lt_irrefl _)
theorem HOk.kept(x:HOk P w H h)(k:∀b u,h.get? b=some u->h'.get? b=some u):HOk P w H h':=λa o e =>
 (x a o e).stay (λb u _ q=>k b u q) (λ_ q=>q) λ_ _ q=>q
theorem HOk.laid(x:HOk P w H h)(k:∀b u,h.get? b=some u->h'.get? b=some u)(hp:h.objs.size<=a)(new:eQ P w (upd H a o) h' a o):HOk P w (upd H a o) h':=λb u e=>by
 have hn:=x.fresh hp
 by_cases hb:b=a
 ·subst hb;rw[aN] at e;simp_all
 ·rw[upd_ne hb] at e
  exact(x b u e).stay (λc v _ q=>k c v q) (λc q=>by rw[upd_ne (bp q hn)];exact q) λc xs q=>by rw[upd_ne (bp q hn)];exact q
end
def Rd(H:Hp)(a:Addr)(u:HO):Prop:=H a=some u\/∃o,H a=some (.frz o u)
theorem Rd.ok{P:Program}{w:World}{H:Hp}{h:Heap}{a:Addr}{u:HO}(r:Rd H a u)(x:HOk P w H h):eQ P w H h a u:=by
 rcases r with r | ⟨o,r⟩
 ·exact x a u r
 ·obtain⟨_,q⟩:=x a _ r
  exact q
def Mut:Option HO->Prop
 | some (.lst _)=>True
 | some (.dK _)=>True
 | some (.dT _)=>True
 | some (.set _ _)=>True
 | some (.ins _ _ _)=>True
 | some (.ext _)=>True
 | _=>False
section
variable{P:Program}{w:World}{H:Hp}{h h':Heap}{x e:Addr}{o':HO}
theorem HOk.write(ok:HOk P w H h)(mu:Mut (H x))(he:e=x\/H e=some (.own x))(k:∀b u,b≠e->h.get? b=some u->h'.get? b=some u)(heo:∃u,h'.get? e=some u)
  (new:eQ P w (upd H x o') h' x o'):HOk P w (upd H x o') h':=λb u q=>by
 have nown:∀c y,H c=some (.own y)->c≠x:=λc y r z=>by subst z;rw[r] at mu;exact mu
 have ntup:∀c xs,H c=some (.tup xs)->c≠x:=λc xs r z=>by subst z;rw[r] at mu;exact mu
 by_cases hb:b=x
 ·subst hb;rw[aN] at q;simp_all
 ·rw[upd_ne hb] at q
  by_cases hbe:b=e
  ·have q':H b=some (.own x):=by
    simp_all
   rw[q] at q';cases q'
   obtain⟨v,hv⟩:=heo
   exact⟨v,by simp_all⟩
  ·refine(ok b u q).stay (λc v hc r=>k c v ?_ r) (λc r=>by rw[upd_ne (nown c b r)];exact r) λc xs r=>by rw[upd_ne (ntup c xs r)];exact r
   grind
end
structure Un(fs ex:List Addr)(H H':Hp)(h h':Heap):Prop where
 keep:∀b o,h.get? b=some o->H b=none->b∉fs->b∉ex->h'.get? b=some o
 slot:∀b o,h.get? b=some o->H b=none->b∈fs->b∉ex->∃sl,h'.get? b=some { o with slots:=sl }
 free:∀b o,h.get? b=some o->H b=none->b∉ex->H' b=none
 there:∀b o,h.get? b=some o->b∉ex->∃o',h'.get? b=some o'
 tups:∀b xs,H b=some (.tup xs)->H' b=some (.tup xs)
 frzs:∀b o u,H b=some (.frz o u)->H' b=some (.frz o u)
 tbls:∀b ps,H b=some (.tbl ps)->∃more,H' b=some (.tbl (ps++more))
section
variable{fs fs' ex ex':List Addr}{H H1 H2:Hp}{h h1 h2 h':Heap}{a x e:Addr}{o:HO}
theorem Un.any(u:Un fs ex H H1 h h1){b:Addr}{ob:Obj}(q:h.get? b=some ob)(n:H b=none)(hx:b∉ex):∃sl,h1.get? b=some { ob with slots:=sl }:=by
 by_cases hb:b∈fs
 ·exact u.slot b ob q n hb hx
 ·exact⟨ob.slots,u.keep b ob q n hb hx⟩
theorem Un.kept(k:∀b u,h.get? b=some u->h'.get? b=some u):Un fs ex H H h h' :=
 ⟨λb ob q _ _ _=>k b ob q,λb ob q _ _ _=>⟨ob.slots,k b ob q⟩,λ_ _ _ n _=>n,λb ob q _=>⟨ob,k b ob q⟩,λ_ _ q=>q,λ_ _ _ q=>q,λ_ ps q=>⟨#[],by assumption⟩⟩
theorem Un.refl:Un fs ex H H h h:=Un.kept λ_ _ q=>q
theorem Un.laid(k:∀b u,h.get? b=some u->h'.get? b=some u)(hp:h.objs.size<=a)(hn:H a=none):Un fs ex H (upd H a o) h h' where
 keep:=λb u q _ _ _=>k b u q
 slot:=λb u q _ _ _=>⟨u.slots,k b u q⟩
 free:=λb u q n _=>by rw[upd_ne (Y4 (Z8 (Heap.lt_size q) hp))];exact n
 there:=λb u q _=>⟨u,k b u q⟩
 tups:=λb xs q=>by rw[upd_ne (bp q hn)];exact q
 frzs:=λb u xs q=>by rw[upd_ne (bp q hn)];exact q
 tbls:=λb ps q=>⟨#[],by rw[upd_ne (bp q hn),q];simp⟩
theorem Un.write(mu:Mut (H x))(he:e=x\/H e=some (.own x))(k:∀b u,b≠e->h.get? b=some u->h'.get? b=some u)(heo:∃u,h'.get? e=some u):Un fs ex H (upd H x o) h h':=by
 have hx:∀b,H b=none->b≠x:=λb n z=>by subst z;rw[n] at mu;exact mu
 have hb:∀b,H b=none->b≠e:=λb n z=>by
  simp_all
 have hm:∀b u,H b=some u->¬Mut (some u)->b≠x:=λb u q nm z=>by simp_all
 refine⟨λb u q n _ _=>k b u (hb b n) q,λb u q n _ _=>⟨u.slots,k b u (hb b n) q⟩,λb u q n _=>by rw[upd_ne (hx b n)];exact n,λb u q _=>?_,
  λb xs q=>by rw[upd_ne (hm b _ q λz=>z)];exact q,λb u xs q=>by rw[upd_ne (hm b _ q λz=>z)];exact q,λb ps q=>⟨#[],by rw[upd_ne (hm b _ q λz=>z),q];simp⟩⟩
 grind
end
noncomputable def trk(h:Heap)(H:Hp):List Addr:=(List.range h.objs.size).filter λa=>(H a).isSome
noncomputable def uf(h:Heap)(H:Hp):Heap:=PySem.W.hideAll h (trk h H)
theorem zU(h:Heap)(H:Hp):(uf h H).objs.size=h.objs.size:=PySem.W.hideAll_size _ _
theorem B0{h:Heap}{H:Hp}{b:Addr}{o:Obj}(e:h.get? b=some o)(n:H b=none):(uf h H).get? b=some o :=
 PySem.W.hideAll_get _ e λhm=>by
  have q:= (Y8.mp hm).2
  simp_all
theorem DW{h:Heap}{H:Hp}{b:Addr}{o:Obj}(e:(uf h H).get? b=some o):h.get? b=some o/\H b=none:=by
 have e':= PySem.W.of_hideAll (trk h H) e
 refine⟨e',?_⟩
 cases q:H b with
 | none=>rfl
 | some x =>
  have hm:b∈trk h H:=Y8.mpr ⟨List.mem_range.mpr (Heap.lt_size e'),by simp [q]⟩
  have z:(uf h H).get? b=none:=PySem.W.hideAll_none (trk h H) hm
  simp_all
noncomputable def EU(g h:Heap)(L:Addr):List (Addr×Obj):=(List.range h.objs.size).filterMap λa=>if a=L\/(g.get? a).isSome=true then none else (h.get? a).map λo=>(a,o)
noncomputable def rest(g h:Heap)(L d:Addr):List (Addr×Obj):=(EU g h L).filter λp=>decide (p.1≠d)
end L2
namespace L2
open PyProof.Rows
structure Mod(K:ε)(mg:Str->Option Value)(base:Heap):Prop where
 kin:K.In base
 glob:base.Ns mainGlobals mg
 blt:∃mb,base.Ns builtinsNs mb/\∀x:Str,x ≠ "__name__" -> mb x=bootBuiltins x
 nolimit:base.NoLimit
structure Cx where
 prog:Program
 w:World
 K:ε
 mg:Str->Option Value
 base:Heap
 A:Around
 N:List Str
 s₀:Shared
 H₀:Hp
 env:Env
 outer:List Env
 stack:List Env
 ex:List Addr
 fn:Str->Bool
 calm:Bool
 pn:List (Addr×Obj)
 xe:Value->Shared->Prop
noncomputable def frs(l:List Env):List Addr:=l.filterMap (·.frame)
abbrev Cx.fs(X:Cx):List Addr:=frs X.outer
def Vis(sc:Scope)(x:Str):Prop:=sc.names.lookup x=some .local\/sc.names.lookup x=some .cell\/sc.names.lookup x=some .free
def Loc(sc:Scope)(x:Str):Prop:=sc.names.lookup x=some .local\/sc.names.lookup x=some .cell
def Look(env:Env)(h:Heap)(m:Str->Option Value)(x:Str)(u:Value):Prop :=
 (env.kindOf x=some .local/\m x=some u)\/((env.kindOf x=some .cell\/env.kindOf x=some .free)/\∃c,env.cells.lookup x=some c/\h.IsCell c (some u))
structure Cx.Ok(X:Cx):Prop where
 mod:Mod X.K X.mg X.base
 kind:X.env.scope.kind=.function
 glob:X.env.globals=mainGlobals
 blt:X.env.builtins=builtinsNs
 above:X.s₀.heap.objs.size<=X.env.locals
 inj:∀x y c,X.env.cells.lookup x=some c->X.env.cells.lookup y=some c->x=y
 has:∀x,(X.env.kindOf x=some .cell\/X.env.kindOf x=some .free)->∃c,X.env.cells.lookup x=some c
 cab:∀x c,X.fn x=true->X.env.cells.lookup x=some c->X.s₀.heap.objs.size<=c
 hd:X.calm=true->X.A.handled=none
 frames:X.A.frames=some X.stack
 stk:X.stack=X.outer\/(X.stack=X.env::X.outer/\X.env.frame=some X.env.locals)
 exf:∀b∈X.ex,b≠X.env.locals/\∀x c,X.env.cells.lookup x=some c->c≠b
 bs:∀b o,X.base.get? b=some o->X.s₀.heap.get? b=some o/\X.H₀ b=none
 bsz:X.base.objs.size<=X.s₀.heap.objs.size
 noex:∀b o,X.base.get? b=some o->b∉X.ex
 exfs:∀b∈X.ex,b∉X.fs
 funs:X.s₀.heap.FunFrames X.base X.outer
 frf:∀b∈X.fs,X.H₀ b=none
structure Inv(X:Cx)(pins:List (Addr×Obj))(σ:List (Option V))(H:Hp)(s:Shared):Prop where
 ok:X.Ok
 os:s.os=X.s₀.os
 bare:AllBare s.gens
 base:Un X.fs X.ex X.H₀ H X.s₀.heap s.heap
 loc:∃m,s.heap.Ns X.env.locals m/\∀(i:Nat) (x:Str) (v:V),X.N[i]?=some x->σ[i]?=some (some v)->Vis X.env.scope x->∃u,bW v u/\Look X.env s.heap m x u
 cell:∀x c,X.env.cells.lookup x=some c->∃v,s.heap.IsCell c v
 free:H X.env.locals=none
 freeC:∀x c,X.env.cells.lookup x=some c->H c=none
 pin:∀p∈X.pn++pins,s.heap.get? p.1=some p.2/\H p.1=none/\p.1≠X.env.locals/\p.1∉X.fs/\∀v,p.2.data≠.cell v
 hok:HOk X.prog X.w H s.heap
 len:σ.length=X.N.length
section
variable{X:Cx}{pins:List (Addr×Obj)}{σ:List (Option V)}{H H':Hp}{s:Shared}{h':Heap}
theorem Cx.Ok.nofr(ok:X.Ok){b:Addr}{o:Obj}(e:X.base.get? b=some o):b∉X.fs:=λhb=>by
 have:=(ok.funs.mem hb).1
 simp_all
theorem Inv.bs(I:Inv X pins σ H s):∀b o,X.base.get? b=some o->s.heap.get? b=some o/\H b=none:=λb o e =>
 ⟨I.base.keep b o (I.ok.bs b o e).1 (I.ok.bs b o e).2 (I.ok.nofr e) (I.ok.noex b o e),I.base.free b o (I.ok.bs b o e).1 (I.ok.bs b o e).2 (I.ok.noex b o e)⟩
theorem Inv.bk(I:Inv X pins σ H s):∀b o,X.base.get? b=some o->s.heap.get? b=some o:=λb o e=>(I.bs b o e).1
theorem Inv.mod(I:Inv X pins σ H s):Mod X.K X.mg X.base:=I.ok.mod
theorem Inv.kIn(I:Inv X pins σ H s):X.K.In s.heap:=I.ok.mod.kin.keeps I.bk
theorem Inv.lt(I:Inv X pins σ H s):X.env.locals<s.heap.objs.size:=let ⟨_,hn,_⟩:=I.loc;hn.lt
theorem Inv.sz(I:Inv X pins σ H s):X.s₀.heap.objs.size<=s.heap.objs.size:=X5 I.ok.above (Nat.le_of_lt I.lt)
theorem Inv.nofs(I:Inv X pins σ H s){a:Addr}(h:s.heap.objs.size<=a):a∉X.fs:=λhb=>by
 obtain⟨_,o,ho,_⟩:=I.ok.funs.mem hb
 exact absurd (Z8 (Heap.lt_size ho) (X5 I.sz h)) (Nat.lt_irrefl _)
theorem Inv.cne(I:Inv X pins σ H s):∀x c,X.env.cells.lookup x=some c->c≠X.env.locals:=λx c e z=>by
 obtain⟨v,o,ho,hd⟩:=I.cell x c e
 obtain⟨m,⟨o',es,ep,ho',hd',_⟩,_⟩:=I.loc
 simp_all
theorem Inv.funs(I:Inv X pins σ H s):s.heap.FunFrames X.base X.outer:=by
 have all:∀(l:List Env),(∀b∈frs l,b∈X.fs)->X.s₀.heap.FunFrames X.base l->s.heap.FunFrames X.base l:=by
  intro l
  induction l with
  | nil=>intro _ _;trivial
  | cons env r ih =>
   intro hs hl
   obtain⟨hk,⟨L,o,hf,hn,ho,hd⟩,hr⟩:=hl
   have hL:= hs L (by unfold frs;simp_all)
   obtain⟨sl,e⟩:=I.base.slot L o ho (I.ok.frf L hL) hL λz=>I.ok.exfs L z hL
   exact⟨hk,⟨L,_,hf,hn,e,hd⟩,ih (λb hb=>hs b (by unfold frs;rw[List.filterMap_cons,hf];exact χ _ hb)) hr⟩
 exact all X.outer (λ_ hb=>hb) I.ok.funs
theorem Inv.stack(I:Inv X pins σ H s):s.heap.FunFrames X.base X.stack:=by
 rcases I.ok.stk with e | ⟨e,hf⟩
 ·rw[e];exact I.funs
 ·rw[e]
  obtain⟨m,hn,_⟩:=I.loc
  refine .cons (by rw[I.ok.kind];decide) hf hn ?_ I.funs
  exact Heap.get?_none_of_le (X5 I.ok.bsz I.ok.above)
theorem Inv.stkSub(I:Inv X pins σ H s):∀b∈frs X.stack,b∈X.env.locals::X.fs:=λb hb=>by
 rcases I.ok.stk with e | ⟨e,hf⟩
 ·simp_all
 ·rw[e] at hb
  unfold frs at hb
  rw[List.filterMap_cons,hf] at hb
  exact hb
theorem Inv.stkFree(I:Inv X pins σ H s):∀b∈frs X.stack,H b=none:=λb hb=>by
 rcases Θ.mp (I.stkSub b hb) with e | hb
 ·rw[e];exact I.free
 ·obtain⟨_,o,ho,_⟩:=I.ok.funs.mem hb
  exact I.base.free b o ho (I.ok.frf b hb) λz=>I.ok.exfs b z hb
theorem Inv.step{g':Array GenState}{t':Nat}{d':Drawn}{ch:List Addr}(I:Inv X pins σ H s)
  (hch:∀b∈ch,(b∈X.ex\/X.s₀.heap.objs.size<=b)/\b≠X.env.locals/\(∀x c,X.env.cells.lookup x=some c->c≠b)/\∀p∈X.pn++pins,p.1≠b)
  (keep:∀b o,b≠X.env.locals->b∉X.fs->b∉ch->s.heap.get? b=some o->H b=none->h'.get? b=some o)
  (slot:∀b o,b≠X.env.locals->b∈X.fs->b∉ch->s.heap.get? b=some o->H b=none->∃sl,h'.get? b=some { o with slots:=sl }) (free:∀b o,b∉ch->s.heap.get? b=some o->H b=none->H' b=none)
  (there:∀b o,b∉ch->s.heap.get? b=some o->∃o',h'.get? b=some o')
  (tups:∀b xs,H b=some (.tup xs)->H' b=some (.tup xs)) (frzs:∀b o u,H b=some (.frz o u)->H' b=some (.frz o u)) (tbls:∀b ps,H b=some (.tbl ps)->∃more,H' b=some (.tbl (ps++more)))
  (ns:∀m,s.heap.Ns X.env.locals m->h'.Ns X.env.locals m) (hok:HOk X.prog X.w H' h') (hg:AllBare g') :
  Inv X pins σ H' { s with heap:=h',gens:=g',drawn:=d',toks:=t' }:=by
 have neL:∀b o,X.s₀.heap.get? b=some o->b≠X.env.locals:=λb o e=>Y4 (Z8 (Heap.lt_size e) I.ok.above)
 have neC:∀b o,X.s₀.heap.get? b=some o->b∉X.ex->b∉ch:=λb o e hx hb=>by
  rcases (hch b hb).1 with z | z
  ·simp_all
  ·exact absurd (Z8 (Heap.lt_size e) z) (Nat.lt_irrefl _)
 have cellK:∀x c,X.env.cells.lookup x=some c->∀v,s.heap.IsCell c v->h'.IsCell c v:=λx c e v ⟨o,ho,hd⟩=>by
  have nch:c∉ch:=λz=>(hch c z).2.2.1 x c e rfl
  by_cases hc:c∈X.fs
  ·obtain⟨sl,q⟩:=slot c o (I.cne x c e) hc nch ho (I.freeC x c e)
   exact⟨_,q,hd⟩
  ·exact⟨o,keep c o (I.cne x c e) hc nch ho (I.freeC x c e),hd⟩
 refine⟨I.ok,I.os,hg,⟨λb o e n hb hx=>?_,λb o e n hb hx=>?_,λb o e n hx=>?_,λb o e hx=>?_,λb xs e=>tups b xs (I.base.tups b xs e),λb o xs e=>frzs b o xs (I.base.frzs b o xs e),λb ps e=>?_⟩,?_,λx c e=>?_,?_,λx c e=>?_,λp hp=>?_,hok,I.len⟩
 ·exact keep b o (neL b o e) hb (neC b o e hx) (I.base.keep b o e n hb hx) (I.base.free b o e n hx)
 ·obtain⟨sl,e1⟩:=I.base.slot b o e n hb hx
  obtain⟨sl',e2⟩:=slot b _ (neL b o e) hb (neC b o e hx) e1 (I.base.free b o e n hx)
  simp_all
 ·obtain⟨o',e1⟩:=I.base.there b o e hx
  exact free b o' (neC b o e hx) e1 (I.base.free b o e n hx)
 ·obtain⟨o',e1⟩:=I.base.there b o e hx
  simp_all
 ·obtain⟨m1,e1⟩:=I.base.tbls b ps e
  grind
 ·obtain⟨m,hn,hl⟩:=I.loc
  refine⟨m,ns m hn,λi x v e1 e2 e3=>?_⟩
  obtain⟨u,r,l⟩:=hl i x v e1 e2 e3
  refine⟨u,r,?_⟩
  rcases l with l | ⟨k,c,e,z⟩
  ·exact .inl l
  ·exact .inr ⟨k,c,e,cellK x c e _ z⟩
 ·obtain⟨v,z⟩:=I.cell x c e
  grind
 ·obtain⟨m,⟨o,_,_,ho,_⟩,_⟩:=I.loc
  exact free _ o (λz=>(hch _ z).2.1 rfl) ho I.free
 ·obtain⟨v,o,ho,hd⟩:=I.cell x c e
  exact free c o (λz=>(hch c z).2.2.1 x c e rfl) ho (I.freeC x c e)
 ·obtain⟨e,n,ne,nf,d⟩:=I.pin p hp
  grind
theorem Inv.un{t':Nat}(I:Inv X pins σ H s)(u:Un X.fs [] H H' s.heap h')(hok:HOk X.prog X.w H' h'):Inv X pins σ H' { s with heap:=h',toks:=t' }:=by
 obtain⟨m,⟨o,es,ep,ho,r⟩,_⟩:=id I.loc
 obtain⟨sl,hL⟩:=u.any ho I.free (by simp)
 exact I.step (g':=s.gens) (d':=s.drawn) (ch:=[]) (λ_ z=>nomatch z) (λb o _ hb _ e n=>u.keep b o e n hb (by simp)) (λb o _ hb _ e n=>u.slot b o e n hb (by simp)) (λb o _ e n=>u.free b o e n (by simp)) (λb o _ e=>u.there b o e (by simp)) u.tups u.frzs u.tbls (λm' hm=>by
  obtain⟨o',es',ep',ho',r'⟩:=hm
  rw[ho] at ho';cases ho'
  exact⟨_,es',ep',hL,r'⟩) hok I.bare
theorem Inv.call{g':Array GenState}{t':Nat}{d':Drawn}{ch:List Addr}(I:Inv X pins σ H s)(u:Un (frs X.stack) ch H H' s.heap h')(hok:HOk X.prog X.w H' h')(hg:AllBare g')
  (hch:∀b∈ch,(b∈X.ex\/X.s₀.heap.objs.size<=b)/\b≠X.env.locals/\(∀x c,X.env.cells.lookup x=some c->c≠b)/\∀p∈X.pn++pins,p.1≠b) :
  Inv X pins σ H' { s with heap:=h',gens:=g',drawn:=d',toks:=t' }:=by
 obtain⟨m,⟨o,es,ep,ho,r⟩,_⟩:=id I.loc
 obtain⟨sl,hL⟩:=u.any ho I.free λz=>(hch _ z).2.1 rfl
 exact I.step (ch:=ch) hch (λb o hL hb hc e n=>u.keep b o e n (λz=>(Θ.mp (I.stkSub b z)).elim hL hb) hc) (λb o _ _ hc e n=>u.any e n hc) (λb o hc e n=>u.free b o e n hc) (λb o hc e=>u.there b o e hc) u.tups u.frzs u.tbls (λm' hm=>by
  obtain⟨o',es',ep',ho',r'⟩:=hm
  rw[ho] at ho';cases ho'
  exact⟨_,es',ep',hL,r'⟩) hok hg
theorem Inv.turned{t':Nat}{it:Addr}(I:Inv X pins σ H s)(k:∀b o,b≠it->s.heap.get? b=some o->h'.get? b=some o)(hn:H it=none)(hL:it≠X.env.locals)
  (h1:it∈X.ex\/X.s₀.heap.objs.size<=it) (h2:∀x c,X.env.cells.lookup x=some c->c≠it) (h3:∀p∈X.pn++pins,p.1≠it):Inv X pins σ H { s with heap:=h',toks:=t' }:=by
 have nit:∀b u,H b=some u->b≠it:=λb u e z=>by simp_all
 refine I.step (g':=s.gens) (d':=s.drawn) (ch:=[it]) (λb hb=>?_) (λb o _ _ hc e _=>k b o (λz=>hc (by simp [z])) e) (λb o _ _ hc e _=>⟨o.slots,k b o (λz=>hc (by simp [z])) e⟩) (λ_ _ _ _ n=>n)
  (λb o hc e=>⟨o,k b o (λz=>hc (by simp [z])) e⟩) (λ_ _ e=>e) (λ_ _ _ e=>e) (λb ps e=>⟨#[],by assumption⟩) (λm hm=>?_) (λb u e=>?_) I.bare
 ·grind
 ·obtain⟨o,es,ep,ho,r⟩:=hm
  exact⟨o,es,ep,k _ o (Ne.symm hL) ho,r⟩
 ·refine(I.hok b u e).stay (λc v hc q=>k c v ?_ q) (λ_ q=>q) λ_ _ q=>q
  grind
theorem Inv.tok(I:Inv X pins σ H s)(t:Nat):Inv X pins σ H { s with toks:=t }:=I.un (h':=s.heap) (t':=t) Un.refl I.hok
theorem Inv.kept{t':Nat}(I:Inv X pins σ H s)(k:∀b u,s.heap.get? b=some u->h'.get? b=some u):Inv X pins σ H { s with heap:=h',toks:=t' }:=I.un (Un.kept k) (I.hok.kept k)
theorem Inv.laid{a:Addr}{o:HO}{t':Nat}(I:Inv X pins σ H s)(k:∀b u,s.heap.get? b=some u->h'.get? b=some u)(hp:s.heap.objs.size<=a)(new:eQ X.prog X.w (upd H a o) h' a o) :
  Inv X pins σ (upd H a o) { s with heap:=h',toks:=t' }:=I.un (Un.laid k hp (I.hok.fresh hp)) (I.hok.laid k hp new)
theorem Inv.write{x e:Addr}{o:HO}{t':Nat}(I:Inv X pins σ H s)(mu:Mut (H x))(he:e=x\/H e=some (.own x))(k:∀b u,b≠e->s.heap.get? b=some u->h'.get? b=some u)(heo:∃u,h'.get? e=some u)
  (new:eQ X.prog X.w (upd H x o) h' x o):Inv X pins σ (upd H x o) { s with heap:=h',toks:=t' }:=I.un (Un.write mu he k heo) (I.hok.write mu he k heo new)
theorem Inv.pins_of{pins':List (Addr×Obj)}(I:Inv X pins σ H s)(h:∀p∈pins',s.heap.get? p.1=some p.2/\H p.1=none/\p.1≠X.env.locals/\p.1∉X.fs/\∀v,p.2.data≠.cell v):Inv X pins' σ H s :=
 ⟨I.ok,I.os,I.bare,I.base,I.loc,I.cell,I.free,I.freeC,λp hp=>(Φ.mp hp).elim (λz=>I.pin p (List.mem_append_left _ z)) (h p),I.hok,I.len⟩
theorem vJ{N:List Str}(hN:N.Nodup){i j:Nat}{x:Str}(a:N[i]?=some x)(b:N[j]?=some x):i=j:=by
 obtain⟨h1,e1⟩:=ω.mp a
 obtain⟨h2,e2⟩:=ω.mp b
 exact(List.getElem_inj hN).mp (e1.trans e2.symm)
theorem rY{M:Model}{A:Around}{E:Value->Shared->Prop}{i:Nat}{x:Str}{v:V}{u:Value}{Q:Unit->Shared->Prop}(I:Inv X pins σ H s)(hN:X.N.Nodup)(hi:X.N[i]?=some x)(hx:Loc X.env.scope x)(r:bW v u)
  (h:∀s',Inv X pins (σ.set i (some v)) H s'->(∃a,Heap.SameBut a s.heap s'.heap/\(a=X.env.locals\/X.env.cells.lookup x=some a))->Q () s') (hf:X.fn x=true\/X.env.scope.names.lookup x=some .local:=by first | exact .inl rfl | exact .inr rfl | assumption):wpAny M A (storeName X.env x u) Q E s:=by
 obtain⟨m,hn,hl⟩:=id I.loc
 have hcls:(X.env.scope.kind==.class||(X.env.scope.kind==.module&&X.env.locals != X.env.globals))=false:=by rw[I.ok.kind];rfl
 have hiσ:i<σ.length:=by rw[I.len];grind
 have cne:=I.cne
 have tracked:∀{a:Addr} {h':Heap},(∃o,s.heap.get? a=some o/\H a=none)->Heap.SameBut a s.heap h'->HOk X.prog X.w H h':=λ{a h'} ha hs b ob e=>by
  obtain⟨_,_,hfree⟩:=ha
  refine(I.hok b ob e).stay (λc w' hc q=>(hs.2 c ?_).trans q) (λ_ q=>q) λ_ _ q=>q
  grind
 rcases hx with hk | hk
 ·refine wpAny_storeName_local hk hn (λh' hn' hs=>?_) hcls
  obtain⟨oL,_,_,hoL,_⟩:=id hn
  refine h _ ⟨I.ok,I.os,I.bare,⟨λb o e n hb hx=>?_,λb o e n hb hx=>?_,I.base.free,λb o e hx=>?_,I.base.tups,I.base.frzs,I.base.tbls⟩,⟨_,hn',λj y v' e1 e2 e3=>?_⟩,λy c e=>?_,I.free,I.freeC,λp hp=>?_,tracked ⟨oL,hoL,I.free⟩ hs,by simpa using I.len⟩ ⟨_,hs,.inl rfl⟩
  ·exact(hs.2 b (Y4 (Z8 (Heap.lt_size e) I.ok.above))).trans (I.base.keep b o e n hb hx)
  ·obtain⟨sl,e1⟩:=I.base.slot b o e n hb hx
   exact⟨sl,(hs.2 b (Y4 (Z8 (Heap.lt_size e) I.ok.above))).trans e1⟩
  ·obtain⟨o',e1⟩:=I.base.there b o e hx
   exact⟨o',(hs.2 b (Y4 (Z8 (Heap.lt_size e) I.ok.above))).trans e1⟩
  ·by_cases hj:j=i
   ·subst hj
    rw[hi] at e1;cases e1
    rw[V5 hiσ] at e2
    cases e2
    exact⟨u,r,.inl ⟨hk,by simp⟩⟩
   ·rw[List.getElem?_set_ne (Ne.symm hj)] at e2
    obtain⟨u',r',q⟩:=hl j y v' e1 e2 e3
    refine⟨u',r',?_⟩
    rcases q with ⟨k,e⟩ | ⟨k,c,e,z⟩
    ·refine .inl ⟨k,?_⟩
     have:y≠x:=λe=>hj (vJ hN e1 (e▸hi))
     simp_all
    ·exact .inr ⟨k,c,e,z.sameBut hs (cne y c e)⟩
  ·obtain⟨w',z⟩:=I.cell y c e
   exact⟨w',z.sameBut hs (cne y c e)⟩
  ·obtain⟨e,n,ne,nf,d⟩:=I.pin p hp
   exact⟨(hs.2 p.1 ne).trans e,n,ne,nf,d⟩
 ·have hfn:X.fn x=true:=by
   simp_all
  obtain⟨c,hc⟩:=I.ok.has x (.inl hk)
  obtain⟨w',z⟩:=I.cell x c hc
  refine wpAny_storeName_cell I.ok.kind hk hc z (λh' hc' hs=>?_)
  obtain⟨oc,hoc,hocd⟩:=id z
  refine h { s with heap:=h' } ⟨I.ok,I.os,I.bare,⟨λb o e n hb hx=>?_,λb o e n hb hx=>?_,I.base.free,λb o e hx=>?_,I.base.tups,I.base.frzs,I.base.tbls⟩,⟨m,hn.sameBut hs (Ne.symm (cne x c hc)),λj y v' e1 e2 e3=>?_⟩,λy c' e=>?_,I.free,I.freeC,λp hp=>?_,tracked ⟨oc,hoc,I.freeC x c hc⟩ hs,by simpa using I.len⟩ ⟨c,hs,.inr hc⟩
  ·exact(hs.2 b (Y4 (Z8 (Heap.lt_size e) (I.ok.cab x c hfn hc)))).trans (I.base.keep b o e n hb hx)
  ·obtain⟨sl,e1⟩:=I.base.slot b o e n hb hx
   exact⟨sl,(hs.2 b (Y4 (Z8 (Heap.lt_size e) (I.ok.cab x c hfn hc)))).trans e1⟩
  ·obtain⟨o',e1⟩:=I.base.there b o e hx
   exact⟨o',(hs.2 b (Y4 (Z8 (Heap.lt_size e) (I.ok.cab x c hfn hc)))).trans e1⟩
  ·by_cases hj:j=i
   ·subst hj
    rw[hi] at e1;cases e1
    rw[V5 hiσ] at e2
    cases e2
    exact⟨u,r,.inr ⟨.inl hk,c,hc,hc'⟩⟩
   ·rw[List.getElem?_set_ne (Ne.symm hj)] at e2
    obtain⟨u',r',q⟩:=hl j y v' e1 e2 e3
    refine⟨u',r',?_⟩
    rcases q with q | ⟨k,c',e,z'⟩
    ·exact .inl q
    ·refine .inr ⟨k,c',e,z'.sameBut hs ?_⟩
     rintro rfl
     exact hj (vJ hN e1 (I.ok.inj _ _ _ e hc▸hi))
  ·by_cases hcc:c'=c
   ·grind
   ·obtain⟨w2,z2⟩:=I.cell y c' e
    exact⟨w2,z2.sameBut hs hcc⟩
  ·obtain⟨e,n,ne,nf,d⟩:=I.pin p hp
   refine⟨(hs.2 p.1 ?_).trans e,n,ne,nf,d⟩
   grind
theorem uX{M:Model}{A:Around}{E:Value->Shared->Prop}{i:Nat}{x:Str}{v:V}{u:Value}{Q:Unit->Shared->Prop}(I:Inv X pins σ H s)(hN:X.N.Nodup)(hi:X.N[i]?=some x)(hx:Loc X.env.scope x)(r:bW v u)
  (h:∀s',Inv X pins (σ.set i (some v)) H s'->Q () s') (hf:X.fn x=true\/X.env.scope.names.lookup x=some .local:=by first | exact .inl rfl | exact .inr rfl | assumption):wpAny M A (storeName X.env x u) Q E s :=
 rY I hN hi hx r (λs' I' _=>h s' I') hf
theorem Inv.call'{s':Shared}{ch:List Addr}(I:Inv X pins σ H s)(ho:s'.os=s.os)(u:Un (frs X.stack) ch H H' s.heap s'.heap)(hok:HOk X.prog X.w H' s'.heap)(hg:AllBare s'.gens)
  (hch:∀b∈ch,(b∈X.ex\/X.s₀.heap.objs.size<=b)/\b≠X.env.locals/\(∀x c,X.env.cells.lookup x=some c->c≠b)/\∀p∈X.pn++pins,p.1≠b):Inv X pins σ H' s':=by
 obtain⟨h',g',d',t',o'⟩:=s'
 have e:= ho
 subst e
 exact I.call u hok hg hch
end
abbrev XK:=Value->Option Addr->Hp->Prop
abbrev St:=List (Option V)
abbrev VK:=V->Hp->Prop
abbrev TE:=St->Hp->VK->Prop
abbrev TT:=St->Hp->(Bool->Hp->Prop)->Prop
abbrev TA:=St->Hp->(List V->Hp->Prop)->Prop
structure Ends where
 nx:St->Hp->Prop
 rt:VK
 bk:St->Hp->Prop:=λ_ _=>False
 ct:St->Hp->Prop:=λ_ _=>False
abbrev TS:=Ends->St->Hp->Prop
def EP(X:Cx)(pins:List (Addr×Obj))(σ:St)(Q:VK)(u:Value)(s':Shared):Prop:=∃v H',Inv X pins σ H' s'/\bW v u/\Q v H'
def TP(X:Cx)(pins:List (Addr×Obj))(σ:St)(Q:Bool->Hp->Prop)(b:Bool)(s':Shared):Prop:=∃H',Inv X pins σ H' s'/\Q b H'
def AP(X:Cx)(pins:List (Addr×Obj))(σ:St)(Q:List V->Hp->Prop)(us:List Value)(s':Shared):Prop:=∃vs H',Inv X pins σ H' s'/\bD vs us/\Q vs H'
def SP(X:Cx)(pins:List (Addr×Obj))(D:Ends)(f:Flow)(s':Shared):Prop :=
 match f with
 | .next=>∃σ' H',Inv X pins σ' H' s'/\D.nx σ' H'
 | .brk=>∃σ' H',Inv X pins σ' H' s'/\D.bk σ' H'
 | .cont=>∃σ' H',Inv X pins σ' H' s'/\D.ct σ' H'
 | .ret u=>∃v σ' H',Inv X pins σ' H' s'/\bW v u/\D.rt v H'
def PE(X:Cx)(e:Expr)(t:TE):Prop :=
 ∀(pins:List (Addr×Obj)) (s:Shared) (σ:St) (H:Hp) (Q:VK),Inv X pins σ H s->t σ H Q->wpAny (model X.prog X.w) X.A (eval e X.env) (EP X pins σ Q) X.xe s
def PT(X:Cx)(e:Expr)(t:TT):Prop :=
 ∀(pins:List (Addr×Obj)) (s:Shared) (σ:St) (H:Hp) (Q:Bool->Hp->Prop),Inv X pins σ H s->t σ H Q->wpAny (model X.prog X.w) X.A (isTrue e X.env (eval e X.env)) (TP X pins σ Q) X.xe s
def PW(X:Cx)(e:Expr)(t:TT):Prop :=
 ∀(whole:Sem Value) (pins:List (Addr×Obj)) (s:Shared) (σ:St) (H:Hp) (Q:Bool->Hp->Prop),Inv X pins σ H s->t σ H Q->wpAny (model X.prog X.w) X.A (isTrue e X.env whole) (TP X pins σ Q) X.xe s
theorem PW.pt{X:Cx}{e:Expr}{t:TT}(h:PW X e t):PT X e t:=h _
def PA(X:Cx)(es:List Expr)(t:TA):Prop :=
 ∀(pos:Pos) (pins:List (Addr×Obj)) (s:Shared) (σ:St) (H:Hp) (Q:List V->Hp->Prop),Inv X pins σ H s->t σ H Q->wpAny (model X.prog X.w) X.A (spliced (backTo pos (starEach es X.env))) (AP X pins σ Q) X.xe s
def PS(X:Cx)(st:Stmt)(t:TS):Prop :=
 ∀(pins:List (Addr×Obj)) (s:Shared) (σ:St) (H:Hp) (D:Ends),Inv X pins σ H s->t D σ H->wpAny (model X.prog X.w) X.A (exec st X.env) (SP X pins D) X.xe s
def PSs(X:Cx)(st:List Stmt)(t:TS):Prop :=
 ∀(pins:List (Addr×Obj)) (s:Shared) (σ:St) (H:Hp) (D:Ends),Inv X pins σ H s->t D σ H->wpAny (model X.prog X.w) X.A (execs st X.env) (SP X pins D) X.xe s
theorem thn{α:Type}{t:Sem α}{Q Q':α->Shared->Prop}{M:Model}{A:Around}{E:Value->Shared->Prop}{s:Shared}(h:wpAny M A t Q E s)(hQ:∀a s,Q a s->Q' a s):wpAny M A t Q' E s:=wpAny_mono h hQ λ_ _ x=>x
end L2
namespace L2
open PyProof.Rows
section
variable{X:Cx}
noncomputable def uT(i:Nat):TE:=λσ H Q=>∃v,σ[i]?=some (some v)/\Q v H
noncomputable def tC(v:V):TE:=λ_ H Q=>Q v H
theorem pe_var{i:Nat}{x:Str}{pos:Pos}(hN:X.N[i]?=some x)(hv:Vis X.env.scope x)(hd:(x==("__debug__" : Str))=false:=by decide)(hcd:(x==("__classdict__" : Str))=false:=by decide):PE X (.Name x pos) (uT i):=by
 intro pins s σ H Q I h
 obtain⟨v,e,h⟩:=h
 obtain⟨m,hn,hl⟩:=I.loc
 obtain⟨u,r,l⟩:=hl i x v hN e hv
 have fin:EP X pins σ Q u s:=⟨v,H,I,r,h⟩
 rcases l with ⟨hk,hm⟩ | ⟨hk,c,hc,hcell⟩
 ·exact wpAny_Name (wpAny_loadName_local I.ok.kind hk hn hm fin) hd
 ·rcases hk with hk | hk
  ·exact wpAny_Name (wpAny_loadName_cell I.ok.kind hk hc hcell fin) hd
  ·exact wpAny_Name (wpAny_loadName_free I.ok.kind hk hc hcell fin hcd) hd
theorem Ba{i j pos}:PE X (.Constant (.int i) j pos) (tC (.int i)):=λ_ _ _ H _ I h=>wpAny_Constant_int ⟨.int i,H,I.tok _,⟨_,rfl⟩,h⟩
theorem pe_bl{b j pos}:PE X (.Constant (.bool b) j pos) (tC (.bl b)):=λ_ _ _ H _ I h=>Constant_bool ⟨.bl b,H,I,rfl,h⟩
theorem pe_non{j pos}:PE X (.Constant .none j pos) (tC .non):=λ_ _ _ H _ I h=>Constant_none ⟨.non,H,I,rfl,h⟩
theorem pe_str{x j pos}:PE X (.Constant (.str x) j pos) (tC (.str x)):=λ_ _ _ H _ I h=>Calls.Constant_str ⟨.str x,H,I.tok _,⟨_,rfl⟩,h⟩
def Gl(X:Cx)(x:Str):Prop:=X.env.kindOf x=some .globalImplicit
theorem pz{E:Value->Shared->Prop}{pins:List (Addr×Obj)}{s:Shared}{σ:St}{H:Hp}{x:Str}{u:Value}{pos:Pos}{Q:Value->Shared->Prop}(I:Inv X pins σ H s)(hg:Gl X x)(hm:X.mg x=some u)(h:Q u s)
  (hd:(x==("__debug__" : Str))=false:=by decide):wpAny (model X.prog X.w) X.A (eval (.Name x pos) X.env) Q E s :=
 Calls.Name_function_global I.ok.kind hg (Calls.loadGlobal_global (by rw[I.ok.glob];exact I.mod.glob.keeps I.bk) hm h) hd
theorem mn{E:Value->Shared->Prop}{pins:List (Addr×Obj)}{s:Shared}{σ:St}{H:Hp}{x:Str}{u:Value}{pos:Pos}{Q:Value->Shared->Prop}(I:Inv X pins σ H s)(hg:Gl X x)(hm:X.mg x=none)(hv:bootBuiltins x=some u)(h:Q u s)
  (hn:x ≠ "__name__" := by decide) (hd:(x==("__debug__" : Str))=false:=by decide):wpAny (model X.prog X.w) X.A (eval (.Name x pos) X.env) Q E s:=by
 obtain⟨mb,h1,h2⟩:=I.mod.blt
 exact Calls.Name_function_global I.ok.kind hg (Calls.loadGlobal_builtin (by rw[I.ok.glob];exact I.mod.glob.keeps I.bk) hm (by rw[I.ok.blt];exact h1.keeps I.bk) ((h2 x hn).trans hv) h) hd
theorem lx{x:Str}{v:V}{u:Value}{pos:Pos}(hg:Gl X x)(hm:X.mg x=some u)(r:bW v u)(hd:(x==("__debug__" : Str))=false:=by decide):PE X (.Name x pos) (tC v) :=
 λ_ _ _ H _ I h=>pz I hg hm ⟨v,H,I,r,h⟩ hd
theorem DD{x:Str}{v:V}{u:Value}{pos:Pos}(hg:Gl X x)(hm:X.mg x=none)(hv:bootBuiltins x=some u)(r:bW v u)(hn:x ≠ "__name__" := by decide)(hd:(x==("__debug__" : Str))=false:=by decide):PE X (.Name x pos) (tC v) :=
 λ_ _ _ H _ I h=>mn I hg hm hv ⟨v,H,I,r,h⟩ hn hd
variable{a b:Expr}{ta tb:TE}{pos:Pos}
def PC(X:Cx)(op:CmpOp)(a b:Expr)(t:TE):Prop :=
 ∀(pins:List (Addr×Obj)) (s:Shared) (σ:St) (H:Hp) (Q:VK),Inv X pins σ H s->t σ H Q ->
  wpAny (model X.prog X.w) X.A (eval a X.env) (λv s₁=>wpAny (model X.prog X.w) X.A (eval b X.env) (λu s₂=>wpAny (model X.prog X.w) X.A (compareOp op v u) (EP X pins σ Q) X.xe s₂) X.xe s₁) X.xe s
theorem Bz(b:Expr){op:CmpOp}(h:op≠.In)(h2:op≠.NotIn):behindInMarks op b=false:=by
 have e1:(op==CmpOp.In)=false:=by simp_all
 have e2:(op==CmpOp.NotIn)=false:=by simp_all
 cases b<;>simp [behindInMarks,e1,e2]
noncomputable def tB(t:TE):TT:=λσ H Q=>t σ H λx H1=>∃c,x=.bl c/\Q c H1
theorem pt_cmp{op:CmpOp}{t:TE}(h:PC X op a b t)(h1:behindInMarks op b=false:=by first | exact Bz _ (by decide) (by decide) | rfl):PT X (.Compare a [op] [b] pos) (tB t):=by
 intro pins s σ H Q I hw
 refine wpAny_isTrue_Compare1 (thn (h pins s σ H _ I hw) λv s1 h1=>thn h1 λu s2 h2=>thn h2 λc s3 ⟨x,H1,I1,r1,q1⟩=>?_) h1
 obtain⟨d,rfl,q⟩:=q1
 cases r1
 exact wpAny_truthy_bool ⟨H1,I1,q⟩
theorem pt_val{e:Expr}{t:TE}(h:PE X e t)(he:∀whole,isTrue e X.env whole=(do let v <- whole;standAt e.pos;holding [v] (truthy v)):=by intro _;rfl):PT X e (tB t):=by
 intro pins s σ H Q I hw
 refine isTrue_plain (thn (h pins s σ H _ I hw) λv s1 ⟨x,H1,I1,r1,q1⟩=>?_) (he _)
 obtain⟨d,rfl,q⟩:=q1
 cases r1
 exact wpAny_truthy_bool ⟨H1,I1,q⟩
variable{tA tB':TT}{rest:List Expr}
noncomputable def tAnd(t u:TT):TT:=λσ H Q=>t σ H λc H1=>if c=true then u σ H1 Q else Q false H1
noncomputable def tOr(t u:TT):TT:=λσ H Q=>t σ H λc H1=>if c=true then Q true H1 else u σ H1 Q
noncomputable def tNot(t:TT):TT:=λσ H Q=>t σ H λc H1=>Q (!c) H1
theorem Do(ha:PT X a tA):PW X (.BoolOp .And [a] pos) tA:=by
 intro wh pins s σ H Q I h
 refine isTrue_and (thn (ha pins s σ H Q I h) λc s1 e=>?_)
 cases c with
 | true=>exact isTrue_and_nil e
 | false=>exact e
theorem AR(ha:PT X a tA):PW X (.BoolOp .Or [a] pos) tA:=by
 intro wh pins s σ H Q I h
 refine isTrue_or (thn (ha pins s σ H Q I h) λc s1 e=>?_)
 cases c with
 | false=>exact isTrue_or_nil e
 | true=>exact e
theorem pw_and(ha:PT X a tA)(hb:PW X (.BoolOp .And (b::rest) pos) tB'):PW X (.BoolOp .And (a::b::rest) pos) (tAnd tA tB'):=by
 intro wh pins s σ H Q I h
 refine isTrue_and (thn (ha pins s σ H _ I h) λc s1 ⟨H1,I1,q1⟩=>?_)
 cases c with
 | true=>exact hb wh pins s1 σ H1 Q I1 q1
 | false=>assumption
theorem pw_or(ha:PT X a tA)(hb:PW X (.BoolOp .Or (b::rest) pos) tB'):PW X (.BoolOp .Or (a::b::rest) pos) (tOr tA tB'):=by
 intro wh pins s σ H Q I h
 refine isTrue_or (thn (ha pins s σ H _ I h) λc s1 ⟨H1,I1,q1⟩=>?_)
 cases c with
 | true=>assumption
 | false=>exact hb wh pins s1 σ H1 Q I1 q1
theorem pt_not(ha:PT X a tA):PT X (.UnaryOp .Not a pos) (tNot tA):=by
 intro pins s σ H Q I h
 exact isTrue_not (ha pins s σ H (λc H1=>Q (!c) H1) I h)
noncomputable def tAndV(ta tb:TE):TE:=λσ H Q=>ta σ H λx H1=>∃c,x=.bl c/\if c=true then tb σ H1 Q else Q (.bl false) H1
noncomputable def tOrV(ta tb:TE):TE:=λσ H Q=>ta σ H λx H1=>∃c,x=.bl c/\if c=true then Q (.bl true) H1 else tb σ H1 Q
noncomputable def tNotV(ta:TE):TE:=λσ H Q=>ta σ H λx H1=>∃c,x=.bl c/\Q (.bl (!c)) H1
theorem pe_one{op}{t:TE}(h:PE X a t):PE X (.BoolOp op [a] pos) t:=λpins s σ H Q I hw=>BoolOp_one (h pins s σ H Q I hw)
theorem pe_and(ha:PE X a ta)(hb:PE X (.BoolOp .And (b::rest) pos) tb):PE X (.BoolOp .And (a::b::rest) pos) (tAndV ta tb):=by
 intro pins s σ H Q I h
 refine BoolOp_and (thn (ha pins s σ H _ I h) λv s1 ⟨x,H1,I1,r1,q1⟩=>?_)
 obtain⟨c,rfl,q1⟩:=q1
 cases r1
 refine wpAny_truthy_bool ?_
 cases c with
 | true=>exact hb pins s1 σ H1 Q I1 q1
 | false=>exact⟨.bl false,H1,I1,rfl,q1⟩
theorem pe_or(ha:PE X a ta)(hb:PE X (.BoolOp .Or (b::rest) pos) tb):PE X (.BoolOp .Or (a::b::rest) pos) (tOrV ta tb):=by
 intro pins s σ H Q I h
 refine BoolOp_or (thn (ha pins s σ H _ I h) λv s1 ⟨x,H1,I1,r1,q1⟩=>?_)
 obtain⟨c,rfl,q1⟩:=q1
 cases r1
 refine wpAny_truthy_bool ?_
 cases c with
 | false=>exact hb pins s1 σ H1 Q I1 q1
 | true=>exact⟨.bl true,H1,I1,rfl,q1⟩
theorem pe_not(ha:PE X a ta):PE X (.UnaryOp .Not a pos) (tNotV ta):=by
 intro pins s σ H Q I h
 refine UnaryOp_ (thn (ha pins s σ H _ I h) λv s1 ⟨x,H1,I1,r1,q1⟩=>?_)
 obtain⟨c,rfl,q1⟩:=q1
 cases r1
 exact not_of (wpAny_truthy_bool ⟨.bl (!c),H1,I1,rfl,q1⟩)
noncomputable def tIf(t:TT)(ta tb:TE):TE:=λσ H Q=>t σ H λc H1=>if c=true then ta σ H1 Q else tb σ H1 Q
theorem Bb{c:Expr}(hc:PT X c tA)(ha:PE X a ta)(hb:PE X b tb):PE X (.IfExp c a b pos) (tIf tA ta tb):=by
 intro pins s σ H Q I h
 refine wpAny_IfExp (thn (hc pins s σ H _ I h) λd s1 ⟨H1,I1,q1⟩=>?_)
 cases d with
 | true=>exact ha pins s1 σ H1 Q I1 q1
 | false=>exact hb pins s1 σ H1 Q I1 q1
end
end L2
namespace L2
open PyProof.Rows
def SqL(K:ε)(H:Hp)(a:Addr)(xs:List V):Prop :=
 Rd H a (.lst xs) \/
  ∃(o:Obj) (its:Array Value) (n:Nat),K.lookup a=some o/\o.cls=.type "list" /\ o.dict=none/\o.data=.seq its n/\its.size<=sizeLine/\bD xs its.toList
def SqT(K:ε)(H:Hp)(a:Addr)(xs:List V):Prop :=
 Rd H a (.tup xs) \/
  ∃(o:Obj) (its:Array Value) (n:Nat),K.lookup a=some o/\o.cls=.type "tuple" /\ o.data=.seq its n/\its.size<=sizeLine/\bD xs its.toList
noncomputable def absV:Value->Option V
 | .none=>some .non
 | .bool b=>some (.bl b)
 | .int i _=>some (.int i)
 | .str x _=>some (.str x)
 | .bytes b _=>some (.byt b)
 | .float b _=>some (.flt b)
 | .ref a=>some (.ref a)
 | .type n=>some (.ty n)
 | _=>none
theorem bW.abs{x:V}{u:Value}(r:bW x u):absV u=some x:=by
 cases x with
 | non=>cases r;rfl
 | bl _=>cases r;rfl
 | int _=>obtain⟨t,rfl⟩:=r;rfl
 | str _=>obtain⟨t,rfl⟩:=r;rfl
 | byt _=>obtain⟨t,rfl⟩:=r;rfl
 | flt _=>obtain⟨t,rfl⟩:=r;rfl
 | ref _=>cases r;rfl
 | ty _=>cases r;rfl
theorem bW.inj{x y:V}{u:Value}(r:bW x u)(q:bW y u):x=y:=Option.some.inj (r.abs.symm.trans q.abs)
theorem bD.inj:∀{xs ys:List V} {us:List Value},bD xs us->bD ys us->xs=ys
 | _,_,_,.nil,.nil=>rfl
 | _,_,_,.cons r t,.cons r' t'=>by rw[r.inj r',bD.inj t t']
section
variable{X:Cx}{pins:List (Addr×Obj)}{σ:St}{H:Hp}{s:Shared}{a:Addr}{xs ys:List V}
theorem SqT.of{K:ε}(h:H a=some (.tup xs)):SqT K H a xs:=.inl (.inl h)
theorem Inv.list(I:Inv X pins σ H s)(h:SqL X.K H a xs):∃its:List Value,bD xs its/\PlainL s.heap a its.toArray/\xs.length<=sizeLine:=by
 rcases h with h | ⟨o,its,n,hk,hc,hd,hs,hz,r⟩
 ·obtain⟨z,its,n,r,e⟩:=h.ok I.hok
  exact⟨its,r,⟨_,n,e,rfl,rfl,rfl⟩,z⟩
 ·refine⟨its.toList,r,⟨o,n,I.kIn a o hk,hc,hd,by assumption⟩,?_⟩
  have e:=r.length
  simp_all
theorem Inv.tuple(I:Inv X pins σ H s)(h:SqT X.K H a xs):∃its:List Value,bD xs its/\IsTup s.heap a its.toArray/\xs.length<=sizeLine:=by
 rcases h with h | ⟨o,its,n,hk,hc,hs,hz,r⟩
 ·obtain⟨z,its,r,p⟩:=h.ok I.hok
  grind
 ·refine⟨its.toList,r,⟨o,I.kIn a o hk,hc,n,by assumption⟩,?_⟩
  have e:=r.length
  simp_all
theorem Inv.list_inj(I:Inv X pins σ H s)(h:SqL X.K H a xs)(h':SqL X.K H a ys):xs=ys:=by
 obtain⟨its,r,⟨o,n,e,_,_,d⟩,_⟩:=I.list h
 obtain⟨its',r',⟨o',n',e',_,_,d'⟩,_⟩:=I.list h'
 rw[e] at e';cases e'
 rw[d] at d'
 injection d' with d1 _
 have:its=its':=by simp_all
 subst this
 exact r.inj r'
theorem Inv.tuple_inj(I:Inv X pins σ H s)(h:SqT X.K H a xs)(h':SqT X.K H a ys):xs=ys:=by
 obtain⟨its,r,⟨o,e,_,n,d⟩,_⟩:=I.tuple h
 obtain⟨its',r',⟨o',e',_,n',d'⟩,_⟩:=I.tuple h'
 rw[e] at e';cases e'
 rw[d] at d'
 injection d' with d1 _
 have:its=its':=by simp_all
 subst this
 exact r.inj r'
end
abbrev Cx.wish(X:Cx)(E:Value->Shared->Prop):Cx:={ X with xe:=E }
abbrev Cx.nox(X:Cx):Cx:=X.wish λ_ _=>False
theorem Cx.Ok.wish{X:Cx}(ok:X.Ok)(E:Value->Shared->Prop):(X.wish E).Ok :=
 ⟨ok.mod,ok.kind,ok.glob,ok.blt,ok.above,ok.inj,ok.has,ok.cab,ok.hd,ok.frames,ok.stk,ok.exf,ok.bs,ok.bsz,ok.noex,ok.exfs,ok.funs,ok.frf⟩
theorem Cx.Ok.unwish{X:Cx}{E:Value->Shared->Prop}(ok:(X.wish E).Ok):X.Ok :=
 ⟨ok.mod,ok.kind,ok.glob,ok.blt,ok.above,ok.inj,ok.has,ok.cab,ok.hd,ok.frames,ok.stk,ok.exf,ok.bs,ok.bsz,ok.noex,ok.exfs,ok.funs,ok.frf⟩
section
variable{X:Cx}{pins:List (Addr×Obj)}{σ:St}{H:Hp}{s:Shared}{E:Value->Shared->Prop}
theorem Inv.wish(I:Inv X pins σ H s)(E:Value->Shared->Prop):Inv (X.wish E) pins σ H s:=⟨I.ok.wish E,I.os,I.bare,I.base,I.loc,I.cell,I.free,I.freeC,I.pin,I.hok,I.len⟩
theorem Inv.unwish(I:Inv (X.wish E) pins σ H s):Inv X pins σ H s:=⟨I.ok.unwish,I.os,I.bare,I.base,I.loc,I.cell,I.free,I.freeC,I.pin,I.hok,I.len⟩
theorem SP.unwish{D:Ends}{f:Flow}{s':Shared}(h:SP (X.wish E) pins D f s'):SP X pins D f s':=by
 cases f with
 | next=>obtain⟨σ',H',I,q⟩:=h;exact⟨σ',H',I.unwish,q⟩
 | brk=>obtain⟨σ',H',I,q⟩:=h;exact⟨σ',H',I.unwish,q⟩
 | cont=>obtain⟨σ',H',I,q⟩:=h;exact⟨σ',H',I.unwish,q⟩
 | ret u=>obtain⟨v,σ',H',I,r,q⟩:=h;exact⟨v,σ',H',I.unwish,r,q⟩
theorem PSs.nox{st:List Stmt}{t:TS}(h:PSs X.nox st t):PSs X st t:=λpins s σ H D I hw =>
 wpAny_mono (h pins s σ H D (I.wish _) hw) (λ_ _ q=>q.unwish) λ_ _ z=>False.elim z
end
section
variable{X:Cx}{st:Stmt}{rest:List Stmt}{t u:TS}{e:Expr}{te:TE}{pos:Pos}
noncomputable def tNext:TS:=λD σ H=>D.nx σ H
noncomputable def tSeq(t u:TS):TS:=λD σ H=>t { D with nx:=u D } σ H
theorem tK:PSs X [] tNext:=λ_ _ σ H _ I h=>wpAny_execs_nil ⟨σ,H,I,h⟩
theorem mS(h1:PS X st t)(h2:PSs X rest u):PSs X (st::rest) (tSeq t u):=by
 intro pins s σ H D I h
 refine wpAny_execs_cons (thn (h1 pins s σ H { D with nx:=u D } I h) λf s1 q=>?_)
 cases f with
 | next =>
  obtain⟨σ',H',I',q⟩:=q
  exact h2 pins s1 σ' H' D I' q
 | ret v=>exact q
 | brk=>exact q
 | cont=>exact q
theorem o7(h1:PS X st t):PSs X [st] t:=by
 intro pins s σ H D I h
 refine wpAny_execs_cons (thn (h1 pins s σ H D I h) λf s1 q=>?_)
 cases f with
 | next=>exact wpAny_execs_nil q
 | ret v=>exact q
 | brk=>exact q
 | cont=>exact q
noncomputable def tBreak:TS:=λD σ H=>D.bk σ H
theorem A0:PS X (.Break pos) tBreak:=λ_ _ σ H _ I h=>wpAny_Break ⟨σ,H,I,h⟩
theorem Inv.quiet{pins:List (Addr×Obj)}{σ:St}{H:Hp}{s:Shared}(I:Inv X pins σ H s):interactive X.env=false:=by simp [interactive,I.ok.kind]
noncomputable def tDrop(te:TE):TS:=λD σ H=>te σ H λ_ H1=>D.nx σ H1
theorem tL(he:PE X e te)(hs:swapsWith e none pos.line X.env=pure false:=by rfl):PS X (.Expr e pos) (tDrop te):=by
 intro pins s σ H D I h
 exact wpAny_Expr_any (thn (he pins s σ H _ I h) λv s1 ⟨x,H1,I1,r1,q1⟩=>⟨σ,H1,I1,q1⟩) I.quiet hs
noncomputable def tRet(te:TE):TS:=λD σ H=>te σ H D.rt
theorem qi(he:PE X e te):PS X (.Return (some e) pos) (tRet te):=by
 intro pins s σ H D I h
 exact wpAny_Return_some (thn (he pins s σ H _ I h) λv s1 ⟨x,H1,I1,r1,q1⟩=>⟨x,σ,H1,I1,r1,q1⟩)
noncomputable def tIfS(c:TT)(t u:TS):TS:=λD σ H=>c σ H λb H1=>if b=true then t D σ H1 else u D σ H1
theorem AX{c:Expr}{a b:List Stmt}{tc:TT}(hc:PT X c tc)(ha:PSs X a t)(hb:PSs X b u):PS X (.If c a b pos) (tIfS tc t u):=by
 intro pins s σ H D I h
 refine wpAny_If (thn (hc pins s σ H _ I h) λd s1 ⟨H1,I1,q1⟩=>?_)
 cases d with
 | true=>exact ha pins s1 σ H1 D I1 q1
 | false=>exact hb pins s1 σ H1 D I1 q1
noncomputable def tNever:TS:=λ_ _ _=>False
theorem AW:PS X st tNever:=λ_ _ _ _ _ _ h=>h.elim
end
abbrev TG:=V->St->Hp->(St->Hp->Prop)->Prop
abbrev TGs:=List V->St->Hp->(St->Hp->Prop)->Prop
def PG(X:Cx)(target:Expr)(t:TG):Prop :=
 ∀(pins:List (Addr×Obj)) (s:Shared) (σ:St) (H:Hp) (v:V) (u:Value) (Q:St->Hp->Prop),Inv X pins σ H s->bW v u->t v σ H Q ->
  wpAny (model X.prog X.w) X.A (assign target X.env u) (λ_ s'=>∃σ' H',Inv X pins σ' H' s'/\Q σ' H') X.xe s
def PGs(X:Cx)(ts:List Expr)(t:TGs):Prop :=
 ∀(pins:List (Addr×Obj)) (s:Shared) (σ:St) (H:Hp) (vs:List V) (us:List Value) (Q:St->Hp->Prop),Inv X pins σ H s->bD vs us->t vs σ H Q ->
  wpAny (model X.prog X.w) X.A (assignInOrder ((assignEach ts X.env).map (·.2)) us) (λ_ s'=>∃σ' H',Inv X pins σ' H' s'/\Q σ' H') X.xe s
section
variable{X:Cx}{pos:Pos}
noncomputable def yH(i:Nat):TG:=λv σ H Q=>Q (σ.set i (some v)) H
theorem aS{i:Nat}{x:Str}(hN:X.N.Nodup)(hi:X.N[i]?=some x)(hx:Loc X.env.scope x)(hf:X.fn x=true\/X.env.scope.names.lookup x=some .local:=by first | exact .inl rfl | exact .inr rfl | assumption):PG X (.Name x pos) (yH i):=by
 intro pins s σ H v u Q I r h
 exact wpAny_assign_Name (uX I hN hi hx r (λs' I'=>⟨_,H,I',h⟩) hf)
noncomputable def gNil:TGs:=λvs σ H Q=>vs=[]/\Q σ H
noncomputable def gCons(t:TG)(u:TGs):TGs:=λvs σ H Q=>∃v r,vs=v::r/\t v σ H λσ' H'=>u r σ' H' Q
theorem yk:PGs X [] gNil:=by
 intro pins s σ H vs us Q I r h
 obtain⟨e,h⟩:=h
 subst e
 exact assignInOrder_nil ⟨σ,H,I,h⟩
theorem vy{e:Expr}{es:List Expr}{t:TG}{u:TGs}(h1:PG X e t)(h2:PGs X es u)
  (hs:(assignEach (e::es) X.env).map (·.2)=assign e X.env::(assignEach es X.env).map (·.2):=by rfl):PGs X (e::es) (gCons t u):=by
 intro pins s σ H vs us Q I r h
 obtain⟨v,vr,e1,h⟩:=h
 subst e1
 cases r with
 | cons r rr =>
  rw[hs]
  refine assignInOrder_cons (thn (h1 pins s σ H _ _ _ I r h) λ_ s1 ⟨σ1,H1,I1,q1⟩=>?_)
  exact h2 pins s1 σ1 H1 _ _ Q I1 rr q1
noncomputable def gTup(K:ε)(n:Nat)(t:TGs):TG:=λv σ H Q=>∃a xs,v=.ref a/\SqT K H a xs/\xs.length=n/\t xs σ H Q
theorem A5{es:List Expr}{k:Nat}{t:TGs}{n:Nat}(hc:X.calm=true)(h:PGs X es t)
  (hn:(assignEach es X.env).length=n:=by rfl) (hst:(assignEach es X.env).findIdx? (·.1)=none:=by rfl):PG X (.Tuple es k pos) (gTup X.K n t):=by
 intro pins s σ H v u Q I r hw
 obtain⟨a,xs,e1,hq,hl,hw⟩:=hw
 subst e1
 cases r
 obtain⟨its,rv,ht,hz⟩:=I.tuple hq
 refine assign_Tuple_tuple (I.ok.hd hc) ht (by simp [hn,<-hl,rv.length]) hst λh' hx=>?_
 have I1:Inv X pins σ H { s with heap:=h' }:=I.kept (t':=s.toks) λb o e=>hx b o (Y4 (Heap.lt_size e)) e
 exact h pins _ σ H xs _ Q I1 (by assumption) hw
noncomputable def tAsg(te:TE)(g:TG):TS:=λD σ H=>te σ H λx H1=>g x σ H1 D.nx
theorem A1{tg e:Expr}{te:TE}{g:TG}(he:PE X e te)(hg:PG X tg g)(hs:swapsWithSole [tg] e pos.line X.env=pure false:=by rfl)(hw:swappedStores [tg] e X.env=pure none:=by rfl)
  (h1:(assignEach [tg] X.env).map (·.2)=[assign tg X.env]:=by rfl):PS X (.Assign [tg] e pos) (tAsg te g):=by
 intro pins s σ H D I h
 refine wpAny_Assign_stores (thn (he pins s σ H _ I h) λv s1 ⟨x,H1,I1,r1,q1⟩=>?_) hs hw
 rw[h1]
 exact thn (hg pins s1 σ H1 x v _ I1 r1 q1) λ_ s2 q=>q
theorem wT{i:Nat}{x:Str}{e:Expr}{te:TE}{pos':Pos}(hN:X.N.Nodup)(hi:X.N[i]?=some x)(hx:Loc X.env.scope x)(he:PE X e te)(hs:swapsWith e (some (.Name x pos')) pos.line X.env=pure false:=by rfl)(hf:X.fn x=true\/X.env.scope.names.lookup x=some .local:=by first | exact .inl rfl | exact .inr rfl | assumption) :
  PS X (.Assign [.Name x pos'] e pos) (tAsg te (yH i)):=by
 intro pins s σ H D I h
 refine wpAny_Assign_Name (thn (he pins s σ H _ I h) λv s1 ⟨y,H1,I1,r1,q1⟩=>?_) hs
 exact uX I1 hN hi hx r1 (λs2 I2=>⟨_,H1,I2,q1⟩) hf
end
section
variable{X:Cx}{pos:Pos}
end
structure It where
 go:Nat->Hp->Prop
 yld:Nat->Hp->V->Hp->Prop
 stop:Nat->Hp->Prop
def nI(X:Cx)(pins:List (Addr×Obj))(H:Hp)(b:Addr):Prop :=
 H b=none/\b≠X.env.locals/\b∉X.fs/\(b∈X.ex\/X.s₀.heap.objs.size<=b)/\(∀x c,X.env.cells.lookup x=some c->c≠b)/\∀p∈X.pn++pins,p.1≠b
theorem Inv.fpOk{X:Cx}{pins:List (Addr×Obj)}{σ:St}{H H':Hp}{s:Shared}{b:Addr}(I:Inv X pins σ H s)(hb:s.heap.objs.size<=b)(hn:H' b=none):nI X pins H' b:=by
 refine⟨hn,Nat.ne_of_gt (Z8 I.lt hb),I.nofs hb,.inr (X5 I.sz hb),λx c e z=>?_,λp hp z=>?_⟩
 ·obtain⟨v,q⟩:=I.cell x c e
  exact absurd (Z8 q.lt (by simp_all)) (Nat.lt_irrefl _)
 ·exact absurd (Z8 (Heap.lt_size (I.pin p hp).1) (by simp_all)) (Nat.lt_irrefl _)
structure Turn(P:Program)(w:World)(K:ε)(tg:Expr)(J:It)(fp:List Addr)(it:Addr)(tn:Nat->Heap->Prop):Prop where
 mem:it∈fp
 obj:∀i h,tn i h->∀b∈fp,∃o,h.get? b=some o/\∀v,o.data≠.cell v
 keep:∀i h h',tn i h->(∀b∈fp,∀o,h.get? b=some o->h'.get? b=some o)->tn i h'
 item:∀(X:Cx),X.prog=P->X.w=w->X.K=K->X.calm=true->∀(i:Nat) (pins:List (Addr×Obj)) (s:Shared) (σ:St) (H:Hp) (E:Value->Shared->Prop),Inv X pins σ H s->(∀b∈fp,nI X pins H b)->tn i s.heap->J.go i H ->
  wpAny (model P w) X.A (pyNext (.ref it)) (λr s1=>∃u,r=some u /\
   wpAny (model P w) X.A (letOwnedTupleGo tg (.ref it) u) (λ_ s2=>∃x H',Inv X pins σ H' s2/\bW x u/\J.yld i H x H'/\tn (i+1) s2.heap/\∀b∈fp,H' b=none) E s1) E s
 done:∀(X:Cx),X.prog=P->X.w=w->X.K=K->X.calm=true->∀(i:Nat) (pins:List (Addr×Obj)) (s:Shared) (σ:St) (H:Hp) (E:Value->Shared->Prop),Inv X pins σ H s->(∀b∈fp,nI X pins H b)->tn i s.heap->J.stop i H ->
  wpAny (model P w) X.A (pyNext (.ref it)) (λr s1=>r=none/\Inv X pins σ H s1) E s
 self:∀(A:Around) (i:Nat) (s:Shared) (Q:Value->Shared->Prop) (E:Value->Shared->Prop),tn i s.heap->Q (.ref it) s->wpAny (model P w) A (pyIter (.ref it)) Q E s
abbrev TI:=St->Hp->(It->Hp->Prop)->Prop
def PIE(X:Cx)(pins:List (Addr×Obj))(σ:St)(tg:Expr)(R:It->Hp->Prop)(itv:Value)(s2:Shared):Prop :=
 ∃(it:Addr) (fp:List Addr) (tn:Nat->Heap->Prop) (J:It) (H':Hp),itv=.ref it/\Inv X pins σ H' s2/\Turn X.prog X.w X.K tg J fp it tn/\tn 0 s2.heap/\(∀b∈fp,nI X pins H' b)/\R J H'
def PI(X:Cx)(tg iter:Expr)(wi:TI):Prop :=
 ∀(pins:List (Addr×Obj)) (s:Shared) (σ:St) (H:Hp) (R:It->Hp->Prop),Inv X pins σ H s->wi σ H R ->
  wpAny (model X.prog X.w) X.A (eval iter X.env) (λv s1=>wpAny (model X.prog X.w) X.A (pyIter v) (PIE X pins σ tg R) X.xe s1) X.xe s
theorem vV{M:Model}{A:Around}{E:Value->Shared->Prop}{s:Shared}{tg:Expr}{it:Addr}{u:Value}{o:Obj}{n:String}{vs:Array Value}{Q:Unit->Shared->Prop}(ho:s.heap.get? it=some o)(hc:o.cls=.type n)(hd:o.data=.fields vs)
    (hn:["enumerate", "zip", "dict_itemiterator", "dict_reverseitemiterator", "odict_iterator", "itertools.zip_longest", "itertools.pairwise"].contains n=false) (hQ:Q () s):wpAny M A (letOwnedTupleGo tg (.ref it) u) Q E s:=by
  cases tg<;>first
    | exact wpAny_pure hQ
    | (cases u<;>first
        | exact wpAny_pure hQ
        | (refine wpAny_bind (wpAny_load ho ?_)
           rw[hc,hd]
           show wpAny M A (if (["enumerate", "zip", "dict_itemiterator", "dict_reverseitemiterator", "odict_iterator", "itertools.zip_longest", "itertools.pairwise"].contains n&&vs[0]?==some (rawInt _))=true then _ else _) Q E s
           rw[if_neg (by intro h;rw[hn,Bool.false_and] at h;cases h)]
           exact wpAny_pure hQ))
noncomputable def Itl(K:ε)(a:Addr):It :=
 ⟨λi H=>∃xs x,SqL K H a xs/\xs[i]?=some x,λi H x H'=>H'=H/\∀xs,SqL K H a xs->xs[i]?=some x,λi H=>∃xs,SqL K H a xs/\xs.length<=i⟩
noncomputable def Itt(K:ε)(a:Addr):It :=
 ⟨λi H=>∃xs x,SqT K H a xs/\xs[i]?=some x,λi H x H'=>H'=H/\∀xs,SqT K H a xs->xs[i]?=some x,λi H=>∃xs,SqT K H a xs/\xs.length<=i⟩
noncomputable def Itr(lo:Int)(n:Nat):It:=⟨λi _=>i<n,λi H x H'=>H'=H/\x=.int (lo+i),λi _=>n<=i⟩
theorem zh{P:Program}{w:World}{K:ε}{tg:Expr}(a it:Addr):Turn P w K tg (Itl K a) [it] it (λi h=>h.IsListIter it a i) where
 mem:=by simp
 obj:=λi h st b hb=>by
  have e:b=it:=by simp_all
  subst e
  obtain⟨o,e,c,d⟩:=st
  simp_all
 keep:=λi h h' st k=>st.at λo e=>k it (by simp) o e
 item:=by
  intro X hP hw hK hc i pins s σ H E I hf st hg
  subst hP hw hK
  obtain⟨xs,x,hq,hx⟩:=hg
  obtain⟨its,rv,p,hz⟩:=I.list hq
  obtain⟨u,hu,ru⟩:=rv.get hx
  obtain⟨f0,f1,f2,f3,f4,f5⟩:=hf it (by simp)
  refine wpAny_pyNext_list_item st p.isList (x:=u) (by simp_all) λh' st' sb=>?_
  have I1:Inv X pins σ H { s with heap:=h' }:=I.turned (t':=s.toks) (λb o hb e=>(sb.2 b hb).trans e) f0 f1 f3 f4 f5
  obtain⟨o,e,c,d⟩:=id st'
  exact⟨u,rfl,vV (s:={ s with heap:=h' }) e c d (by decide) ⟨x,H,I1,ru,⟨rfl,λys hy=>by rw[I.list_inj hy hq];exact hx⟩,st',λb hb=>(hf b hb).1⟩⟩
 done:=by
  intro X hP hw hK hc i pins s σ H E I hf st hg
  subst hP hw hK
  obtain⟨xs,hq,hx⟩:=hg
  obtain⟨its,rv,p,hz⟩:=I.list hq
  obtain⟨f0,f1,f2,f3,f4,f5⟩:=hf it (by simp)
  have hl:=rv.length
  exact wpAny_pyNext_list_end (I.ok.hd hc) st p.isList (by simp_all) λh' eb=>⟨rfl,I.turned (t':=s.toks) (λb o hb e=>eb b o hb e) f0 f1 f3 f4 f5⟩
 self:=λ_ _ _ _ _ st h=>wpAny_pyIter_listiter st h
theorem wE{P:Program}{w:World}{K:ε}{tg:Expr}(a it:Addr):Turn P w K tg (Itt K a) [it] it (λi h=>h.IsTupleIter it a i) where
 mem:=by simp
 obj:=λi h st b hb=>by
  have e:b=it:=by simp_all
  subst e
  obtain⟨o,e,c,d⟩:=st
  simp_all
 keep:=λi h h' st k=>st.at λo e=>k it (by simp) o e
 item:=by
  intro X hP hw hK hc i pins s σ H E I hf st hg
  subst hP hw hK
  obtain⟨xs,x,hq,hx⟩:=hg
  obtain⟨its,rv,p,hz⟩:=I.tuple hq
  obtain⟨u,hu,ru⟩:=rv.get hx
  obtain⟨f0,f1,f2,f3,f4,f5⟩:=hf it (by simp)
  refine wpAny_pyNext_tuple_item st (show s.heap.IsTuple a its.toArray from p) (x:=u) (by simp_all) λh' st' sb=>?_
  have I1:Inv X pins σ H { s with heap:=h' }:=I.turned (t':=s.toks) (λb o hb e=>(sb.2 b hb).trans e) f0 f1 f3 f4 f5
  obtain⟨o,e,c,d⟩:=id st'
  exact⟨u,rfl,vV (s:={ s with heap:=h' }) e c d (by decide) ⟨x,H,I1,ru,⟨rfl,λys hy=>by rw[I.tuple_inj hy hq];exact hx⟩,st',λb hb=>(hf b hb).1⟩⟩
 done:=by
  intro X hP hw hK hc i pins s σ H E I hf st hg
  subst hP hw hK
  obtain⟨xs,hq,hx⟩:=hg
  obtain⟨its,rv,p,hz⟩:=I.tuple hq
  obtain⟨f0,f1,f2,f3,f4,f5⟩:=hf it (by simp)
  have hl:=rv.length
  exact wpAny_pyNext_tuple_end (I.ok.hd hc) st (show s.heap.IsTuple a its.toArray from p) (by simp_all) λh' eb=>⟨rfl,I.turned (t':=s.toks) (λb o hb e=>eb b o hb e) f0 f1 f3 f4 f5⟩
 self:=λ_ _ _ _ _ st h=>wpAny_pyIter_tupleiter st h
theorem wF{P:Program}{w:World}{K:ε}{tg:Expr}(it:Addr)(lo:Int)(n:Nat):Turn P w K tg (Itr lo n) [it] it (λi h=>IsRangeIter h it (lo+(i:Nat)*1) ((n:Int)-(i:Nat)) 1) where
 mem:=by simp
 obj:=λi h st b hb=>by
  simp_all
 keep:=λi h h' st k=>k it (by simp) _ st
 item:=by
  intro X hP hw hK hc i pins s σ H E I hf st hg
  subst hP hw hK
  obtain⟨f0,f1,f2,f3,f4,f5⟩:=hf it (by simp)
  have W:=Walks.range (prog:=X.prog) (w:=X.w) (I.ok.hd hc) it lo 1 n
  refine W.item i s _ _ hg st λv h' tk hv st' kk=>?_
  obtain⟨t,rfl⟩:=hv
  have I1:Inv X pins σ H { s with heap:=h',toks:=tk }:=I.turned (λb o hb e=>kk b o (by simp_all) e) f0 f1 f3 f4 f5
  refine⟨_,rfl,vV st' rfl rfl (by decide) ⟨.int (lo+i),H,I1,⟨t,?_⟩,⟨rfl,rfl⟩,st',λb hb=>(hf b hb).1⟩⟩
  simp
 done:=by
  intro X hP hw hK hc i pins s σ H E I hf st hg
  obtain⟨f0,f1,f2,f3,f4,f5⟩:=hf it (by simp)
  exact wpAny_pyNext_range_end (I.ok.hd hc) st (by have:n<=i:=hg;omega) λh' eb=>⟨rfl,I.turned (λb o hb e=>eb b o hb e) f0 f1 f3 f4 f5⟩
 self:=λ_ _ _ _ _ st h=>wpAny_pyIter_rangeiter st h
end L2
namespace L2
open PyProof.Rows
section
variable{X:Cx}{tg:Expr}
theorem vt{pins:List (Addr×Obj)}{σ:St}{H:Hp}{s:Shared}{R:It->Hp->Prop}{E:Value->Shared->Prop}{lo hi:Int}{t u v:Tok}{tk:Nat}(I:Inv X pins σ H s)(h1 : -(2 ^ 62)<=lo)(h2:lo<2 ^ 62)(h3 : -(2 ^ 62)<=hi)(h4:hi<2 ^ 62)
  (q:R (Itr lo (hi-lo).toNat) H):wpAny (model X.prog X.w) X.A (pyIter (.ref s.heap.objs.size)) (PIE X pins σ tg R) E { s with heap:=s.heap.push { cls:=.type "range",data:=.fields #[.int lo t,.int hi u,.int 1 v] },toks:=tk }:=by
 refine wpAny_pyIter_range (IsRange.new ..) (small_one h1 h2 h3 h4) ?_
 have I1:Inv X pins σ H { s with heap:=s.heap.push { cls:=.type "range",data:=.fields #[.int lo t,.int hi u,.int 1 v] },toks:=tk }:=I.kept λb o e=>Heap.get?_push_of_some _ e
 refine⟨(s.heap.push { cls:=.type "range",data:=.fields #[.int lo t,.int hi u,.int 1 v] }).objs.size,[(s.heap.push { cls:=.type "range",data:=.fields #[.int lo t,.int hi u,.int 1 v] }).objs.size],_,_,H,rfl,
  I1.kept (t':=tk) λb o e=>Heap.get?_push_of_some _ e,wF _ lo (hi-lo).toNat,?_,λb hb=>?_,q⟩
 ·have e1:lo+((0:Nat):Int)*1=lo:=by simp
  have e2:(((hi-lo).toNat:Nat):Int)-((0:Nat):Int)=Builtin.Range.rangeSize lo hi 1:=by rw[rangeSize_one];omega
  rw[e1,e2]
  exact Heap.get?_push_size _ rfl
 ·have e:b=(s.heap.push { cls:=.type "range",data:=.fields #[.int lo t,.int hi u,.int 1 v] }).objs.size:=by simp_all
  subst e
  exact I1.fpOk (ρ _) (I1.hok.fresh (ρ _))
noncomputable def iRng1(ta:TA):TI:=λσ H R=>ta σ H λvs H1=>∃j:Int,vs=[.int j] /\ -(2 ^ 62)<=j/\j<2 ^ 62/\R (Itr 0 j.toNat) H1
noncomputable def iRng2(ta:TA):TI:=λσ H R=>ta σ H λvs H1=>∃i j:Int,vs=[.int i,.int j]/\(-(2 ^ 62)<=i/\i<2 ^ 62 /\ -(2 ^ 62)<=j/\j<2 ^ 62)/\R (Itr i (j-i).toNat) H1
theorem zy{a:Expr}{ta:TA}{p pos:Pos}(hg:Gl X "range")(hm:X.mg "range" = none)(ha:PA X [a] ta)(hs:starEach [a] X.env=[(false,eval a X.env)]:=by rfl):PI X tg (.Call (.Name "range" p) [a] [] pos) (iRng1 ta):=by
 intro pins s σ H R I h
 refine Call_ (mn I hg hm boot_range (PyProof.Rows.callWith_type1 (thn (ha pos pins s σ H _ I h) λus s1 ⟨vs,H1,I1,r1,q1⟩=>?_) hs rfl))
 obtain⟨j,e,q1,q2,q⟩:=q1
 subst e
 cases r1 with
 | cons r rr =>
  cases rr
  obtain⟨t,rfl⟩:=r
  exact call_range_1 (vt I1 (by omega) (by omega) q1 q2 (by simp_all))
theorem zx{a b:Expr}{ta:TA}{p pos:Pos}(hg:Gl X "range")(hm:X.mg "range" = none)(ha:PA X [a,b] ta)(hs:starEach [a,b] X.env=[(false,eval a X.env),(false,eval b X.env)]:=by rfl)(hs2:starEach [b] X.env=[(false,eval b X.env)]:=by rfl) :
  PI X tg (.Call (.Name "range" p) [a,b] [] pos) (iRng2 ta):=by
 intro pins s σ H R I h
 refine Call_ (mn I hg hm boot_range (PyProof.Rows.callWith_type1 (thn (ha pos pins s σ H _ I h) λus s1 ⟨vs,H1,I1,r1,q1⟩=>?_) (by simp_all) (by rw[hs2];rfl)))
 obtain⟨i,j,e,⟨q1,q2,q3,q4⟩,q⟩:=q1
 subst e
 cases r1 with
 | cons r rr =>
  cases rr with
  | cons r' rr =>
   cases rr
   obtain⟨t,rfl⟩:=r
   obtain⟨t',rfl⟩:=r'
   exact call_range_2 (vt I1 q1 q2 q3 q4 q)
def tFor(wi:TI)(g:TG)(tb:TS):TS:=λD σ H=>wi σ H λJ H1=>∃W:Nat->Nat->St->Hp->Prop,(∃m,W 0 m σ H1)/\∀i m σ H,W i m σ H ->
 (J.stop i H/\D.nx σ H)\/(J.go i H/\∃N:St->Hp->Prop,(∀σ' H',N σ' H'->∃m',m'<m/\W (i+1) m' σ' H')/\∀x H',J.yld i H x H'->g x σ H' λσ2 H2=>tb { D with nx:=N,ct:=N,bk:=D.nx } σ2 H2)
noncomputable def qk(fp:List Addr)(h:Heap):List (Addr×Obj):=fp.filterMap λb=>(h.get? b).map λo=>(b,o)
theorem jS{fp:List Addr}{h:Heap}{b:Addr}{o:Obj}(hb:b∈fp)(e:h.get? b=some o):(b,o)∈qk fp h:=List.mem_filterMap.mpr ⟨b,hb,by simp_all⟩
theorem zH{fp:List Addr}{h:Heap}{p:Addr×Obj}(hp:p∈qk fp h):p.1∈fp/\h.get? p.1=some p.2:=by
 obtain⟨b,hb,e⟩:=List.mem_filterMap.mp hp
 cases q:h.get? b with
 | none=>simp_all
 | some o =>
  grind
theorem Inv.pinned{pins:List (Addr×Obj)}{σ:St}{H:Hp}{s:Shared}{fp:List Addr}(I:Inv X pins σ H s)(hf:∀b∈fp,nI X pins H b)(ho:∀b∈fp,∃o,s.heap.get? b=some o/\∀v,o.data≠.cell v):Inv X (pins++qk fp s.heap) σ H s :=
 I.pins_of λp hp=>(Φ.mp hp).elim (λz=>I.pin p (Y7 _ z)) λz=>by
  obtain⟨hb,e⟩:=zH z
  obtain⟨f0,f1,f2,_⟩:=hf p.1 hb
  grind
theorem Inv.unpinned{pins pl:List (Addr×Obj)}{σ:St}{H:Hp}{s:Shared}(I:Inv X (pins++pl) σ H s):Inv X pins σ H s:=I.pins_of λp hp=>I.pin p (Y7 _ (List.mem_append_left _ hp))
theorem AY{iter:Expr}{body:List Stmt}{wi:TI}{g:TG}{tb:TS}{pos:Pos}(hp:PassesOwn (model X.prog X.w) X.A X.env X.xe)(hc:X.calm=true)(hi:PI X tg iter wi)(hg:PG X tg g)(hb:PSs X body tb)
  (hs:∀x,foldedSetIterable iter X.env x=pure x:=by intro _;rfl):PS X (.For tg iter body [] pos) (tFor wi g tb):=by
 intro pins s σ H D I h
 refine wpAny_For (thn (hi pins s σ H _ I h) λv s1 h1=>thn h1 λitv s2 h2=>?_) hs
 obtain⟨it,fp,tn,J,H2,e,I2,T,st2,f2,W,⟨m0,w0⟩,turn⟩:=h2
 subst e
 have stat:∀{H':Hp},(∀b∈fp,H' b=none)->∀b∈fp,nI X pins H' b:=λhn b hb=>⟨hn b hb,(f2 b hb).2⟩
 refine codeAny_forLoop_any (λn s'=>∃i σ' H',Inv X pins σ' H' s'/\tn i s'.heap/\(∀b∈fp,H' b=none)/\W i n σ' H') ?_ m0 ⟨0,σ,H2,I2,st2,λb hb=>(f2 b hb).1,w0⟩
 rintro n s3 ⟨i,σ3,H3,I3,st3,fr3,w3⟩
 rcases turn i n σ3 H3 w3 with ⟨stop,qn⟩ | ⟨go,N,hN,step⟩
 ·refine wpAny_passesOwn hp (thn (T.done X rfl rfl rfl hc i pins s3 σ3 H3 X.xe I3 (stat fr3) st3 stop) λr s4 ⟨hr,I4⟩=>?_)
  subst hr
  exact wpAny_execs_nil ⟨σ3,H3,I4,qn⟩
 ·refine wpAny_passesOwn hp (thn (T.item X rfl rfl rfl hc i pins s3 σ3 H3 X.xe I3 (stat fr3) st3 go) λr s4 ⟨u,hr,h4⟩=>?_)
  subst hr
  refine wpAny_passesOwn hp (thn h4 λ_ s5 ⟨x,H5,I5,r5,y5,st5,fr5⟩=>?_)
  have I5':=I5.pinned (stat fr5) (T.obj _ _ st5)
  refine wpAny_passesOwn hp (thn (hg _ s5 σ3 H5 x u _ I5' r5 (step x H5 y5)) λ_ s6 ⟨σ6,H6,I6,q6⟩=>?_)
  refine wpAny_passesOwn hp (thn (hb _ s6 σ6 H6 _ I6 q6) λf s7 q7=>?_)
  have again:∀{σ7:St} {H7:Hp},Inv X (pins++qk fp s5.heap) σ7 H7 s7->N σ7 H7->∃m,m<n/\∃i σ' H',Inv X pins σ' H' s7/\tn i s7.heap/\(∀b∈fp,H' b=none)/\W i m σ' H':=λ{σ7 H7} I7 n7=>by
   obtain⟨m',hm,w7⟩:=hN σ7 H7 n7
   refine⟨m',hm,i+1,σ7,H7,I7.unpinned,T.keep _ _ _ st5 λb hb o e=>(I7.pin (b,o) (Y7 _ (Y7 _ (jS hb e)))).1,λb hb=>?_,w7⟩
   obtain⟨o,e,d⟩:=T.obj _ _ st5 b hb
   exact(I7.pin (b,o) (Y7 _ (Y7 _ (jS hb e)))).2.1
  cases f with
  | next=>obtain⟨σ7,H7,I7,n7⟩:=q7;exact again I7 n7
  | cont=>obtain⟨σ7,H7,I7,n7⟩:=q7;exact again I7 n7
  | brk=>obtain⟨σ7,H7,I7,q7⟩:=q7;exact⟨σ7,H7,I7.unpinned,q7⟩
  | ret v=>obtain⟨x7,σ7,H7,I7,r7,q7⟩:=q7;exact⟨x7,σ7,H7,I7.unpinned,r7,q7⟩
end
end L2
namespace L2
open PyProof.Rows
abbrev R2:=V->V->Hp->VK->Prop
def OpR(X:Cx)(f:Value->Value->Sem Value)(r:R2):Prop :=
 ∀(pins:List (Addr×Obj)) (s:Shared) (σ:St) (H:Hp) (x y:V) (v u:Value) (Q:VK),Inv X pins σ H s->bW x v->bW y u->r x y H Q ->
  wpAny (model X.prog X.w) X.A (f v u) (EP X pins σ Q) X.xe s
def UnR(X:Cx)(f:Value->Sem Value)(r:V->Hp->VK->Prop):Prop :=
 ∀(pins:List (Addr×Obj)) (s:Shared) (σ:St) (H:Hp) (x:V) (v:Value) (Q:VK),Inv X pins σ H s->bW x v->r x H Q ->
  wpAny (model X.prog X.w) X.A (f v) (EP X pins σ Q) X.xe s
def eZ(X:Cx)(f:Value)(r:List V->Hp->VK->Prop):Prop :=
 ∀(pins:List (Addr×Obj)) (s:Shared) (σ:St) (H:Hp) (xs:List V) (us:List Value) (Q:VK),Inv X pins σ H s->bD xs us->r xs H Q ->
  wpAny (model X.prog X.w) X.A (call f us) (EP X pins σ Q) X.xe s
def TruR(X:Cx)(r:V->Hp->(Bool->Hp->Prop)->Prop):Prop :=
 ∀(pins:List (Addr×Obj)) (s:Shared) (σ:St) (H:Hp) (x:V) (v:Value) (Q:Bool->Hp->Prop),Inv X pins σ H s->bW x v->r x H Q ->
  wpAny (model X.prog X.w) X.A (truthy v) (TP X pins σ Q) X.xe s
noncomputable def tOp(r:R2)(ta tb:TE):TE:=λσ H Q=>ta σ H λx H1=>tb σ H1 λy H2=>r x y H2 Q
def tUn(r:V->Hp->VK->Prop)(ta:TE):TE:=λσ H Q=>ta σ H λx H1=>r x H1 Q
def rI(C:Int->Int->Prop)(g:Int->Int->V):R2:=λx y H Q=>∃i j,x=.int i/\y=.int j/\C i j/\Q (g i j) H
noncomputable def rI0(g:Int->Int->V):R2:=λx y H Q=>∃i j,x=.int i/\y=.int j/\Q (g i j) H
def rU(g:Int->V):V->Hp->VK->Prop:=λx H Q=>∃i,x=.int i/\Q (g i) H
section
variable{X:Cx}{a b c:Expr}{ta tb tc:TE}{pos:Pos}
theorem binT(ha:PE X a ta)(hb:PE X b tb){pins:List (Addr×Obj)}{s:Shared}{σ:St}{H:Hp}{R:V->V->Hp->Prop}(I:Inv X pins σ H s)
  (h:ta σ H λx H1=>tb σ H1 λy H2=>R x y H2) {Q:Value->Shared->Prop} {f:Value->Value->Sem Value}
  (hf:∀v u s2 x y H2,Inv X pins σ H2 s2->bW x v->bW y u->R x y H2->wpAny (model X.prog X.w) X.A (f v u) Q X.xe s2) :
  wpAny (model X.prog X.w) X.A (eval a X.env) (λv s₁=>wpAny (model X.prog X.w) X.A (eval b X.env) (λu s₂=>wpAny (model X.prog X.w) X.A (f v u) Q X.xe s₂) X.xe s₁) X.xe s:=by
 refine thn (ha pins s σ H _ I h) λv s1 ⟨x,H1,I1,r1,q1⟩=>?_
 refine thn (hb pins s1 σ H1 _ I1 q1) λu s2 ⟨y,H2,I2,r2,q2⟩=>?_
 grind
theorem pe_op{op:Operator}{r:R2}(ho:OpR X (binaryOp op) r)(ha:PE X a ta)(hb:PE X b tb):PE X (.BinOp a op b pos) (tOp r ta tb):=by
 intro pins s σ H Q I h
 exact wpAny_BinOp (binT ha hb I h λv u s2 x y H2 I2 rx ry q=>ho pins s2 σ H2 x y v u Q I2 rx ry q)
theorem pe_un{op:UnaryOp}{r:V->Hp->VK->Prop}(ho:UnR X (unaryOp op) r)(ha:PE X a ta):PE X (.UnaryOp op a pos) (tUn r ta):=by
 intro pins s σ H Q I h
 exact UnaryOp_ (thn (ha pins s σ H _ I h) λv s1 ⟨x,H1,I1,r1,q1⟩=>ho pins s1 σ H1 x v Q I1 r1 q1)
theorem opI{f:Value->Value->Sem Value}{C:Int->Int->Prop}{g:Int->Int->Int}
  (rule:∀(i j:Int) (t u:Tok) (s:Shared) (Q:Value->Shared->Prop) (E:Value->Shared->Prop),C i j->Q (.int (g i j) s.toks) { s with toks:=s.toks+1 }->wpAny (model X.prog X.w) X.A (f (.int i t) (.int j u)) Q E s) :
  OpR X f (rI C λi j=>.int (g i j)):=by
 intro pins s σ H x y v u Q I rx ry h
 obtain⟨i,j,rfl,rfl,hc,q⟩:=h
 obtain⟨t,rfl⟩:=rx
 obtain⟨t',rfl⟩:=ry
 exact rule i j t t' s _ _ hc ⟨.int (g i j),H,I.tok _,⟨_,rfl⟩,q⟩
theorem opI0{f:Value->Value->Sem Value}{g:Int->Int->Int}
  (rule:∀(i j:Int) (t u:Tok) (s:Shared) (Q:Value->Shared->Prop) (E:Value->Shared->Prop),Q (.int (g i j) s.toks) { s with toks:=s.toks+1 }->wpAny (model X.prog X.w) X.A (f (.int i t) (.int j u)) Q E s) :
  OpR X f (rI0 λi j=>.int (g i j)):=by
 intro pins s σ H x y v u Q I rx ry h
 obtain⟨i,j,rfl,rfl,q⟩:=h
 obtain⟨t,rfl⟩:=rx
 obtain⟨t',rfl⟩:=ry
 exact rule i j t t' s _ _ ⟨.int (g i j),H,I.tok _,⟨_,rfl⟩,q⟩
theorem DQ{f:Value->Value->Sem Value}{g:Int->Int->Bool}
  (rule:∀(i j:Int) (t u:Tok) (s:Shared) (Q:Value->Shared->Prop) (E:Value->Shared->Prop),Q (.bool (g i j)) s->wpAny (model X.prog X.w) X.A (f (.int i t) (.int j u)) Q E s) :
  OpR X f (rI0 λi j=>.bl (g i j)):=by
 intro pins s σ H x y v u Q I rx ry h
 obtain⟨i,j,rfl,rfl,q⟩:=h
 obtain⟨t,rfl⟩:=rx
 obtain⟨t',rfl⟩:=ry
 exact rule i j t t' s _ _ ⟨.bl (g i j),H,I,rfl,q⟩
def CDiv(i j:Int):Prop:=0<j/\j<1073741824
def CPow(i j:Int):Prop:=0<=j/\j<=1000000/\i.natAbs<2 ^ 64
def CMul(i j:Int):Prop:=(-(2 ^ 64)<i/\i<2 ^ 64)\/(-(2 ^ 64)<j/\j<2 ^ 64)
theorem CMul.ok{i j:Int}(h:CMul i j):IntMulOk i j:=by
 rcases h with ⟨h1,h2⟩ | ⟨h1,h2⟩
 ·exact .of_left (intBits_le_64 h1 h2)
 ·exact .of_right (intBits_le_64 h1 h2)
theorem op_add:OpR X (binaryOp .Add) (rI0 λi j=>.int (i+j)):=opI0 λ_ _ _ _ _ _ _ q=>add_int q
theorem op_sub:OpR X (binaryOp .Sub) (rI0 λi j=>.int (i-j)):=opI0 λ_ _ _ _ _ _ _ q=>sub_int q
theorem op_mul:OpR X (binaryOp .Mult) (rI CMul λi j=>.int (i*j)):=opI λ_ _ _ _ _ _ _ hc q=>mul_int q hc.ok
theorem op_mod:OpR X (binaryOp .Mod) (rI (λ_ j=>0<j) λi j=>.int (i % j)):=opI λi j _ _ _ _ _ hc q=>by
 exact mod_int' (by omega) (by grind)
theorem op_pow:OpR X (binaryOp .Pow) (rI CPow λi j=>.int (i ^ j.toNat)):=opI λ_ _ _ _ _ _ _ hc q=>pow_int_small hc.1 hc.2.1 hc.2.2 q
theorem unI{f:Value->Sem Value}{g:Int->Int}
  (rule:∀(i:Int) (t:Tok) (s:Shared) (Q:Value->Shared->Prop) (E:Value->Shared->Prop),Q (.int (g i) s.toks) { s with toks:=s.toks+1 }->wpAny (model X.prog X.w) X.A (f (.int i t)) Q E s) :
  UnR X f (rU λi=>.int (g i)):=by
 intro pins s σ H x v Q I rx h
 obtain⟨i,rfl,q⟩:=h
 obtain⟨t,rfl⟩:=rx
 exact rule i t s _ _ ⟨.int (g i),H,I.tok _,⟨_,rfl⟩,q⟩
theorem un_neg:UnR X (unaryOp .USub) (rU λi=>.int (-i)):=unI λ_ _ _ _ _ q=>neg_int q
end
section
variable{X:Cx}{a b c:Expr}{ta tb tc:TE}{pos:Pos}
theorem xz{pins:List (Addr×Obj)}{σ:St}{H:Hp}{s:Shared}{Q:VK}{k k':Bool}(I:Inv X pins σ H s)(q:Q (.bl k) H)(e:k=k'):EP X pins σ Q (.bool k') s:=by
 subst e
 exact⟨.bl k,H,I,rfl,q⟩
theorem op_lt:OpR X (compareOp .Lt) (rI0 λi j=>.bl (decide (i<j))):=DQ λ_ _ _ _ _ _ _ q=>lt_int q
theorem op_le:OpR X (compareOp .LtE) (rI0 λi j=>.bl (decide (i<=j))):=DQ λ_ _ _ _ _ _ _ q=>le_int q
theorem op_gt:OpR X (compareOp .Gt) (rI0 λi j=>.bl (decide (j<i))):=DQ λ_ _ _ _ _ _ _ q=>gt_int q
theorem op_ge:OpR X (compareOp .GtE) (rI0 λi j=>.bl (decide (j<=i))):=DQ λ_ _ _ _ _ _ _ q=>ge_int q
theorem zF:OpR X (compareOp .In) (λx y H Q=>∃i j,x=.str i/\y=.str j/\Q (.bl (!(Builtin.Str.occurrences j i 0 j.length 1).isEmpty)) H):=by
 intro pins s σ H x y v u Q I rx ry h
 obtain⟨i,j,rfl,rfl,q⟩:=h
 obtain⟨t,rfl⟩:=rx
 obtain⟨t',rfl⟩:=ry
 exact in_str (xz I q rfl)
theorem op_isN:OpR X (compareOp .Is) (λx y H Q=>y=.non/\Q (.bl (decide (x=.non))) H):=by
 intro pins s σ H x y v u Q I rx ry h
 obtain⟨rfl,q⟩:=h
 cases ry
 refine is_none_gen (xz I q ?_)
 cases x<;>first
  | (cases rx;rfl)
  | (obtain⟨t,rfl⟩:=rx;rfl)
theorem OpR.or{f:Value->Value->Sem Value}{r r':R2}(h:OpR X f r)(h':OpR X f r'):OpR X f (λx y H Q=>r x y H Q\/r' x y H Q):=by
 intro pins s σ H x y v u Q I rx ry q
 rcases q with q | q
 ·exact h pins s σ H x y v u Q I rx ry q
 ·exact h' pins s σ H x y v u Q I rx ry q
theorem aJ(b:Expr){op:CmpOp}(h:op≠.In:=by decide)(h2:op≠.NotIn:=by decide):behindInMarks op b=false:=by
 have e1:(op==CmpOp.In)=false:=by simp_all
 have e2:(op==CmpOp.NotIn)=false:=by simp_all
 cases b<;>simp [behindInMarks,e1,e2]
theorem yn{op:CmpOp}{r:R2}(ho:OpR X (compareOp op) r)(ha:PE X a ta)(hb:PE X b tb)(hm:behindInMarks op b=false):PE X (.Compare a [op] [b] pos) (tOp r ta tb):=by
 intro pins s σ H Q I h
 exact wpAny_Compare1 (binT ha hb I h λv u s2 x y H2 I2 rx ry q=>ho pins s2 σ H2 x y v u Q I2 rx ry q) hm
noncomputable def tTest(t:TE):TT:=λσ H Q=>t σ H λx H'=>∃k,x=.bl k/\Q k H'
theorem yj{op:CmpOp}{r:R2}(ho:OpR X (compareOp op) r)(ha:PE X a ta)(hb:PE X b tb)(hm:behindInMarks op b=false):PT X (.Compare a [op] [b] pos) (tTest (tOp r ta tb)):=by
 intro pins s σ H Q I h
 refine wpAny_isTrue_Compare1 (thn (ha pins s σ H _ I h) λv s1 ⟨x,H1,I1,r1,q1⟩=>thn (hb pins s1 σ H1 _ I1 q1) λu s2 ⟨y,H2,I2,r2,q2⟩ =>
  thn (ho pins s2 σ H2 x y v u _ I2 r1 r2 q2) λc s3 ⟨z,H3,I3,r3,k,e,q3⟩=>?_) hm
 subst e
 cases r3
 exact wpAny_truthy_bool ⟨H3,I3,q3⟩
noncomputable def wH(r r':R2)(ta tb tc:TE):TE:=λσ H Q=>ta σ H λx H1=>tb σ H1 λy H2=>r x y H2 λz H3=>∃k,z=.bl k /\
 (if k=true then tc σ H3 λw' H4=>r' y w' H4 Q else Q (.bl false) H3)
theorem Be{op op':CmpOp}{r r':R2}(ho:OpR X (compareOp op) r)(ho':OpR X (compareOp op') r')(ha:PE X a ta)(hb:PE X b tb)(hc:PE X c tc)
  (hm:lastMarks [op,op'] [b,c]=false:=by with_unfolding_all rfl):PE X (.Compare a [op,op'] [b,c] pos) (wH r r' ta tb tc):=by
 intro pins s σ H Q I h
 refine Compare_chain (thn (ha pins s σ H _ I h) λv s1 ⟨x,H1,I1,r1,q1⟩=>chain_link (thn (hb pins s1 σ H1 _ I1 q1) λu s2 ⟨y,H2,I2,r2,q2⟩ =>
  thn (ho pins s2 σ H2 x y v u _ I2 r1 r2 q2) λd s3 ⟨z,H3,I3,r3,k,e,q3⟩=>?_)) hm
 subst e
 cases r3
 refine wpAny_truthy_bool ?_
 cases k with
 | false=>exact ite_ff ⟨.bl false,H3,I3,rfl,q3⟩
 | true=>exact ite_tt (chain_last (thn (hc pins s3 σ H3 _ I3 q3) λw' s4 ⟨z',H4,I4,r4,q4⟩=>ho' pins s4 σ H4 y z' u w' Q I4 r2 r4 q4))
theorem AV{op op':CmpOp}{r r':R2}(ho:OpR X (compareOp op) r)(ho':OpR X (compareOp op') r')(ha:PE X a ta)(hb:PE X b tb)(hc:PE X c tc)
  (hm:lastMarks [op,op'] [b,c]=false:=by with_unfolding_all rfl):PT X (.Compare a [op,op'] [b,c] pos) (tTest (wH r r' ta tb tc)):=by
 intro pins s σ H Q I h
 refine isTrue_chain (thn (ha pins s σ H _ I h) λv s1 ⟨x,H1,I1,r1,q1⟩=>test_link (thn (hb pins s1 σ H1 _ I1 q1) λu s2 ⟨y,H2,I2,r2,q2⟩ =>
  thn (ho pins s2 σ H2 x y v u _ I2 r1 r2 q2) λd s3 ⟨z,H3,I3,r3,k,e,q3⟩=>?_)) hm
 subst e
 cases r3
 refine wpAny_truthy_bool ?_
 cases k with
 | false =>
  obtain⟨k',e',q'⟩:=q3
  cases e'
  exact ite_ff ⟨H3,I3,q'⟩
 | true =>
  refine ite_tt (test_last (thn (hc pins s3 σ H3 _ I3 q3) λw' s4 ⟨z',H4,I4,r4,q4⟩=>thn (ho' pins s4 σ H4 y z' u w' _ I4 r2 r4 q4) λd' s5 ⟨z2,H5,I5,r5,k2,e2,q5⟩=>?_))
  subst e2
  cases r5
  exact wpAny_truthy_bool ⟨H5,I5,q5⟩
def TruV(K:ε)(x:V)(H:Hp)(k:Bool):Prop :=
 match x with
 | .non=>k=false
 | .bl b=>k=b
 | .int i=>k=(i != 0)
 | .str y=>y.length<=sizeLine/\k=((y.length:Int) != 0)
 | .byt y=>y.size<=sizeLine/\k=((y.size:Int) != 0)
 | .ref p=>(∃xs,SqL K H p xs/\k=!xs.isEmpty)\/(∃xs,SqT K H p xs/\k=!xs.isEmpty)\/∃kvs,H p=some (.dK kvs)/\k=!kvs.isEmpty
 | _=>False
theorem xr{κ:Type}{kvs:List (κ×V)}{vs:List (κ×Value)}(r:KV kvs vs):(!vs.isEmpty)=!kvs.isEmpty:=by
 cases r<;>rfl
theorem qO{xs:List V}{its:List Value}(r:bD xs its):(!its.toArray.isEmpty)=!xs.isEmpty:=by
 cases r<;>simp
theorem qF:(sizeLine:Nat)<2 ^ 63:=by decide
theorem tru_ok:TruR X (λx H Q=>∃k,TruV X.K x H k/\Q k H):=by
 intro pins s σ H x v Q I rx h
 obtain⟨k,e,q⟩:=h
 have hs:= sizeLine_eq
 cases x with
 | non =>
  cases rx
  have e':= e
  subst e'
  exact truthy_none ⟨H,I,q⟩
 | bl b =>
  cases rx
  have e':= e
  subst e'
  exact wpAny_truthy_bool ⟨H,I,q⟩
 | int i =>
  obtain⟨t,rfl⟩:=rx
  have e':= e
  subst e'
  exact PySem.P.truthy_int ⟨H,I,q⟩
 | str y =>
  obtain⟨t,rfl⟩:=rx
  obtain⟨hy,e'⟩:y.length<=sizeLine/\k=((y.length:Int) != 0):=e
  subst e'
  exact PySem.P.truthy_str (by omega) ⟨H,I.tok _,q⟩
 | byt y =>
  obtain⟨t,rfl⟩:=rx
  obtain⟨hy,e'⟩:y.size<=sizeLine/\k=((y.size:Int) != 0):=e
  subst e'
  exact PySem.W.truthy_bytes (by omega) ⟨H,I.tok _,q⟩
 | ref p =>
  cases rx
  have e':= e
  rcases e' with ⟨xs,hx,e'⟩ | ⟨xs,hx,e'⟩ | ⟨kvs,hx,e'⟩
  ·subst e'
   obtain⟨its,r,pl,hz⟩:=I.list hx
   have hlen:=r.length
   exact wpAny_truthy_list pl.isList (by grind) ⟨H,I.tok _,by rw[qO r];exact q⟩
  ·subst e'
   obtain⟨its,r,pl,hz⟩:=I.tuple hx
   have hlen:=r.length
   exact truthy_tuple pl (by grind) ⟨H,I.tok _,by rw[qO r];exact q⟩
  ·subst e'
   obtain⟨hz,hS,vs,r,m⟩:kvs.length<=sizeLine/\(p==sysModules)=false/\∃vs,KV kvs vs/\s.heap.DictOf (ci X.prog X.w) p vs:=I.hok p _ hx
   have hlen:= Paired.length r
   exact wpAny_truthy_dict hS m (by omega) ⟨H,I.tok _,by rw[xr r];exact q⟩
 | _=>exact(show False from e).elim
theorem AU(ha:PE X a ta)(he:∀whole,isTrue a X.env whole=(do let v <- whole;standAt a.pos;holding [v] (truthy v))) :
  PT X a (λσ H Q=>ta σ H λx H'=>∃k,TruV X.K x H' k/\Q k H'):=by
 intro pins s σ H Q I h
 exact isTrue_plain (thn (ha pins s σ H _ I h) λv s1 ⟨x,H1,I1,r1,q1⟩=>tru_ok pins s1 σ H1 x v Q I1 r1 q1) (he _)
theorem w4:OpR X (binaryOp .Add) (λx y H Q=>∃i j,x=.str i/\y=.str j/\i.length+j.length<=sizeLine/\Q (.str (i++j)) H):=by
 intro pins s σ H x y v u Q I rx ry h
 obtain⟨i,j,rfl,rfl,hz,q⟩:=h
 obtain⟨t,rfl⟩:=rx
 obtain⟨t',rfl⟩:=ry
 exact add_str (λt' tk=>⟨.str (i++j),H,I.tok _,⟨_,rfl⟩,q⟩) hz
theorem gU{x:V}{us:List Value}(r:bD [x] us):∃u,us=[u]/\bW x u:=by
 cases r with
 | cons r1 r2=>cases r2;simp_all
theorem xW{x y:V}{us:List Value}(r:bD [x,y] us):∃u w',us=[u,w']/\bW x u/\bW y w':=by
 cases r with
 | cons r1 r2 =>
  cases r2 with
  | cons r3 r4=>cases r4;grind
theorem Aj(hc:X.calm=true):eZ X (.builtin "max") (λxs H Q=>∃i j,xs=[.int i,.int j]/\Q (.int (if j > i then j else i)) H):=by
 intro pins s σ H xs us Q I r h
 obtain⟨i,j,rfl,q⟩:=h
 obtain⟨u,w',rfl,⟨t,rfl⟩,⟨t',rfl⟩⟩:=xW r
 refine max_two_ints (I.ok.hd hc) λh' tk k=>⟨_,H,I.kept k,?_,q⟩
 by_cases hj:j > i
 ·rw[if_pos hj,if_pos hj];exact⟨_,rfl⟩
 ·rw[if_neg hj,if_neg hj];exact⟨_,rfl⟩
theorem Ai(hc:X.calm=true):eZ X (.builtin "min") (λxs H Q=>∃i j,xs=[.int i,.int j]/\Q (.int (if j<i then j else i)) H):=by
 intro pins s σ H xs us Q I r h
 obtain⟨i,j,rfl,q⟩:=h
 obtain⟨u,w',rfl,⟨t,rfl⟩,⟨t',rfl⟩⟩:=xW r
 refine min_two_ints (I.ok.hd hc) λh' tk k=>⟨_,H,I.kept k,?_,q⟩
 by_cases hj:j<i
 ·rw[if_pos hj,if_pos hj];exact⟨_,rfl⟩
 ·rw[if_neg hj,if_neg hj];exact⟨_,rfl⟩
theorem Ak:eZ X (.type "int") (λxs H Q=>(∃i,xs=[.int i]/\Q (.int i) H)\/∃k,xs=[.bl k]/\Q (.int (if k then 1 else 0)) H):=by
 intro pins s σ H xs us Q I r h
 rcases h with ⟨i,rfl,q⟩ | ⟨k,rfl,q⟩
 ·obtain⟨u,rfl,t,rfl⟩:=gU r
  exact call_int_int ⟨.int i,H,I,⟨_,rfl⟩,q⟩
 ·obtain⟨u,rfl,r1⟩:=gU r
  cases r1
  exact call_int_bool ⟨.int (if k then 1 else 0),H,I.tok _,⟨_,rfl⟩,q⟩
theorem nz:eZ X (.type "str") (λxs H Q=>∃i,xs=[.int i]/\i.natAbs.log2<1920/\Q (.str (toString i)) H):=by
 intro pins s σ H xs us Q I r h
 obtain⟨i,rfl,hz,q⟩:=h
 obtain⟨u,rfl,t,rfl⟩:=gU r
 exact PySem.P.str_of_int hz ⟨.str _,H,I.tok _,⟨_,rfl⟩,q⟩
theorem CI:eZ X (.builtin "ord") (λxs H Q=>∃x,xs=[.str x]/\x.length=1/\Q (.int (x.cps.getD 0 0:Nat)) H):=by
 intro pins s σ H xs us Q I r h
 obtain⟨x,rfl,hz,q⟩:=h
 obtain⟨u,rfl,t,rfl⟩:=gU r
 exact ord_of_one hz ⟨.int _,H,I.tok _,⟨_,rfl⟩,q⟩
theorem wy:eZ X (.builtin "divmod") (λxs H Q=>∃i j,xs=[.int i,.int j]/\CDiv i j/\∀p,H p=none->Q (.ref p) (upd H p (.tup [.int (i / j),.int (i % j)]))):=by
 intro pins s σ H xs us Q I r h
 obtain⟨i,j,rfl,⟨h1,h2⟩,q⟩:=h
 obtain⟨u,w',rfl,⟨t,rfl⟩,⟨t',rfl⟩⟩:=xW r
 refine divmod_int (by omega) ?_ (.inl (PyProof.noPylong_small (by omega)))
 rw[Int.fdiv_eq_ediv_of_nonneg i (by omega),Int.fmod_eq_emod_of_nonneg i (by omega)]
 have hn:= I.hok.fresh (ρ _)
 refine⟨.ref s.heap.objs.size,_,?_,rfl,q _ hn⟩
 refine I.laid (λb o e=>Heap.get?_push_of_some _ e) (ρ _) ⟨by simp only[θ,X1];decide,[.int (i / j) s.toks,.int (i % j) (s.toks+1)],.cons ⟨_,rfl⟩ (.cons ⟨_,rfl⟩ .nil),?_⟩
 exact⟨_,Heap.get?_push_size s.heap rfl,rfl,0,rfl⟩
end
end L2
namespace L2
open PyProof.Rows
structure ObjM(h:Heap)(x dx C:Addr)(mA:Str->Option Value):Prop where
 obj:h.get? x=some (X6 C dx)
 ns:h.Ns1 dx mA
 ne:dx≠x
theorem zN{h:Heap}{dx:Addr}{mA:Str->Option Value}(n:h.Ns1 dx mA):∃od,h.get? dx=some od/\∀name,PySem.W.lookIn name od=some (mA name):=by
 obtain⟨o,es,ep,ho,hd,hk,_,hm⟩:=n
 refine⟨o,ho,λname=>?_⟩
 have e:=hm name
 unfold nsFind findBy at e
 rw[<-Array.find?_toList] at e
 unfold PySem.W.lookIn
 rw[hd]
 dsimp only
 split
 ·simp_all
 ·rename_i q
  rw[q] at e
  have a:es.toList.any (·.refKey)=false:=by
   rw[List.any_eq_false]
   intro y hy
   obtain⟨z,t,hkey⟩:=hk y (Array.mem_toList_iff.mp hy)
   simp [DictEntry.refKey,hkey]
  simp_all
theorem ObjM.look{h:Heap}{x dx C:Addr}{mA:Str->Option Value}(I:ObjM h x dx C mA):∃od,PySem.W.InstAt h x (X6 C dx) C (some od)/\∀name,PySem.W.lookIn name od=some (mA name) :=
 let ⟨od,ho,hl⟩:=zN I.ns
 ⟨od,⟨I.obj,rfl,rfl,ho⟩,hl⟩
section
variable{prog:Program}{w:World}{A:Around}{E:Value->Shared->Prop}{s:Shared}{K:ε}{x dx C f:Addr}{mA:Str->Option Value}{name:Str}{v:Value}
theorem Eu{expr:Bool}{Q:Value->Shared->Prop}(X:K.In s.heap)(I:ObjM s.heap x dx C mA)(hg:V2 K C name=true)(hh:V7 K C=true)
  (ha:Λ K (.ref C) name=some none) (hv:mA name=some v) (hv':PySem.W.handedIn v=true) (h:Q v { s with toks:=s.toks+1 }) :
  wpAny (model prog w) A (getAttr (.ref x) name expr) Q E s:=by
 obtain⟨od,J,hl⟩:=I.look
 exact PySem.W.get_value X J (PySem.W.plainGet_of hg).1 (PySem.W.findObj_own hh ha rfl (by simp_all)) hv' h
theorem Cb{pl:Sem Bool}{Q:Value×List Value->Shared->Prop}(X:K.In s.heap)(I:ObjM s.heap x dx C mA)(hg:V2 K C name=true)
  (hf:Λ K (.ref C) name=some (some (.ref f))) (ht:W0 K (.ref f)=true) (hv:mA name=none) (h:Q (.ref f,[.ref x]) s) :
  wpAny (model prog w) A (getMethod (.ref x) name pl) Q E s:=by
 obtain⟨od,J,hl⟩:=I.look
 exact PySem.W.method_fn X J (PySem.W.plainGet_of hg).1 (PySem.W.plainGet_of hg).2 hf (beq_iff_eq.mp ht) (by show(PySem.W.lookIn name od).map (·.isSome)=some false;simp_all) h
theorem C9{ns:List Str}{Q:Unit->Shared->Prop}(X:K.In s.heap)(I:ObjM s.heap x dx C mA)
  (hs:Λ K (.ref C) "__setattr__" = some (some (.builtin "object.__setattr__"))) (hp:U3 K C=true) (ht:PySem.W.takerIn K C name=some none) (hh:V7 K C=true)
  (hw:PySem.Within mA ns) (hsz:ns.length<=sizeLine)
  (h:∀h',ObjM h' x dx C (λy=>if y=name then some v else mA y)->Heap.SameBut dx s.heap h'->Q () { s with heap:=h',toks:=s.toks+2 }) :
  wpAny (model prog w) A (setAttr (.ref x) name v) Q E s:=by
 obtain⟨od,J,hl⟩:=I.look
 refine PySem.W.set_plain X J hs (PySem.W.osa_open X J hp ht λb=>?_)
 obtain⟨cd,hc,hd'⟩:=PySem.W.any_some hh
 have hx:= I.obj
 refine wpAny_bind (wpAny_pure (wpAny_bind (wpAny_bind (wpAny_loadPart hx (wpAny_bind (PySem.W.Looks.here (PySem.W.looks_clsIn X hc) ?_))))))
 rw[hd']
 refine wpAny_pure (wpAny_bind (wpAny_pure (wpAny_bind ?_)))
 refine wpAny_nsSet1 I.ns λh' hn2 hs2=>?_
 obtain⟨oD,esD,epD,hoD,hdD,hcD⟩:=hn2.count (PySem.Within.cons name v hw)
 refine wpAny_bind (wpAny_lookBehind hoD (by rw[hdD];exact pastItsLine_dict (X5 hcD (by simp_all))) ?_)
 exact wpAny_pure (h _ ⟨(hs2.2 _ (Ne.symm I.ne)).trans I.obj,hn2,I.ne⟩ hs2)
theorem BM{R:Result->Shared->Prop}{vs:List Value}{kw:List (Str×Value)}(X:K.In s.heap)(hm:W8 K C=true)
  (hi:Λ K (.ref C) "__init__" = some (some (.ref f))) (hf:PySem.W.typeIn K (.ref f)=some (.type "function"))
  (h:codeAny (model prog w) (A.under (.builtin "type.__call__" ⟨.ref C::vs,kw⟩)) (.call (.ref f) ⟨.ref (s.heap.objs.size+1)::vs,kw⟩) (PySem.W.InitBack (s.heap.objs.size+1) R)
   { s with heap:=(s.heap.push X3).push (X6 C s.heap.objs.size) }) :
  codeAny (model prog w) A (.call (.ref C) ⟨vs,kw⟩) R s:=by
 exact PySem.W.make_core (PySem.W.makes_of X hm) (PySem.W.looks_findIn X hi) (λself=>PySem.W.bind_fn X self hf) (.inl rfl) h
theorem zM{R:Result->Shared->Prop}(X:K.In s.heap)(hm:W8 K C=true)
  (hi:Λ K (.ref C) "__init__" = some (some (.builtin "object.__init__")))
  (hb:∀self,PySem.W.Looks (model prog w) s.heap (bindSpecial (.builtin "object.__init__") self) (.builtin "object.__init__",[self]))
  (h:codeAny (model prog w) (A.under (.builtin "type.__call__" ⟨[.ref C],[]⟩)) (.call (.builtin "object.__init__") ⟨[.ref (s.heap.objs.size+1)],[]⟩) (PySem.W.InitBack (s.heap.objs.size+1) R)
   { s with heap:=(s.heap.push X3).push (X6 C s.heap.objs.size) }) :
  codeAny (model prog w) A (.call (.ref C) ⟨[],[]⟩) R s:=by
 exact PySem.W.make_core (PySem.W.makes_of X hm) (PySem.W.looks_findIn X hi) hb (.inr ⟨rfl,rfl⟩) h
end
noncomputable def jp(f:Str)(v:V):List (Str×V)->List (Str×V)
 | []=>[(f,v)]
 | (g,x)::r=>if g=f then (g,v)::r else (g,x)::jp f v r
theorem oH(f g:Str)(v:V):∀fs:List (Str×V),(jp f v fs).lookup g=if g=f then some v else fs.lookup g
 | []=>by
  show X7 g [(f,v)]=_
  grind
 | (k,x)::r=>by
  have ih:=oH f g v r
  rw[show jp f v ((k,x)::r)=(if k=f then (k,v)::r else (k,x)::jp f v r) from rfl]
  grind
theorem oe(f:Str)(v:V):∀fs:List (Str×V),f∈(jp f v fs).map (·.1)/\∀g,g∈fs.map (·.1)->g∈(jp f v fs).map (·.1)
 | []=>⟨by simp [jp],λg h=>by simp at h⟩
 | (k,x)::r=>by
  obtain⟨i1,i2⟩:=oe f v r
  rw[show jp f v ((k,x)::r)=(if k=f then (k,v)::r else (k,x)::jp f v r) from rfl]
  grind
theorem oI(f:Str)(v:V):∀fs:List (Str×V),(jp f v fs).length<=fs.length+1
 | []=>by simp [jp]
 | (k,x)::r=>by
  have ih:=oI f v r
  rw[show jp f v ((k,x)::r)=(if k=f then (k,v)::r else (k,x)::jp f v r) from rfl]
  grind
theorem kt.some_of{v:V}{o:Option Value}(r:kt (some v) o):∃u,o=some u/\bW v u:=by
 cases o with
 | none=>exact(show False from r).elim
 | some u=>exact⟨u,rfl,r⟩
theorem kt.none_of{o:Option Value}(r:kt none o):o=none:=by
 cases o with
 | none=>rfl
 | some u=>exact(show False from r).elim
theorem zV{v:V}{u:Value}(r:bW v u):PySem.W.handedIn u=true:=by
 cases v with
 | non=>cases (show u=Value.none from r);rfl
 | bl b=>cases (show u=Value.bool b from r);rfl
 | int i=>obtain⟨t,e⟩:=(show ∃t,u=Value.int i t from r);cases e;rfl
 | str x=>obtain⟨t,e⟩:=(show ∃t,u=Value.str x t from r);cases e;rfl
 | byt b=>obtain⟨t,e⟩:=(show ∃t,u=Value.bytes b t from r);cases e;rfl
 | flt b=>obtain⟨t,e⟩:=(show ∃t,u=Value.float b t from r);cases e;rfl
 | ref a=>cases (show u=Value.ref a from r);rfl
 | ty n=>cases (show u=Value.type n from r);rfl
section
variable{P:Program}{w:World}{H H':Hp}{h h':Heap}{a C dx:Addr}{fs fs':List (Str×V)}
theorem ue(hok:HOk P w H h)(e:H a=some (.ins C dx fs)):∃mA,ObjM h a dx C mA/\(∀f,kt (fs.lookup f) (mA f))/\PySem.Within mA (fs.map (·.1))/\fs.length<=1000/\H dx=some (.own a):=by
 obtain⟨d,z,ne,ob,mA,n,r,q⟩:=(show eQ P w H h a (.ins C dx fs) from hok a _ e)
 exact⟨mA,⟨ob,n,ne⟩,r,q,z,d⟩
end
structure Cls(K:ε)(C:Addr):Prop where
 pg:V2 K C Str.empty=true
 hd:V7 K C=true
 po:U3 K C=true
 sa:Λ K (.ref C) "__setattr__" = some (some (.builtin "object.__setattr__"))
theorem Cls.get{K:ε}{C:Addr}(c:Cls K C)(f:Str):V2 K C f=true:=c.pg
def j8(K:ε)(C:Addr)(f:Str):Prop:=Λ K (.ref C) f=some none
theorem j8.taker{K:ε}{C:Addr}{f:Str}(n:j8 K C f):PySem.W.takerIn K C f=some none:=by
 unfold PySem.W.takerIn
 rw[show Λ K (.ref C) f=some none from n]
 rfl
structure Meth(K:ε)(C:Addr)(m:Str)(f:Addr):Prop where
 at_:Λ K (.ref C) m=some (some (.ref f))
 fn:W0 K (.ref f)=true
 kp:ξ K (.ref f)=true
section
variable{X:Cx}{pins:List (Addr×Obj)}{σ:St}{H:Hp}{s:Shared}{a C dx:Addr}{fs:List (Str×V)}{f:Str}{v:V}{A:Around}{E:Value->Shared->Prop}
theorem xw{b:Bool}{Q:Value->Shared->Prop}(I:Inv X pins σ H s)(e:H a=some (.ins C dx fs))(c:Cls X.K C)(n:j8 X.K C f)(l:fs.lookup f=some v)
  (h:∀u s',Inv X pins σ H s'->bW v u->Q u s'):wpAny (model X.prog X.w) A (getAttr (.ref a) f b) Q E s:=by
 obtain⟨mA,O,r,_,_,_⟩:=ue I.hok e
 obtain⟨u,hu,ru⟩:=kt.some_of (v:=v) (o:=mA f) (by grind)
 exact Eu I.kIn O (c.get f) c.hd n hu (zV ru) (h u _ (I.tok _) ru)
theorem xv{m:Str}{g:Addr}{pl:Sem Bool}{Q:Value×List Value->Shared->Prop}(I:Inv X pins σ H s)(e:H a=some (.ins C dx fs))(c:Cls X.K C)(k:Meth X.K C m g)(l:fs.lookup m=none)
  (h:Q (.ref g,[.ref a]) s):wpAny (model X.prog X.w) A (getMethod (.ref a) m pl) Q E s:=by
 obtain⟨mA,O,r,_,_,_⟩:=ue I.hok e
 have hn:mA m=none:=kt.none_of (by grind)
 exact Cb I.kIn O (c.get m) k.at_ k.fn hn h
theorem wI{y:V}{u:Value}{Q:Unit->Shared->Prop}(I:Inv X pins σ H s)(e:H a=some (.ins C dx fs))(c:Cls X.K C)(n:j8 X.K C f)(hl:fs.length<1000)(ry:bW y u)
  (h:∀s',Inv X pins σ (upd H a (.ins C dx (jp f y fs))) s'->Q () s'):wpAny (model X.prog X.w) A (setAttr (.ref a) f u) Q E s:=by
 obtain⟨mA,O,r,wi,_,ho⟩:=ue I.hok e
 have hz:(fs.map (·.1)).length<=sizeLine:=by rw[ι,sizeLine_eq];omega
 refine C9 I.kIn O c.sa c.po n.taker c.hd wi hz λh' O' sb=>h _ ?_
 have hd:∃o,h'.get? dx=some o:=let ⟨o,_,_,e',_⟩:=O'.ns;⟨o,e'⟩
 refine I.write (by rw[e];exact True.intro) (.inr ho) (λb q hb z=>(sb.2 b hb).trans z) hd ?_
 refine⟨by rw[upd_ne O.ne];exact ho,?_,O.ne,O'.obj,_,O'.ns,λg=>?_,λg hg=>?_⟩
 ·have:=oI f y fs;omega
 ·rw[oH]
  by_cases q:g=f
  ·rw[if_pos q,if_pos q];exact ry
  simp_all
 ·by_cases q:g=f
  ·rw[q];exact(oe f y fs).1
  ·refine(oe f y fs).2 g (wi g λz=>hg ?_)
   simp_all
theorem Inv.made(I:Inv X pins σ H s):Inv X pins σ (upd (upd H s.heap.objs.size (.own (s.heap.objs.size+1))) (s.heap.objs.size+1) (.ins C s.heap.objs.size []))
  { s with heap:=(s.heap.push X3).push (X6 C s.heap.objs.size) }:=by
 have e1:(s.heap.push X3).get? s.heap.objs.size=some X3:=Heap.get?_push_size s.heap rfl
 have e2:((s.heap.push X3).push (X6 C s.heap.objs.size)).get? (s.heap.objs.size+1)=some (X6 C s.heap.objs.size):=by
  have:=Heap.get?_push_size (s.heap.push X3) (o:=X6 C s.heap.objs.size) rfl
  simp_all
 have e3:(s.heap.push X3).Ns s.heap.objs.size (λ_=>none):=⟨X3,#[],_,e1,rfl,(λe he=>absurd he (by simp)),λ_=>rfl⟩
 have I1:=I.laid (o:=.own (s.heap.objs.size+1)) (t':=s.toks) (λb u q=>Heap.get?_push_of_some _ q) (ρ _) ⟨_,e1⟩
 refine I1.laid (λb u q=>Heap.get?_push_of_some _ q) (Nat.le_of_eq (Heap.size_push _ _)) ?_
 have ne:s.heap.objs.size≠s.heap.objs.size+1:=Y4 (Nat.lt_succ_self _)
 refine⟨by rw[upd_ne ne,aN],X9 _,ne,e2,λ_=>none,(Heap.Ns1.of_empty e3).at λo q=>Heap.get?_push_of_some _ q,λ_=>True.intro,λy hy=>absurd rfl hy⟩
theorem ES{prog:Program}{w:World}{env:Env}{e:Expr}{f:Str}{pos:Pos}{s:Shared}{Q:Value->Shared->Prop}(hb:attributeBase e f env (eval e env)=eval e env)
  (h:wpAny (model prog w) A (eval e env) (λo s₁=>wpAny (model prog w) A (getAttr o f true) Q E s₁) E s):wpAny (model prog w) A (eval (.Attribute e f pos) env) Q E s :=
 Attribute_any_ h (by rw[arm_eval_Attribute,hb])
end
noncomputable def tFld(K:ε)(ta:TE)(f:Str):TE:=λσ H Q=>ta σ H λx H1=>∃a C dx fs v,x=.ref a/\H1 a=some (.ins C dx fs)/\Cls K C/\j8 K C f/\fs.lookup f=some v/\Q v H1
noncomputable def sFld(K:ε)(ta tv:TE)(f:Str):TS:=λD σ H=>tv σ H λy H1=>ta σ H1 λx H2=>∃a C dx fs,x=.ref a/\H2 a=some (.ins C dx fs)/\Cls K C/\j8 K C f/\fs.length<1000 /\
 D.nx σ (upd H2 a (.ins C dx (jp f y fs)))
section
variable{X:Cx}{o e value:Expr}{f:Str}{pos pos' tpos:Pos}{ta tv:TE}
theorem Bc(he:PE X e ta)(hb:attributeBase e f X.env (eval e X.env)=eval e X.env):PE X (.Attribute e f pos) (tFld X.K ta f):=by
 intro pins s σ H Q I h
 refine ES hb (thn (he pins s σ H _ I h) λu s1 ⟨x,H1,I1,rx,a,C,dx,fs,v,ex,ea,c,n,l,q⟩=>?_)
 subst ex
 obtain rfl:u=Value.ref a:=rx
 exact xw I1 ea c n l λu' s2 I2 ru=>⟨v,H1,I2,ru,q⟩
theorem ps_fld(ha:PE X o ta)(hv:PE X value tv)(hs:swapsWith value (some (.Attribute o f pos')) pos.line X.env=pure false):PS X (.Assign [.Attribute o f pos'] value pos) (sFld X.K ta tv f):=by
 intro pins s σ H D I h
 refine plainObj_wpAny_Assign_Attribute (thn (hv pins s σ H _ I h) λu s1 ⟨y,H1,I1,ry,q⟩=>thn (ha pins s1 σ H1 _ I1 q) λov s2 ⟨x,H2,I2,rx,a,C,dx,fs,ex,ea,c,n,l,q2⟩=>?_) hs
 subst ex
 obtain rfl:ov=Value.ref a:=rx
 exact wI I2 ea c n l ry λs3 I3=>⟨σ,_,I3,q2⟩
end
section
variable{X:Cx}{pins:List (Addr×Obj)}{σ:St}{H:Hp}{s:Shared}{A:Around}{E:Value->Shared->Prop}{Q:Value->Shared->Prop}{c:Value}{b:Bool}
end
end L2
namespace L2
open PyProof.Rows
structure Room(k:Nat)(A:Around):Prop where
 hd:A.handled=none
 dp:A.depth+3*k+5<recursionLimit
 un:A.units+16*k+200<cLine
theorem Room.mono{j k:Nat}{A:Around}(r:Room k A)(h:j<=k):Room j A:=⟨r.hd,by have:=r.dp;omega,by have:=r.un;omega⟩
theorem Room.deeper{k:Nat}{A:Around}(r:Room (k+1) A)(env:Env):Room k (A.deeper env) :=
 ⟨r.hd,by have:=r.dp;show A.depth+1+3*k+5<_;omega,by have:=r.un;show A.units+3+16*k+200<_;omega⟩
theorem xk{A:Around}{C:Addr}{us:List Value}{kw:List (Str×Value)}:(A.under (.builtin "type.__call__" ⟨.ref C::us,kw⟩)).depth=A.depth+1:=by
 rfl
theorem xj{A:Around}{C:Addr}{us:List Value}{kw:List (Str×Value)}:(A.under (.builtin "type.__call__" ⟨.ref C::us,kw⟩)).units=A.units+1:=by
 rfl
theorem Room.make{k:Nat}{A:Around}(r:Room (k+1) A)(C:Addr)(us:List Value)(kw:List (Str×Value)):Room k (A.under (.builtin "type.__call__" ⟨.ref C::us,kw⟩)) :=
 ⟨r.hd,by have:=r.dp;rw[xk];omega,by have:=r.un;rw[xj];omega⟩
theorem Room.depth{k:Nat}{A:Around}(r:Room k A):A.depth<recursionLimit:=by have:=r.dp;omega
theorem Room.units{k:Nat}{A:Around}(r:Room k A):A.units+64<cLine:=by have:=r.un;omega
noncomputable def tNil:TA:=λ_ H Q=>Q [] H
noncomputable def tCons(ta:TE)(tr:TA):TA:=λσ H Q=>ta σ H λx H1=>tr σ H1 λxs H2=>Q (x::xs) H2
section
variable{X:Cx}{e:Expr}{es:List Expr}{te:TE}{t:TA}{pos:Pos}
theorem kK:PA X [] tNil:=λ_ _ _ _ H Q I h=>Calls.spliced_nil ⟨[],H,I,.nil,h⟩
theorem gZ(ha:PE X e te)(hr:PA X es t)(hs:starEach (e::es) X.env=(false,eval e X.env)::starEach es X.env:=by rfl):PA X (e::es) (tCons te t):=by
 intro pos pins s σ H Q I h
 rw[hs]
 refine Calls.spliced_cons (thn (ha pins s σ H _ I h) λu s1 ⟨x,H1,I1,r1,q1⟩=>?_)
 exact thn (hr pos pins s1 σ H1 _ I1 q1) λus s2 ⟨xs,H2,I2,r2,q2⟩=>⟨x::xs,H2,I2,.cons r1 r2,q2⟩
noncomputable def tTup(t:TA):TE:=λσ H Q=>t σ H λxs H1=>xs.length<=sizeLine/\∀p,H1 p=none->Q (.ref p) (upd H1 p (.tup xs))
noncomputable def tLst(t:TA):TE:=λσ H Q=>t σ H λxs H1=>xs.length<=sizeLine/\∀p,H1 p=none->Q (.ref p) (upd H1 p (.lst xs))
theorem pe_tup{x1}(h:PA X es t):PE X (.Tuple es x1 pos) (tTup t):=by
 intro pins s σ H Q I hq
 refine wpAny_Tuple_spliced (thn (h pos pins s σ H _ I hq) λus s1 ⟨xs,H1,I1,r,z,q⟩=>⟨by rw[<-r.length];exact z,?_⟩)
 have hf:= I1.hok.fresh (ρ _)
 refine⟨.ref s1.heap.objs.size,upd H1 s1.heap.objs.size (.tup xs),I1.laid (λb u e=>Heap.get?_push_of_some _ e) (ρ _) ?_,rfl,q _ hf⟩
 exact⟨z,us,r,⟨_,Heap.get?_push_size _ rfl,rfl,_,rfl⟩⟩
theorem A8(h:PA X es t):PE X (.List es pos) (tLst t):=by
 intro pins s σ H Q I hq
 refine wpAny_List_spliced (thn (h pos pins s σ H _ I hq) λus s1 ⟨xs,H1,I1,r,z,q⟩=>⟨by rw[<-r.length];exact z,?_⟩)
 have hf:= I1.hok.fresh (ρ _)
 refine⟨.ref s1.heap.objs.size,upd H1 s1.heap.objs.size (.lst xs),I1.laid (λb u e=>Heap.get?_push_of_some _ e) (ρ _) ?_,rfl,q _ hf⟩
 exact⟨z,us,0,r,Heap.get?_push_size _ rfl⟩
end
abbrev Sp:=List V->Hp->VK->XK->Prop
abbrev CXT:=List Env->Hp->Shared->XK->Value->Shared->Prop
structure Env0(P:Program)(w:World)(K:ε)(mg:Str->Option Value)(base:Heap)(A:Around)(outer:List Env)(s:Shared)(H:Hp):Prop where
 frames:A.frames=some outer
 mod:Mod K mg base
 bs:∀b o,base.get? b=some o->s.heap.get? b=some o/\H b=none
 bsz:base.objs.size<=s.heap.objs.size
 funs:s.heap.FunFrames base outer
 frf:∀b∈frs outer,H b=none
 hok:HOk P w H s.heap
 bare:AllBare s.gens
def CE(outer:List Env)(P:Program)(w:World)(H:Hp)(s:Shared)(Q:VK)(u:Value)(s':Shared):Prop :=
 ∃v H',s'.os=s.os/\AllBare s'.gens/\Un (frs outer) [] H H' s.heap s'.heap/\HOk P w H' s'.heap/\bW v u/\Q v H'
def CR(CX:CXT)(outer:List Env)(P:Program)(w:World)(H:Hp)(s:Shared)(Q:VK)(E:XK)(r:Result)(s':Shared):Prop :=
 match r with
 | .ok (.ret u)=>CE outer P w H s Q u s'
 | .ok _=>False
 | .error e=>CX outer H s E e s'
structure FnOk(P:Program)(w:World)(K:ε)(mg:Str->Option Value)(base:Heap)(CX:CXT)(k:Nat)(f:Addr)(fd:FuncData)(ps:List Str)(sp:Sp):Prop where
 len:∀vs H Q E,sp vs H Q E->vs.length=ps.length
 run:∀(A:Around) (outer:List Env) (s:Shared) (H:Hp) (args:Args) (us:List Value) (vs:List V) (Q:VK) (E:XK),Room k A->Env0 P w K mg base A outer s H->BindsTo s fd args (ps.zip us)->bD vs us->sp vs H Q E ->
  codeAny (model P w) A (.call (.ref f) args) (CR CX outer P w H s Q E) s
theorem FnOk.imp{P:Program}{w:World}{K:ε}{mg:Str->Option Value}{base:Heap}{CX:CXT}{k:Nat}{f:Addr}{fd:FuncData}{ps:List Str}{sp sp':Sp}(F:FnOk P w K mg base CX k f fd ps sp)
  (h:∀vs H Q E,sp' vs H Q E->sp vs H Q E):FnOk P w K mg base CX k f fd ps sp' :=
 ⟨λvs H Q E q=>F.len vs H Q E (h _ _ _ _ q),λA outer s H args us vs Q E hr he hb hv hs=>F.run A outer s H args us vs Q E hr he hb hv (h _ _ _ _ hs)⟩
theorem Env0.make{P:Program}{w:World}{K:ε}{mg:Str->Option Value}{base:Heap}{A:Around}{outer:List Env}{s:Shared}{H:Hp}(e:Env0 P w K mg base A outer s H)(C:Addr)(us:List Value)(kw:List (Str×Value)) :
  Env0 P w K mg base (A.under (.builtin "type.__call__" ⟨.ref C::us,kw⟩)) outer s H:=⟨by first | exact e.frames | (simpa [Around.under,Code.envs,Code.isFrame,pushEnvs] using e.frames),e.mod,e.bs,e.bsz,e.funs,e.frf,e.hok,e.bare⟩
section
variable{X:Cx}{pins:List (Addr×Obj)}{σ:St}{H:Hp}{s s':Shared}
theorem Inv.env0(I:Inv X pins σ H s):Env0 X.prog X.w X.K X.mg X.base X.A X.stack s H :=
 ⟨I.ok.frames,I.ok.mod,I.bs,X5 I.ok.bsz I.sz,I.stack,I.stkFree,I.hok,I.bare⟩
theorem Inv.after{Q:VK}{u:Value}(I:Inv X pins σ H s)(h:CE X.stack X.prog X.w H s Q u s'):EP X pins σ Q u s':=by
 obtain⟨v,H',os,bare,un,hok,r,q⟩:=h
 obtain⟨hh,g,d,t,os'⟩:=s'
 obtain rfl:os'=s.os:=os
 exact⟨v,H',I.call un hok bare (λb z=>absurd z (by simp)),r,q⟩
end
noncomputable def tCall(sp:Sp)(dvs:List V)(E:XK)(t:TA):TE:=λσ H Q=>t σ H λvs H1=>sp (vs++dvs) H1 Q E
noncomputable def tMeth(C:Addr)(m:Str)(sp:Sp)(dvs:List V)(E:XK)(ta:TE)(t:TA):TE:=λσ H Q=>ta σ H λx H1=>∃a dx fs,x=.ref a/\H1 a=some (.ins C dx fs)/\fs.lookup m=none /\
 t σ H1 λvs H2=>sp (x::(vs++dvs)) H2 Q E
noncomputable def tMake(C:Addr)(sp:Sp)(dvs:List V)(E:XK)(t:TA):TE:=λσ H Q=>t σ H λvs H1=>∀x dx,H1 x=none->H1 dx=none->dx≠x ->
 sp (.ref x::(vs++dvs)) (upd (upd H1 dx (.own x)) x (.ins C dx [])) (λv H2=>v=.non/\Q (.ref x) H2) E
def eR(K:ε)(fd:FuncData)(ps:List Str)(ds:List Value):Prop :=
 ∀(s:Shared) (us:List Value),K.In s.heap->(us++ds).length=ps.length->BindsTo s fd ⟨us,[]⟩ (ps.zip (us++ds))
theorem eR.all{K:ε}{fd:FuncData}{ps:List Str}(h:∀us:List Value,us.length=ps.length->bindArgs fd ⟨us,[]⟩=pure (ps.zip us)):eR K fd ps []:=λs us _ hl=>by
 rw[Z7] at hl ⊢
 exact .of_eq (h us hl)
def oy(CX:CXT)(X:Cx)(E:XK):Prop:=∀(pins:List (Addr×Obj)) (σ:St) (H:Hp) (s:Shared) (e:Value) (s':Shared),Inv X pins σ H s->CX X.stack H s E e s'->X.xe e s'
section
variable{X:Cx}{CX:CXT}{k:Nat}{f C:Addr}{fd:FuncData}{ps:List Str}{sp:Sp}{dvs:List V}{ds:List Value}{E:XK}{x m:Str}{p pos apos:Pos}{e o:Expr}{es:List Expr}{ta:TE}{t:TA}
theorem AM{pins:List (Addr×Obj)}{σ:St}{H:Hp}{s:Shared}{Q:VK}{us:List Value}{vs:List V}(F:FnOk X.prog X.w X.K X.mg X.base CX k f fd ps sp)(hr:Room k X.A)(hb:eR X.K fd ps ds)(hd:bD dvs ds)(hx:oy CX X E)
  (I:Inv X pins σ H s) (r:bD vs us) (h:sp (vs++dvs) H Q E):wpAny (model X.prog X.w) X.A (call (.ref f) us) (EP X pins σ Q) X.xe s:=by
 have r2:= r.append hd
 have hl:(us++ds).length=ps.length:=by rw[<-r2.length];exact F.len _ _ _ _ h
 refine wpAny_call (codeAny_mono (F.run X.A X.stack s H ⟨us,[]⟩ (us++ds) (vs++dvs) Q E hr I.env0 (hb s us I.kIn hl) r2 h) λr s' hq=>?_)
 cases r with
 | error e=>exact hx pins σ H s e s' I hq
 | ok fl =>
  cases fl with
  | ret u=>exact I.after hq
  | next=>assumption
  | brk=>assumption
  | cont=>assumption
theorem o8(F:FnOk X.prog X.w X.K X.mg X.base CX k f fd ps sp)(hr:Room k X.A)(hg:Gl X x)(hm:X.mg x=some (.ref f))(hk:ξ X.K (.ref f)=true)(hb:eR X.K fd ps ds)(hd:bD dvs ds)(hx:oy CX X E)
  (ha:PA X (e::es) t) (hdb:(x==("__debug__" : Str))=false:=by decide) (he:starEach (e::es) X.env=(false,eval e X.env)::starEach es X.env:=by rfl) (hpl:(backTo pos (starEach es X.env)).any (·.1)=false:=by rfl) :
  PE X (.Call (.Name x p) (e::es) [] pos) (tCall sp dvs E t):=by
 intro pins s σ H Q I h
 refine wpAny_Call_Name_kw (pz I hg hm ?_ hdb)
 refine PySem.W.callWith_K (h₀:=X.base) I.ok.mod.kin hk (thn (ha pos pins s σ H _ I h) λus s1 ⟨vs,H1,I1,r,q⟩=>⟨I1.kIn,?_⟩) he hpl
 exact AM F hr hb hd hx I1 r q
theorem ym{pl:Sem Bool}(he:PE X o ta)(c:Cls X.K C)(hm:Meth X.K C m f)(F:FnOk X.prog X.w X.K X.mg X.base CX k f fd ps sp)(hr:Room k X.A)(hb:eR X.K fd ps ds)(hd:bD dvs ds)(hx:oy CX X E)(ha:PA X (e::es) t)
  (hst:starEach (e::es) X.env=(false,eval e X.env)::starEach es X.env:=by rfl) (hpl:(backTo pos (starEach es X.env)).any (·.1)=false:=by rfl)
  (ht:eval (.Call (.Attribute o m apos) (e::es) [] pos) X.env=(do
   let ov <- eval o X.env
   standAt apos.atName
   let (f,first) <- holding [ov] (getMethod ov m pl)
   callWith pos f first (backTo pos (starEach (e::es) X.env)) (backToKw pos (keywordEach [] X.env))):=by rfl) :
  PE X (.Call (.Attribute o m apos) (e::es) [] pos) (tMeth C m sp dvs E ta t):=by
 intro pins s σ H Q I h
 refine PySem.W.methodCall_KW (thn (he pins s σ H _ I h) λu s1 ⟨x,H1,I1,rx,a,dx,fs,ex,ea,l,q⟩=>?_) ht
 subst ex
 obtain rfl:u=Value.ref a:=rx
 refine xv I1 ea c hm l ?_
 refine PySem.W.callWith_K (h₀:=X.base) I.ok.mod.kin hm.kp (thn (ha pos pins s1 σ H1 _ I1 q) λus s2 ⟨vs,H2,I2,r,q2⟩=>⟨I2.kIn,?_⟩) hst hpl
 exact AM (vs:=.ref a::vs) F hr hb hd hx I2 (.cons rfl r) q2
structure Mk(K:ε)(C f:Addr):Prop where
 makes:W8 K C=true
 init:Λ K (.ref C) "__init__" = some (some (.ref f))
 fn:W0 K (.ref f)=true
 kp:ξ K (.ref C)=true
theorem AK{pins:List (Addr×Obj)}{σ:St}{H:Hp}{s:Shared}{Q:VK}{us:List Value}{vs:List V}(M:Mk X.K C f)(F:FnOk X.prog X.w X.K X.mg X.base CX k f fd ps sp)(hr:Room (k+1) X.A)(hb:eR X.K fd ps ds)(hd:bD dvs ds)
  (hx:oy CX X E) (I:Inv X pins σ H s) (r:bD vs us)
  (h:∀x dx,H x=none->H dx=none->dx≠x->sp (.ref x::(vs++dvs)) (upd (upd H dx (.own x)) x (.ins C dx [])) (λv H2=>v=.non/\Q (.ref x) H2) E) :
  wpAny (model X.prog X.w) X.A (call (.ref C) us) (EP X pins σ Q) X.xe s:=by
 have hq:=h (s.heap.objs.size+1) s.heap.objs.size (I.hok.fresh (U4 _)) (I.hok.fresh (ρ _)) (Y4 (Nat.lt_succ_self _))
 have I2:=Inv.made (C:=C) I
 have r2:bD (V.ref (s.heap.objs.size+1)::(vs++dvs)) (Value.ref (s.heap.objs.size+1)::(us++ds)):=.cons rfl (r.append hd)
 have hl:(Value.ref (s.heap.objs.size+1)::us++ds).length=ps.length:=by
  have e:=r2.length
  rw[F.len _ _ _ _ hq] at e
  simp_all
 refine wpAny_call (BM (f:=f) I.kIn M.makes M.init (beq_iff_eq.mp M.fn) (codeAny_mono (F.run _ X.stack _ _ ⟨Value.ref (s.heap.objs.size+1)::us,[]⟩ (Value.ref (s.heap.objs.size+1)::(us++ds)) _ _ E (hr.make C us [])
  (I2.env0.make C us []) (hb _ (Value.ref (s.heap.objs.size+1)::us) I2.kIn hl) r2 hq) λr s' hq'=>?_))
 cases r with
 | error e=>exact hx pins σ _ _ e s' I2 hq'
 | ok fl =>
  cases fl with
  | ret u =>
   obtain⟨v,H',I3,rv,ev,q3⟩:=I2.after hq'
   subst ev
   exact⟨rv,⟨V.ref (s.heap.objs.size+1),H',I3,rfl,q3⟩⟩
  | next=>assumption
  | brk=>assumption
  | cont=>assumption
theorem A7(M:Mk X.K C f)(F:FnOk X.prog X.w X.K X.mg X.base CX k f fd ps sp)(hr:Room (k+1) X.A)(hg:Gl X x)(hm:X.mg x=some (.ref C))(hb:eR X.K fd ps ds)(hd:bD dvs ds)(hx:oy CX X E)
  (hdb:(x==("__debug__" : Str))=false:=by decide):PE X (.Call (.Name x p) [] [] pos) (tMake C sp dvs E tNil):=by
 intro pins s σ H Q I h
 refine wpAny_Call_Name_kw (pz I hg hm ?_ hdb)
 exact PySem.W.callWith_K0 I.kIn M.kp (AK M F hr hb hd hx I .nil h)
end
section
variable{X:Cx}{CX:CXT}{k:Nat}{f C:Addr}{fd:FuncData}{ps ks:List Str}{sp:Sp}{E:XK}{x m:Str}{p pos apos kpos:Pos}{e o:Expr}{es:List Expr}{kws:List Keyword}{te ta:TE}{t tk:TA}{nm:Option Str}
variable{g:List Value->List Value->List Value}{gV:List V->List V->List V}
end
structure FnScope(N P:List Str)(sc:Scope):Prop where
 kind:sc.kind=.function
 co:sc.isCoroutine=false
 gen:sc.isGenerator=false
 nd:N.Nodup
 pre:N.take P.length=P
 par:∀x∈P,sc.names.lookup x=some .local\/sc.names.lookup x=some .cell
 nofree:∀y∈sc.names,y.2≠.free
theorem sV{kindOf:Str->Option NameKind}{x:Str}:∀{binds:List (Str×Value)} {m:Str->Option Value},(∀v,(x,v)∉binds)->bindL kindOf binds m x=m x
 | [],_,_=>rfl
 | (n,v)::r,m,h=>by
  unfold bindL
  rw[sV λw hw=>h w (χ _ hw)]
  split
  all_goals grind
theorem sX{kindOf:Str->Option NameKind}{x:Str}:∀{binds:List (Str×Value)} {m:Str->Option Value},(∀v,(x,v)∉binds)->bindC kindOf binds m x=m x
 | [],_,_=>rfl
 | (n,v)::r,m,h=>by
  unfold bindC
  rw[sX λw hw=>h w (χ _ hw)]
  split
  all_goals grind
theorem sW{kindOf:Str->Option NameKind}{x:Str}{v:Value}:∀{P:List Str} {vs:List Value} {i:Nat} {m:Str->Option Value},P.Nodup->P[i]?=some x->vs[i]?=some v->kindOf x=some .local ->
  bindL kindOf (P.zip vs) m x=some v
 | [],_,_,_,_,h,_,_=>by simp at h
 | _::_,[],_,_,_,_,h,_=>by simp at h
 | p::P,w::vs,0,m,nd,h1,h2,hk=>by
  simp at h1 h2;subst h1;subst h2
  show bindL kindOf ((p,w)::P.zip vs) m p=_
  unfold bindL
  rw[sV λv hv=>(List.nodup_cons.mp nd).1 (List.of_mem_zip hv).1,if_pos hk]
  simp
 | p::P,w::vs,i+1,m,nd,h1,h2,hk=>by
  show bindL kindOf ((p,w)::P.zip vs) m x=_
  unfold bindL
  exact sW (i:=i) (List.nodup_cons.mp nd).2 (by assumption) (by assumption) hk
theorem sY{kindOf:Str->Option NameKind}{x:Str}{v:Value}:∀{P:List Str} {vs:List Value} {i:Nat} {m:Str->Option Value},P.Nodup->P[i]?=some x->vs[i]?=some v->kindOf x≠some .local ->
  bindC kindOf (P.zip vs) m x=some v
 | [],_,_,_,_,h,_,_=>by simp at h
 | _::_,[],_,_,_,_,h,_=>by simp at h
 | p::P,w::vs,0,m,nd,h1,h2,hk=>by
  simp at h1 h2;subst h1;subst h2
  show bindC kindOf ((p,w)::P.zip vs) m p=_
  unfold bindC
  rw[sX λv hv=>(List.nodup_cons.mp nd).1 (List.of_mem_zip hv).1,if_neg hk]
  simp
 | p::P,w::vs,i+1,m,nd,h1,h2,hk=>by
  show bindC kindOf ((p,w)::P.zip vs) m x=_
  unfold bindC
  exact sY (i:=i) (List.nodup_cons.mp nd).2 (by assumption) (by assumption) hk
noncomputable def start(N:List Str)(vs:List V):St:=vs.map some++X2 (N.length-vs.length) none
noncomputable def mE(CX:CXT)(P:Program)(w:World)(K:ε)(mg:Str->Option Value)(base:Heap)(N:List Str)(qual:Str)(scope:Scope)(f:Addr)(cd:Value)(A:Around)(outer:List Env)(s:Shared)(H:Hp)(E:XK):Cx where
 prog:=P
 w:=w
 K:=K
 mg:=mg
 base:=base
 A:=A.deeper (envOfC qual scope s.heap.objs.size f cd)
 N:=N
 s₀:=s
 H₀:=H
 env:=envOfC qual scope s.heap.objs.size f cd
 outer:=outer
 stack:=envOfC qual scope s.heap.objs.size f cd::outer
 ex:=[]
 calm:=true
 fn:=λ_=>true
 pn:=[]
 xe:=λe s'=>wpAny (model P w) (A.deeper (envOfC qual scope s.heap.objs.size f cd)) (leaving (envOfC qual scope s.heap.objs.size f cd) e) (λ_ s''=>CX outer H s E e s'') (λe' s''=>CX outer H s E e' s'') s'
theorem wu{sc:Scope}{n:Nat}{x:Str}(h:sc.names.lookup x=some .cell):∃c,(cellsFrom n sc.names []).lookup x=some c:=by
 have q:=PySem.W.cellsFrom_some sc.names n [] (.inl h)
 exact Option.isSome_iff_exists.mp q
theorem zT{CX:CXT}{P:Program}{w:World}{K:ε}{mg:Str->Option Value}{base:Heap}{N ps:List Str}{qual:Str}{scope:Scope}{f:Addr}{cd:Value}{A:Around}{outer:List Env}{s s1:Shared}{H:Hp}{E:XK}{us:List Value}{vs:List V}
  (S:FnScope N ps scope) (hd:A.handled=none) (e0:Env0 P w K mg base A outer s H) (hl:vs.length=ps.length) (r:bD vs us)
  (x:InCallC s s.heap.objs.size (bindL (envOfC qual scope s.heap.objs.size f cd).kindOf (ps.zip us) λ_=>none) (cellsFrom (s.heap.objs.size+1) scope.names []) (bindC (envOfC qual scope s.heap.objs.size f cd).kindOf (ps.zip us) λ_=>none) s1) :
  Inv (mE CX P w K mg base N qual scope f cd A outer s H E) [] (start N vs) H s1:=by
 have hpl:ps.length<=N.length:=by have:=congrArg V8 S.pre;grind
 obtain⟨h1,tk,rfl,hk⟩:=x.done
 have noA:∀b:Addr,b∉(mE CX P w K mg base N qual scope f cd A outer s H E).ex:=λb z=>absurd (show b∈([]:List Addr) from z) (by simp)
 refine⟨⟨e0.mod,S.kind,rfl,rfl,ρ _,λy z c h1 h2=>?_,λy hy=>?_,λy c _ h=>?_,λ_=>hd,Around.frames_deeper e0.frames,.inr ⟨rfl,rfl⟩,λb z=>absurd z (noA b),e0.bs,e0.bsz,λb _ _=>noA b,λb z=>absurd z (noA b),e0.funs,e0.frf⟩,
  rfl,e0.bare,Un.kept hk,⟨_,x.toInCall.ns,λi y v h1 h2 h3=>?_⟩,λy c h=>⟨_,x.cell y c h⟩,e0.hok.fresh (ρ _),λy c h=>?_,λp hp=>absurd (show p∈([]:List (Addr×Obj)) from hp) (by simp),e0.hok.kept hk,?_⟩
 ·exact name_of_addr x.apart (PySem.mem_of_lookup h1) (PySem.mem_of_lookup h2)
 ·rcases hy with hy | hy
  ·exact wu hy
  ·exact absurd rfl (S.nofree _ (PySem.mem_of_lookup hy))
 ·exact Nat.le_of_lt (x.above y c (PySem.mem_of_lookup h))
 ·have hi:i<vs.length:=by
   unfold start at h2
   grind
  have ha:vs[i]?=some v:=by
   unfold start at h2
   grind
  obtain⟨u,hu,rv⟩:=r.get ha
  have hp:ps[i]?=some y:=by
   rw[<-S.pre,List.getElem?_take_of_lt (by omega)];exact h1
  have ndP:ps.Nodup:=by rw[<-S.pre];exact S.nd.sublist (List.take_sublist _ _)
  refine⟨u,rv,?_⟩
  rcases S.par y (Y3 hp) with k | k
  ·exact .inl ⟨k,sW ndP hp hu k⟩
  ·obtain⟨c,e⟩:=wu k
   refine .inr ⟨.inl k,c,e,?_⟩
   have q:=x.cell y c e
   rw[sY ndP hp hu (by show scope.names.lookup y≠_;simp_all)] at q
   exact q
 ·exact e0.hok.fresh (Nat.le_of_lt (x.above y c (PySem.mem_of_lookup h)))
 ·unfold start
  show _=N.length
  simp_all
theorem fn_of{CX:CXT}{P:Program}{w:World}{K:ε}{mg:Str->Option Value}{base:Heap}{k:Nat}{f:Addr}{name qual:Str}{params:Arguments}{body:List Stmt}{scope:Scope}{dV kV doc pm cdv ct oc:Value}{an od:Option Addr}
  {osl:Array (Option Value)} {N ps:List Str} {sp:Sp} (lk:K.lookup f=some ⟨oc,od,.func (ψ name qual params body scope dV kV doc pm an cdv ct),osl⟩) (hcd:ς K cdv qual=true) (S:FnScope N ps scope)
  (len:∀vs H Q E,sp vs H Q E->vs.length=ps.length)
  (hbody:∀(A:Around) (outer:List Env) (s:Shared) (H:Hp) (vs:List V) (Q:VK) (E:XK),Room k (A.deeper (envOfC qual scope s.heap.objs.size f cdv))->sp vs H Q E ->
   ∃t,PSs (mE CX P w K mg base N qual scope f cdv A outer s H E) body t/\t { nx:=λ_ H'=>Q .non H',rt:=Q } (start N vs) H) :
  FnOk P w K mg base CX (k+1) f (ψ name qual params body scope dV kV doc pm an cdv ct) ps sp:=by
 refine⟨len,λA outer s H args us vs Q E hr e0 hb r hsp=>?_⟩
 have hl:=len _ _ _ _ hsp
 have KX:= e0.mod.kin.keeps λb o e=>(e0.bs b o e).1
 have lim:= e0.mod.nolimit.keeps λb o e=>(e0.bs b o e).1
 have hkind:∀y∈ps.zip us,scope.names.lookup y.1=some .local\/(scope.names.lookup y.1=some .cell/\((cellsFrom (s.heap.objs.size+1) scope.names []).lookup y.1).isSome=true):=λ⟨n,v⟩ hy=>by
  rcases S.par n (List.of_mem_zip hy).1 with q | q
  ·simp_all
  ·exact .inr ⟨q,PySem.W.cellsFrom_some _ _ _ (.inl q)⟩
 refine codeAny_call_function hr.depth (KX _ _ lk) rfl S.co S.gen rfl (PySem.W.codeRec_of KX hcd) (hb _ _ _ _ ?_)
 refine wpAny_newFunctionEnv_cells S.kind hkind λenv he s1 x=>?_
 subst he
 refine⟨lim.keeps x.toInCall.keep,codeAny_func ?_⟩
 obtain⟨t,ht,hq⟩:=hbody A outer s H vs Q E (hr.deeper _) hsp
 have I:Inv (mE CX P w K mg base N qual scope f cdv A outer s H E) [] (start N vs) H s1:=zT S hr.hd e0 hl r x
 refine wpAny_mono (ht [] s1 (start N vs) H _ I hq) (λfl s' hs=>?_) λe s' hs=>hs
 have fin:∀{σ':St} {H':Hp} {v:V} {u:Value},Inv (mE CX P w K mg base N qual scope f cdv A outer s H E) [] σ' H' s'->bW v u->Q v H'->CE outer P w H s Q u s' :=
  λ{σ' H' v u} J rv q=>⟨v,H',J.os,J.bare,J.base,J.hok,rv,q⟩
 cases fl with
 | ret u =>
  obtain⟨v,σ',H',J,rv,q⟩:=hs
  exact fin J rv q
 | next =>
  obtain⟨σ',H',J,q⟩:=hs
  exact fin (v:=V.non) J rfl q
 | brk =>
  obtain⟨_,_,_,q⟩:=hs
  simp_all
 | cont =>
  obtain⟨_,_,_,q⟩:=hs
  simp_all
end L2
namespace L2
open PyProof.Rows
section
variable{X:Cx}{x:Str}{p pos:Pos}{e:Expr}{es:List Expr}{t:TA}{id T:String}{r:List V->Hp->VK->Prop}
def tCB(r:List V->Hp->VK->Prop)(t:TA):TE:=λσ H Q=>t σ H λvs H1=>r vs H1 Q
theorem ql(hc:eZ X (.builtin id) r)(hg:Gl X x)(hm:X.mg x=none)(hv:bootBuiltins x=some (.builtin id))(ha:PA X (e::es) t)(hn:x ≠ "__name__" := by decide)(hdb:(x==("__debug__" : Str))=false:=by decide)
  (he:starEach (e::es) X.env=(false,eval e X.env)::starEach es X.env:=by rfl) (hpl:(backTo pos (starEach es X.env)).any (·.1)=false:=by rfl):PE X (.Call (.Name x p) (e::es) [] pos) (tCB r t):=by
 intro pins s σ H Q I h
 refine wpAny_Call_Name_kw (mn I hg hm hv ?_ hn hdb)
 exact PyProof.Rows.callWith_builtin1 (thn (ha pos pins s σ H _ I h) λus s1 ⟨vs,H1,I1,r1,q1⟩=>hc pins s1 σ H1 vs us Q I1 r1 q1) he hpl
theorem si(hc:eZ X (.type T) r)(hg:Gl X x)(hm:X.mg x=none)(hv:bootBuiltins x=some (.type T))(ha:PA X (e::es) t)(hn:x ≠ "__name__" := by decide)(hdb:(x==("__debug__" : Str))=false:=by decide)
  (he:starEach (e::es) X.env=(false,eval e X.env)::starEach es X.env:=by rfl) (hpl:(backTo pos (starEach es X.env)).any (·.1)=false:=by rfl):PE X (.Call (.Name x p) (e::es) [] pos) (tCB r t):=by
 intro pins s σ H Q I h
 refine wpAny_Call_Name_kw (mn I hg hm hv ?_ hn hdb)
 exact PyProof.Rows.callWith_type1 (thn (ha pos pins s σ H _ I h) λus s1 ⟨vs,H1,I1,r1,q1⟩=>hc pins s1 σ H1 vs us Q I1 r1 q1) he hpl
end
end L2
namespace HT
open PyProof.Rows
noncomputable def lexLt:List Int->List Int->Bool
 | [],[]=>false
 | [],_::_=>true
 | _::_,[]=>false
 | x::xs,y::ys=>if x=y then lexLt xs ys else decide (x<y)
section
open PySem.SeqAt
open PySem.AutoSeq1 (wpAny_loadPart')
open PySem.MeetsSeq PySem.MeetsSeq2 PySem.MeetsSeq3
end
section
variable{prog:Program}{w:World}{A:Around}{E:Value->Shared->Prop}{s:Shared}
theorem ER{t b:Addr}{vs ws:List Value}{Q:Value->Shared->Prop}(ht:IsTup s.heap t vs.toArray)(hb:IsTup s.heap b ws.toArray)(hv:vs≠[])
  (h1:ws=[]->Q (.ref t) s) (h2:ws≠[]->Q (.ref s.heap.objs.size) { s with heap:=s.heap.push { cls:=.type "tuple",data:=.seq (vs++ws).toArray } })
  (hsz:vs.length+ws.length<=sizeLine):wpAny (model prog w) A (binaryOp .Add (.ref t) (.ref b)) Q E s:=by
 obtain⟨⟨cls,dd,data,sl⟩,ho,hc,n,hd⟩:=id ht
 obtain⟨⟨cls2,dd2,data2,sl2⟩,ho2,hc2,n2,hd2⟩:=id hb
 subst hc hd hc2 hd2
 have e:vs.toArray++ws.toArray=(vs++ws).toArray:=by simp
 by_cases hw:ws=[]
 ·exact concat_meets ⟨_,ho,rfl⟩ ⟨_,ho2,rfl⟩ noFill_tuple_add seq_tuple_add PySem.F.slot_tuple_add PySem.F.entry_tuple_add (PySem.F.args_tuple_add_2 _ _)
   (tuple_addW1 t b vs.toArray ws.toArray n n2 dd dd2 sl sl2 (by simp_all) (by simp [hw])) ⟨ho,ho2,h1 hw⟩
 ·refine concat_meets ⟨_,ho,rfl⟩ ⟨_,ho2,rfl⟩ noFill_tuple_add seq_tuple_add PySem.F.slot_tuple_add PySem.F.entry_tuple_add (PySem.F.args_tuple_add_2 _ _)
   (tuple_addW2 t b vs.toArray ws.toArray n n2 dd dd2 sl sl2 (by simp_all) (by simp_all) (by exact hsz)) ⟨ho,ho2,?_⟩
  simp_all
noncomputable def sIx(n d:Nat):Option Int->Nat
 | none=>d
 | some v=>if v<0 then (v+(n:Int)).toNat else min v.toNat n
theorem yg(n d k:Nat):sIx n d (some (k:Int))=min k n:=by
 rfl
theorem sIx_le(n d:Nat)(hd:d<=n)(o:Option Int):sIx n d o<=n:=by
 cases o with
 | none=>exact hd
 | some v =>
  show(if v<0 then (v+(n:Int)).toNat else min v.toNat n)<=n
  grind
theorem y0(v:Int)(n d:Nat):(if v<0 then max (v+(n:Int)) 0 else min v (n:Int))=((sIx n d (some v):Nat):Int):=by
 show(if v<0 then max (v+(n:Int)) 0 else min v (n:Int))=(((if v<0 then (v+(n:Int)).toNat else min v.toNat n):Nat):Int)
 grind
theorem xQ(lo hi:Option Int)(n:Nat):Builtin.Slice.sliceAdjust lo hi 1 (n:Int)=(((sIx n 0 lo:Nat):Int),((sIx n n hi:Nat):Int)):=by
 have h1:¬((1:Int)<0):=by omega
 unfold Builtin.Slice.sliceAdjust
 refine Prod.ext ?_ ?_
 ·cases lo with
  | none=>rfl
  | some v=>exact y0 v n 0
 ·cases hi with
  | none=>rfl
  | some v=>exact y0 v n n
theorem wV(i j:Nat):Builtin.Slice.slicePlaces (i:Int) (j:Int) 1=j-i:=by
 unfold Builtin.Slice.slicePlaces
 omega
theorem pV{v:Value}{o:Option Int}{Q:Option Int->Shared->Prop}(p:IsPart v o)(h:Q o s):wpAny (model prog w) A (Builtin.Slice.slicePartIndex v) Q E s:=by
 cases p with
 | none=>exact slicePart_none h
 | int i t=>exact slicePart_int h
theorem nS{sl:Addr}{vl vu:Value}{lo hi:Option Int}{n:Nat}{Q:Int×Int×Nat->Shared->Prop}(hs:s.heap.IsSliceOf sl vl vu .none)(pl:IsPart vl lo)(pu:IsPart vu hi)
  (h:Q (((sIx n 0 lo:Nat):Int),1,sIx n n hi-sIx n 0 lo) s):wpAny (model prog w) A (Builtin.Slice.sliceApplied (.ref sl) (pure (n:Int))) Q E s:=by
 obtain⟨os,hos,hcs,hds⟩:=id hs
 refine wpAny_bind (wpAny_bind (wpAny_field hos hds rfl (wpAny_bind (wpAny_field hos hds rfl (wpAny_bind (wpAny_field hos hds rfl (wpAny_pure ?_)))))))
 refine wpAny_bind (slicePart_none ?_)
 refine wpAny_bind (pV pl (wpAny_bind (pV pu (wpAny_bind (wpAny_pure ?_)))))
 show wpAny _ _ (match Builtin.Slice.sliceAdjust lo hi 1 (n:Int) with | (lo,hi)=>pure (lo,(1:Int),Builtin.Slice.slicePlaces lo hi 1)) _ _ s
 rw[xQ lo hi n]
 show wpAny _ _ (pure (((sIx n 0 lo:Nat):Int),(1:Int),Builtin.Slice.slicePlaces ((sIx n 0 lo:Nat):Int) ((sIx n n hi:Nat):Int) 1)) _ _ s
 rw[wV]
 exact wpAny_pure h
theorem A3(xs:Array Value)(i k:Nat):((List.range k).filterMap λ(m:Nat)=>xs[((i:Int)+(m:Int)*1).toNat]?).toArray=((xs.toList.drop i).take k).toArray:=by
 have e:(λ(m:Nat)=>xs[((i:Int)+(m:Int)*1).toNat]?)=λm=>xs[i+m]?:=by
  grind
 rw[e]
 have:=pick_run xs i k
 rw[List.filterMap_map] at this
 have e2:((λx=>xs[x]?)∘λx=>i+x)=λm=>xs[i+m]?:=rfl
 simp_all
theorem m8{t sl:Addr}{items:Array Value}{vl vu:Value}{lo hi:Option Int}{Q:Value->Shared->Prop}(ht:IsTup s.heap t items)(hs:s.heap.IsSliceOf sl vl vu .none)(pl:IsPart vl lo)(pu:IsPart vu hi)
  (hw:¬(sIx items.size 0 lo=0/\sIx items.size items.size hi=items.size))
  (h:Q (.ref s.heap.objs.size) { s with heap:=s.heap.push { cls:=.type "tuple",data:=.seq ((items.toList.drop (sIx items.size 0 lo)).take (sIx items.size items.size hi-sIx items.size 0 lo)).toArray } })
  (hsz:items.size<=sizeLine):wpAny (model prog w) A (getItem (.ref t) (.ref sl)) Q E s:=by
 have htake:sizeOk (.seq ((items.toList.drop (sIx items.size 0 lo)).take (sIx items.size items.size hi-sIx items.size 0 lo)).toArray):=by
  show((items.toList.drop (sIx items.size 0 lo)).take (sIx items.size items.size hi-sIx items.size 0 lo)).toArray.size<=sizeLine
  grind
 obtain⟨os,hos,hcs,hds⟩:=id hs
 have hTs:s.TypeIs (.ref sl) "slice" := ⟨os,hos,hcs⟩
 unfold getItem
 try with_reducible refine wpAny_holding ?_
 refine wpAny_bind (wpAny_sequenceKey ht.typeIs (by decide) ?_)
 refine wpAny_bind (wpAny_callSpecial?_slot (name:=Str.ofString "__getitem__") ht.typeIs PyProof.Rows.slot_tuple_getitem
  (wpAny_call_entry PyProof.Rows.slot_tuple_getitem ht.typeIs entry_tuple_getitem ?_ (args_tuple_getitem _ _)))
 show wpAny _ _ (Builtin.Tuple.tupleItemsOf (.ref t) >>= _) _ _ s
 refine wpAny_bind (tupleItemsOf_ ht ?_)
 refine wpAny_bind (wpAny_typeOf hTs ?_)
 refine wpAny_bind (nS hs pl pu ?_)
 have hno:¬((((sIx items.size 0 lo:Nat):Int)==0&&(1:Int)==1&&(sIx items.size items.size hi-sIx items.size 0 lo)==items.size)=true):=by
  simp_all
 show wpAny _ _ (if (((sIx items.size 0 lo:Nat):Int)==0&&(1:Int)==1&&(sIx items.size items.size hi-sIx items.size 0 lo)==items.size)=true then _ else _) _ _ s
 rw[if_neg hno,A3]
 first
  | exact wpAny_bind (m:=Builtin.Tuple.tupleExact _) (wpAny_newObj_type (wpAny_pure ⟨_,rfl,wpAny_pure h⟩) htake)
  | exact wpAny_bind (m:=Builtin.Tuple.tupleExact _) (wpAny_newObj_type (wpAny_bind (wpAny_pure (wpAny_pure ⟨_,rfl,wpAny_pure h⟩))) htake)
  | exact wpAny_bind (wpAny_bind (m:=Builtin.Tuple.tupleExact _) (wpAny_newObj_type (wpAny_pure (wpAny_pure ⟨_,rfl,wpAny_pure h⟩)) htake))
  | exact wpAny_bind (wpAny_bind (m:=Builtin.Tuple.tupleExact _) (wpAny_newObj_type (wpAny_pure ⟨_,rfl,wpAny_pure h⟩) htake))
end
end HT
namespace L2
open PyProof.Rows
abbrev TO:=St->Hp->(Option Int->Hp->Prop)->Prop
def PO(X:Cx)(e:Option Expr)(t:TO):Prop :=
 ∀(pins:List (Addr×Obj)) (s:Shared) (σ:St) (H:Hp) (Q:Option Int->Hp->Prop),Inv X pins σ H s->t σ H Q ->
  wpAny (model X.prog X.w) X.A (evalPart e X.env) (λu s'=>∃o H',Inv X pins σ H' s'/\IsPart u o/\Q o H') X.xe s
noncomputable def C1:TO:=λ_ H Q=>Q none H
noncomputable def tPart(t:TE):TO:=λσ H Q=>t σ H λx H1=>∃i,x=.int i/\Q (some i) H1
theorem xt{ns:List Int}:∀{us:List Value},bD (ns.map V.int) us->IntsAre us ns:=by
 induction ns with
 | nil=>intro us r;cases r;exact .nil
 | cons n ns ih =>
  intro us r
  cases r with
  | cons r1 r2 =>
   obtain⟨t,e⟩:=r1
   subst e
   exact .cons n t (ih r2)
section
variable{X:Cx}{e:Expr}{te:TE}{lo hi:Option Expr}{tl th:TO}{pos p2:Pos}
theorem Dy:PO X none C1:=by
 intro pins s σ H Q I h
 exact wpAny_pure ⟨none,H,I,.none,h⟩
theorem Dx(h:PE X e te):PO X (some e) (tPart te):=by
 intro pins s σ H Q I hw
 refine thn (h pins s σ H _ I hw) λu s1 ⟨x,H1,I1,r1,q1⟩=>?_
 obtain⟨i,rfl,q⟩:=q1
 obtain⟨t,rfl⟩:=r1
 exact⟨some i,H1,I1,.int i t,q⟩
def SlR(X:Cx)(r:V->Option Int->Option Int->Hp->VK->Prop):Prop :=
 ∀(pins:List (Addr×Obj)) (s:Shared) (σ:St) (H:Hp) (x:V) (v vl vu:Value) (lo hi:Option Int) (sl:Addr) (Q:VK),Inv X pins σ H s->bW x v->s.heap.IsSliceOf sl vl vu .none->IsPart vl lo->IsPart vu hi->r x lo hi H Q ->
  ∃T id,typeLookup (.type T) "__getitem__" = pure (some (.builtin id))/\s.TypeIs v T/\wpAny (model X.prog X.w) X.A (getItem v (.ref sl)) (EP X pins σ Q) X.xe s
theorem SlR.or{r r':V->Option Int->Option Int->Hp->VK->Prop}(h:SlR X r)(h':SlR X r'):SlR X (λx lo hi H Q=>r x lo hi H Q\/r' x lo hi H Q):=by
 intro pins s σ H x v vl vu lo hi sl Q I rx hs pl pu q
 rcases q with q | q
 ·exact h pins s σ H x v vl vu lo hi sl Q I rx hs pl pu q
 ·exact h' pins s σ H x v vl vu lo hi sl Q I rx hs pl pu q
def tSl(r:V->Option Int->Option Int->Hp->VK->Prop)(te:TE)(tl th:TO):TE:=λσ H Q=>te σ H λx H1=>tl σ H1 λl H2=>th σ H2 λu H3=>r x l u H3 Q
theorem A6{r:V->Option Int->Option Int->Hp->VK->Prop}(hr:SlR X r)(he:PE X e te)(hl:PO X lo tl)(hu:PO X hi th):PE X (.Subscript e (.Slice lo hi none p2) pos) (tSl r te tl th):=by
 intro pins s σ H Q I h
 refine Subscript_ (thn (he pins s σ H _ I h) λv s1 ⟨x,H1,I1,r1,q1⟩=>?_)
 refine wpAny_Slice (thn (hl pins s1 σ H1 _ I1 q1) λvl s2 ⟨l,H2,I2,pl,q2⟩=>thn (hu pins s2 σ H2 _ I2 q2) λvu s3 ⟨u,H3,I3,pu,q3⟩=>?_)
 refine wpAny_pure ?_
 have I4:Inv X pins σ H3 { s3 with heap:=s3.heap.push { cls:=.type "slice",data:=.fields #[vl,vu,.none] } }:=I3.kept λb ob q=>Heap.get?_push_of_some _ q
 obtain⟨T,id,hT,ht,hg⟩:=hr pins { s3 with heap:=s3.heap.push { cls:=.type "slice",data:=.fields #[vl,vu,.none] } } σ H3 x v vl vu l u s3.heap.objs.size Q I4 r1 (Heap.IsSliceOf.new ..) pl pu q3
 exact tail_any ht hT hg (by rfl)
noncomputable def Ae(xs:List V)(lo hi:Option Int):List V:=(xs.drop (HT.sIx xs.length 0 lo)).take (HT.sIx xs.length xs.length hi-HT.sIx xs.length 0 lo)
theorem oP(xs:List V)(lo hi:Option Int):(Ae xs lo hi).length<=xs.length:=by
 unfold Ae
 grind
def rSlT(K:ε):V->Option Int->Option Int->Hp->VK->Prop:=λx lo hi H Q=>∃a xs,x=.ref a/\SqT K H a xs /\
 ¬(HT.sIx xs.length 0 lo=0/\HT.sIx xs.length xs.length hi=xs.length)/\∀p,H p=none->Q (.ref p) (upd H p (.tup (Ae xs lo hi)))
theorem sl_tup:SlR X (rSlT X.K):=by
 intro pins s σ H x v vl vu lo hi sl Q I rx hs pl pu h
 obtain⟨a,xs,rfl,hx,hw,q⟩:=h
 cases rx
 obtain⟨its,r,ht,hz⟩:=I.tuple hx
 have hlen:its.toArray.size=xs.length:=by exact r.length.symm
 refine⟨"tuple",_,PyProof.Rows.slot_tuple_getitem.lookup,ht.typeIs,?_⟩
 refine HT.m8 ht hs pl pu (by simp_all) ?_ (by omega)
 rw[hlen]
 refine⟨.ref s.heap.objs.size,_,I.laid (λb ob q=>Heap.get?_push_of_some _ q) (ρ _) ?_,rfl,q _ (I.hok.fresh (ρ _))⟩
 exact⟨X5 (oP xs lo hi) hz,_,(r.drop (HT.sIx xs.length 0 lo)).take (HT.sIx xs.length xs.length hi-HT.sIx xs.length 0 lo),IsTup.new _ _⟩
noncomputable def rCatT(K:ε):R2:=λx y H Q=>∃a b xs ys,x=.ref a/\y=.ref b/\SqT K H a xs/\SqT K H b ys/\xs≠[]/\xs.length+ys.length<=sizeLine /\
 (ys=[]->Q (.ref a) H)/\(ys≠[]->∀p,H p=none->Q (.ref p) (upd H p (.tup (xs++ys))))
theorem bD.nil_iff{xs:List V}{us:List Value}(r:bD xs us):us=[]↔xs=[]:=by
 cases r with
 | nil=>simp
 | cons _ _=>simp
theorem DO:OpR X (binaryOp .Add) (rCatT X.K):=by
 intro pins s σ H x y v u Q I rx ry h
 obtain⟨a,b,xs,ys,rfl,rfl,ha,hb,hx,hz,q1,q2⟩:=h
 cases rx
 cases ry
 obtain⟨its,r1,p1,_⟩:=I.tuple ha
 obtain⟨its2,r2,p2,_⟩:=I.tuple hb
 refine HT.ER p1 p2 (λz=>hx (r1.nil_iff.mp z)) (λz=>⟨.ref a,H,I,rfl,q1 (r2.nil_iff.mp z)⟩) (λz=>?_) (by rw[<-r1.length,<-r2.length];exact hz)
 refine⟨.ref s.heap.objs.size,_,I.laid (λb ob q=>Heap.get?_push_of_some _ q) (ρ _) ?_,rfl,q2 (λw=>z (r2.nil_iff.mpr w)) _ (I.hok.fresh (ρ _))⟩
 exact⟨by simp_all,_,r1.append r2,IsTup.new _ _⟩
end
end L2
namespace L2
open PyProof.Rows
noncomputable def ixN(n:Nat)(i:Int):Option Nat:=if 0<=i then (if i<n then some i.toNat else none) else if -(n:Int)<=i then some (i+n).toNat else none
noncomputable def atI{α:Type}(xs:List α)(i:Int):Option α:=(ixN xs.length i).bind λj=>xs[j]?
theorem Em{n:Nat}{i:Int}{j:Nat}(h:ixN n i=some j):seqIndex? i n=some j/\j<n /\ -(n:Int)<=i/\i<n:=by
 unfold ixN at h
 by_cases h0:0<=i
 ·rw[if_pos h0] at h
  by_cases h1:i<n
  ·rw[if_pos h1] at h
   have e:= Option.some.inj h
   exact⟨by rw[seqIndex_of h0 h1,e],by omega,by omega,h1⟩
  simp_all
 ·rw[if_neg h0] at h
  by_cases h1 : -(n:Int)<=i
  ·rw[if_pos h1] at h
   have e:= Option.some.inj h
   exact⟨by rw[seqIndex_neg (by omega) h1,e],by omega,h1,by omega⟩
  simp_all
theorem uG{α:Type}{xs:List α}{i:Int}{v:α}(h:atI xs i=some v):∃j,seqIndex? i xs.length=some j/\xs[j]?=some v/\j<xs.length /\ -(xs.length:Int)<=i/\i<xs.length:=by
 unfold atI at h
 cases e:ixN xs.length i with
 | none=>simp_all
 | some j =>
  rw[e] at h
  obtain⟨h1,h2,h3,h4⟩:=Em e
  simp_all
theorem za{α:Type}{xs:List α}{j:Nat}{v:α}(h:xs[j]?=some v):atI xs (j:Int)=some v:=by
 have hj:= (ω.mp h).1
 have e:ixN xs.length (j:Int)=some j:=by
  unfold ixN
  simp_all
 unfold atI;simp_all
def zc(b:Expr):Prop:=∀o i,subscripted b false o i=operate [o,i] (getItem o i)
def IxR(X:Cx)(r:R2):Prop :=
 ∀(value slice:Expr) (pins:List (Addr×Obj)) (s:Shared) (σ:St) (H:Hp) (x y:V) (v u:Value) (Q:VK),Inv X pins σ H s->bW x v->bW y u->r x y H Q ->
  subscripted slice false v u=operate [v,u] (getItem v u)->wpAny (model X.prog X.w) X.A (subscriptTail value slice v u) (EP X pins σ Q) X.xe s
def MtR(X:Cx)(id:String)(r:V->List V->Hp->VK->Prop):Prop :=
 ∀(pins:List (Addr×Obj)) (s:Shared) (σ:St) (H:Hp) (x:V) (xs:List V) (v:Value) (us:List Value) (Q:VK),Inv X pins σ H s->bW x v->bD xs us->r x xs H Q ->
  wpAny (model X.prog X.w) X.A (call (.builtin id) (v::us)) (EP X pins σ Q) X.xe s
section
variable{X:Cx}{a b:Expr}{ta tb:TE}{pos:Pos}
theorem IxR.or{r r':R2}(h:IxR X r)(h':IxR X r'):IxR X (λx y H Q=>r x y H Q\/r' x y H Q):=by
 intro value slice pins s σ H x y v u Q I rx ry q hs
 rcases q with q | q
 ·exact h value slice pins s σ H x y v u Q I rx ry q hs
 ·exact h' value slice pins s σ H x y v u Q I rx ry q hs
theorem pe_ix{r:R2}(hr:IxR X r)(ha:PE X a ta)(hb:PE X b tb)(hs:zc b):PE X (.Subscript a b pos) (tOp r ta tb):=by
 intro pins s σ H Q I h
 exact Subscript_ (binT ha hb I h λv u s2 x y H2 I2 rx ry q=>hr a b pins s2 σ H2 x y v u Q I2 rx ry q (hs _ _))
noncomputable def rIxL(K:ε):R2:=λx y H Q=>∃p xs i v,x=.ref p/\y=.int i/\SqL K H p xs/\atI xs i=some v/\Q v H
noncomputable def rIxT(K:ε):R2:=λx y H Q=>∃p xs i v,x=.ref p/\y=.int i/\SqT K H p xs/\atI xs i=some v/\Q v H
noncomputable def rIxS:R2:=λx y H Q=>∃z i c,x=.str z/\y=.int i/\z.length<=sizeLine/\atI z.cps.toList i=some c/\Q (.str ⟨#[c]⟩) H
theorem El:IxR X (rIxL X.K):=by
 intro value slice pins s σ H x y v u Q I rx ry h hs
 obtain⟨p,xs,i,z,rfl,rfl,hq,he,q⟩:=h
 cases rx
 obtain⟨t,rfl⟩:=ry
 obtain⟨its,r,pl,hz⟩:=I.list hq
 obtain⟨j,h1,h2,h3,h4,h5⟩:=uG he
 obtain⟨w,ew,rw'⟩:=r.get h2
 have hl:=r.length
 have hn:=qF
 have fin:EP X pins σ Q w s:=⟨z,H,I,rw',q⟩
 by_cases h0:0<=i
 ·have hj:i.toNat=j:=by
   rw[seqIndex_of h0 h5] at h1
   simp_all
  exact item_listR pl.isList h0 (by omega) (by simp_all) fin hs
 ·have hj:(i+(its.toArray.size:Int)).toNat=j:=by
   rw[seqIndex_neg (by omega) h4] at h1
   simp_all
  exact subscriptTail_builtinR (x:=w) pl.isList.typeIs slot_list_getitem.lookup
   (wpAny_getItem_list_neg (Q:=λr s'=>r=w/\EP X pins σ Q r s') pl.isList (by omega) (by simp_all) (by omega) (by simp_all) ⟨rfl,fin⟩) hs
theorem ix_tup:IxR X (rIxT X.K):=by
 intro value slice pins s σ H x y v u Q I rx ry h hs
 obtain⟨p,xs,i,z,rfl,rfl,hq,he,q⟩:=h
 cases rx
 obtain⟨t,rfl⟩:=ry
 obtain⟨its,r,pl,hz⟩:=I.tuple hq
 obtain⟨j,h1,h2,h3,h4,h5⟩:=uG he
 obtain⟨w,ew,rw'⟩:=r.get h2
 have hl:=r.length
 have hn:=qF
 have fin:EP X pins σ Q w s:=⟨z,H,I,rw',q⟩
 exact subscriptTail_builtinR (x:=w) pl.typeIs slot_tuple_getitem.lookup
  (getItem_tuple (j:=j) (Q:=λr s'=>r=w/\EP X pins σ Q r s') pl (by omega) (by omega) (by simp_all) (by simp_all) ⟨rfl,fin⟩) hs
theorem ix_str:IxR X rIxS:=by
 intro value slice pins s σ H x y v u Q I rx ry h hs
 obtain⟨z,i,c,rfl,rfl,hz,he,q⟩:=h
 obtain⟨t,rfl⟩:=rx
 obtain⟨t',rfl⟩:=ry
 obtain⟨j,h1,h2,h3,h4,h5⟩:=uG he
 have hl:z.cps.toList.length=z.length:=by rfl
 rw[hl] at h1 h4 h5
 have hn:=qF
 exact tail_any (typeIs_str s z t) slot_str_getitem.lookup (getItem_str (c:=c) (by
  grind) (by simp_all) ⟨.str ⟨#[c]⟩,H,I.tok _,⟨_,rfl⟩,q⟩) hs
noncomputable def rIx(K:ε):R2:=λx y H Q=>rIxL K x y H Q\/rIxT K x y H Q\/rIxS x y H Q
theorem ix_seq:IxR X (rIx X.K):=El.or (ix_tup.or ix_str)
theorem tp(lo hi:Option Int)(n:Nat):(sliceBounds lo hi none n).1=((HT.sIx n 0 lo:Nat):Int)/\(sliceBounds lo hi none n).2.1=((HT.sIx n n hi:Nat):Int)/\(sliceBounds lo hi none n).2.2=1:=by
 refine⟨?_,?_,rfl⟩
 ·cases lo with
  | none=>rfl
  | some i =>
   simp only[sliceBounds,HT.sIx,Option.getD_none,show(1:Int) > 0 by decide,if_true]
   grind
 ·cases hi with
  | none=>rfl
  | some i =>
   simp only[sliceBounds,HT.sIx,Option.getD_none,show(1:Int) > 0 by decide,if_true]
   grind
theorem rL(its:List Value)(lo hi:Option Int):slicePick its.toArray lo hi none=((its.drop (HT.sIx its.length 0 lo)).take (HT.sIx its.length its.length hi-HT.sIx its.length 0 lo)).toArray:=by
 obtain⟨h1,h2,h3⟩:=tp lo hi its.toArray.size
 unfold slicePick
 rw[h1,h2,h3]
 simp only[sliceRange_one,pick_run,List.size_toArray]<;>rfl
def rSlL(K:ε):V->Option Int->Option Int->Hp->VK->Prop:=λx lo hi H Q=>∃a xs,x=.ref a/\SqL K H a xs/\∀p,H p=none->Q (.ref p) (upd H p (.lst (Ae xs lo hi)))
theorem C7:SlR X (rSlL X.K):=by
 intro pins s σ H x v vl vu lo hi sl Q I rx hs pl pu h
 obtain⟨a,xs,rfl,hx,q⟩:=h
 cases rx
 obtain⟨its,r,ht,hz⟩:=I.list hx
 have hlen:=r.length
 refine⟨"list",_,slot_list_getitem.lookup,ht.isList.typeIs,?_⟩
 refine wpAny_getItem_list_slice ht.isList hs pl pu .none (by simp) ?_ (by simp_all)
 rw[rL,<-hlen]
 refine⟨.ref s.heap.objs.size,_,I.laid (λb ob q=>Heap.get?_push_of_some _ q) (ρ _) ?_,rfl,q _ (I.hok.fresh (ρ _))⟩
 exact⟨X5 (oP xs lo hi) hz,_,0,(r.drop (HT.sIx xs.length 0 lo)).take (HT.sIx xs.length xs.length hi-HT.sIx xs.length 0 lo),Heap.get?_push_size _ rfl⟩
noncomputable def lZ:V->Bool
 | .non=>true
 | .bl _=>true
 | .int _=>true
 | .str _=>true
 | _=>false
noncomputable def eqV:V->V->Bool
 | .non,.non=>true
 | .bl a,.bl b=>a==b
 | .bl a,.int b=>(if a then 1 else 0)==b
 | .int a,.bl b=>a==(if b then 1 else 0)
 | .int a,.int b=>a==b
 | .str a,.str b=>a==b
 | _,_=>false
theorem eqAt_V{A:Around}{s:Shared}{y x:V}{u v:Value}(ry:bW y u)(rx:bW x v)(fy:lZ y=true)(fx:lZ x=true):SeqAt.EqAt A s u v (eqV y x):=by
 cases y with
 | non =>
  cases ry
  cases x with
  | non=>cases rx;exact SeqAt.EqAt.same _
  | bl b=>cases rx;exact SeqAt.EqAt.none_bool b
  | int b=>obtain⟨t,rfl⟩:=rx;exact SeqAt.EqAt.none_int b t
  | str b=>obtain⟨t,rfl⟩:=rx;exact SeqAt.EqAt.none_str b t
  | _=>exact absurd (show false=true from fx) Ξ
 | bl a =>
  cases ry
  cases x with
  | non=>cases rx;exact SeqAt.EqAt.bool_none a
  | bl b=>cases rx;exact SeqAt.EqAt.bool_bool a b
  | int b=>obtain⟨t,rfl⟩:=rx;exact SeqAt.EqAt.bool_int a b t
  | str b=>obtain⟨t,rfl⟩:=rx;exact SeqAt.EqAt.bool_str a b t
  | _=>exact absurd (show false=true from fx) Ξ
 | int a =>
  obtain⟨t',rfl⟩:=ry
  cases x with
  | non=>cases rx;exact SeqAt.EqAt.int_none a t'
  | bl b=>cases rx;exact SeqAt.EqAt.int_bool a t' b
  | int b=>obtain⟨t,rfl⟩:=rx;exact SeqAt.EqAt.int_int a t' b t
  | str b=>obtain⟨t,rfl⟩:=rx;exact SeqAt.EqAt.int_str a t' b t
  | _=>exact absurd (show false=true from fx) Ξ
 | str a =>
  obtain⟨t',rfl⟩:=ry
  cases x with
  | non=>cases rx;exact SeqAt.EqAt.str_none a t'
  | bl b=>cases rx;exact SeqAt.EqAt.str_bool a t' b
  | int b=>obtain⟨t,rfl⟩:=rx;exact SeqAt.EqAt.str_int a t' b t
  | str b=>obtain⟨t,rfl⟩:=rx;exact SeqAt.EqAt.str_str a t' b t
  | _=>exact absurd (show false=true from fx) Ξ
 | _=>exact absurd (show false=true from fy) Ξ
noncomputable def eqU(x:V)(u:Value):Bool:=match u with
 | .none=>eqV .non x
 | .bool b=>eqV (.bl b) x
 | .int i _=>eqV (.int i) x
 | .str z _=>eqV (.str z) x
 | _=>false
theorem Cs{x y:V}{u:Value}(r:bW y u)(f:lZ y=true):eqU x u=eqV y x:=by
 cases y with
 | non=>cases r;rfl
 | bl b=>cases r;rfl
 | int i=>obtain⟨t,rfl⟩:=r;rfl
 | str z=>obtain⟨t,rfl⟩:=r;rfl
 | _=>exact absurd (show false=true from f) Ξ
theorem nE{x:V}:∀{xs:List V} {us:List Value},bD xs us->xs.all lZ=true->us.any (eqU x)=xs.any λy=>eqV y x
 | _,_,.nil,_=>rfl
 | y::xs,u::us,.cons r t,f=>by
  rw[List.all_cons,Y0] at f
  rw[List.any_cons,List.any_cons,Cs r f.1,nE t f.2]
theorem kO{A:Around}{s:Shared}{x:V}{v:Value}(rx:bW x v)(fx:lZ x=true):∀{xs:List V} {us:List Value},bD xs us->xs.all lZ=true->∀u∈us,SeqAt.EqAt A s u v (eqU x u)
 | _,_,.nil,_=>λu hu=>by cases hu
 | y::xs,u::us,.cons r t,f=>λu' hu=>by
  rw[List.all_cons,Y0] at f
  rcases Θ.mp hu with rfl | hu
  ·rw[Cs r f.1];exact eqAt_V r rx f.1 fx
  ·exact kO rx fx t f.2 u' hu
noncomputable def inV(x:V)(xs:List V):Bool:=xs.any λy=>eqV y x
noncomputable def rIn(K:ε)(neg:Bool):R2:=λx y H Q=>∃p xs,y=.ref p/\(SqL K H p xs\/SqT K H p xs)/\lZ x=true/\xs.all lZ=true/\Q (.bl (if neg then !inV x xs else inV x xs)) H
theorem zG:OpR X (compareOp .In) (rIn X.K false):=by
 intro pins s σ H x y v u Q I rx ry h
 obtain⟨p,xs,rfl,hq,fx,fs,q⟩:=h
 cases ry
 rcases hq with hq | hq
 ·obtain⟨its,r,pl,hz⟩:=I.list hq
  refine SeqAt.in_listAt (eqU x) pl.isList (λw hw=>kO rx fx r fs w (by simp_all)) ⟨.bl _,H,I,rfl,?_⟩
  rw[show its.toArray.any (eqU x)=its.any (eqU x) by simp,nE r fs]
  exact q
 ·obtain⟨its,r,pl,hz⟩:=I.tuple hq
  refine SeqAt.in_tupleAt (eqU x) pl (λw hw=>kO rx fx r fs w (by simp_all)) ⟨.bl _,H,I,rfl,?_⟩
  rw[show its.toArray.any (eqU x)=its.any (eqU x) by simp,nE r fs]
  exact q
theorem tQ:OpR X (compareOp .NotIn) (rIn X.K true):=by
 intro pins s σ H x y v u Q I rx ry h
 obtain⟨p,xs,rfl,hq,fx,fs,q⟩:=h
 cases ry
 rcases hq with hq | hq
 ·obtain⟨its,r,pl,hz⟩:=I.list hq
  refine SeqAt.notIn_listAt (eqU x) pl.isList (λw hw=>kO rx fx r fs w (by simp_all)) ⟨.bl _,H,I,rfl,?_⟩
  rw[show its.toArray.any (eqU x)=its.any (eqU x) by simp,nE r fs]
  exact q
 ·obtain⟨its,r,pl,hz⟩:=I.tuple hq
  refine SeqAt.notIn_tupleAt (eqU x) pl (λw hw=>kO rx fx r fs w (by simp_all)) ⟨.bl _,H,I,rfl,?_⟩
  rw[show its.toArray.any (eqU x)=its.any (eqU x) by simp,nE r fs]
  exact q
theorem uE:eZ X (.builtin "len") (λxs H Q=>∃p ys,xs=[.ref p]/\(SqL X.K H p ys\/SqT X.K H p ys)/\Q (.int ys.length) H):=by
 intro pins s σ H xs us Q I r h
 obtain⟨p,ys,rfl,hq,q⟩:=h
 obtain⟨u,rfl,rx⟩:=gU r
 cases rx
 have hn:=qF
 rcases hq with hq | hq
 ·obtain⟨its,r',pl,hz⟩:=I.list hq
  have hlen:=r'.length
  exact Calls.call_len_list pl.isList (by grind) ⟨.int ys.length,H,I.tok _,⟨s.toks+1,by simp_all⟩,q⟩
 ·obtain⟨its,r',pl,hz⟩:=I.tuple hq
  have hlen:=r'.length
  exact len_tuple pl (by grind) ⟨.int ys.length,H,I.tok _,⟨s.toks+1,by simp_all⟩,q⟩
theorem uD:eZ X (.builtin "len") (λxs H Q=>∃z,xs=[.str z]/\z.length<=sizeLine/\Q (.int z.length) H):=by
 intro pins s σ H xs us Q I r h
 obtain⟨z,rfl,hz,q⟩:=h
 obtain⟨u,rfl,t,rfl⟩:=gU r
 have hn:=qF
 exact len_str (by omega) ⟨.int z.length,H,I.tok _,⟨_,rfl⟩,q⟩
theorem eZ.or{f:Value}{r r':List V->Hp->VK->Prop}(h:eZ X f r)(h':eZ X f r'):eZ X f (λxs H Q=>r xs H Q\/r' xs H Q):=by
 intro pins s σ H xs us Q I rs q
 rcases q with q | q
 ·exact h pins s σ H xs us Q I rs q
 ·exact h' pins s σ H xs us Q I rs q
def tyV(K:ε)(T:String)(x:V)(H:Hp):Prop:=match x with
 | .str _=>T = "str"
 | .int _=>T = "int"
 | .ref p=>(T = "list" /\ ∃xs,SqL K H p xs)\/(T = "tuple" /\ ∃o,K.lookup p=some o/\o.cls=.type "tuple" /\ o.dict=none) \/
   (T = "dict" /\ ((∃kvs,H p=some (.dK kvs))\/∃kvs,H p=some (.dT kvs)))\/(T = "set" /\ ∃S n,H p=some (.set S n))
 | _=>False
theorem tyV_is{pins:List (Addr×Obj)}{σ:St}{H:Hp}{s:Shared}{T:String}{x:V}{v:Value}(I:Inv X pins σ H s)(r:bW x v)(ty:tyV X.K T x H) :
  s.TypeIs v T/\∀a,v=.ref a->∃ob,s.heap.get? a=some ob/\ob.dict=none:=by
 cases x with
 | str z =>
  obtain⟨t,rfl⟩:=r
  cases (show T = "str" from ty)
  exact⟨typeIs_str s z t,λ_ e=>nomatch e⟩
 | int i =>
  obtain⟨t,rfl⟩:=r
  cases (show T = "int" from ty)
  exact⟨typeIs_int s i t,λ_ e=>nomatch e⟩
 | ref p =>
  cases r
  rcases ty with ⟨rfl,xs,hq⟩ | ⟨rfl,o,hk,hc,hd⟩ | ⟨rfl,hk⟩ | ⟨rfl,S,n,hk⟩
  ·obtain⟨its,_,pl,_⟩:=I.list hq
   refine⟨pl.isList.typeIs,λa e=>?_⟩
   cases e
   obtain⟨o,n,e,c,hd,_⟩:=pl
   simp_all
  ·refine⟨⟨o,I.kIn p o hk,hc⟩,λa e=>?_⟩
   cases e
   exact⟨o,I.kIn _ o hk,hd⟩
  ·have z:∃o,s.heap.get? p=some o/\o.ExactDict:=by
    rcases hk with ⟨kvs,hk⟩ | ⟨kvs,hk⟩
    ·obtain⟨_,_,_,_,o,_,_,e,ex,_⟩:=I.hok p _ hk
     simp_all
    ·obtain⟨_,_,_,_,o,_,_,e,ex,_⟩:=I.hok p _ hk
     simp_all
   obtain⟨o,e,ex⟩:=z
   refine⟨⟨o,e,ex.1⟩,λa e2=>?_⟩
   cases e2
   exact⟨o,e,ex.2.1⟩
  ·obtain⟨o,_,_,_,e,ex,_⟩:=I.hok p _ hk
   refine⟨⟨o,e,ex.1⟩,λa e2=>?_⟩
   cases e2
   exact⟨o,e,ex.2.1⟩
 | _=>exact False.elim ty
def tBM(K:ε)(T:String)(r:V->List V->Hp->VK->Prop)(to:TE)(t:TA):TE:=λσ H Q=>to σ H λx H1=>tyV K T x H1/\t σ H1 λxs H2=>r x xs H2 Q
variable{o e:Expr}{es:List Expr}{to:TE}{t:TA}{name:Str}{apos cpos:Pos}{T id:String}{r:V->List V->Hp->VK->Prop}
theorem vA(pa:PlainAttrs T)(slot:Slot T name id)(hty:typeOf (.builtin id)=pure (.type "method_descriptor"))(hm:MtR X id r)(ho:PE X o to)(ha:PA X (e::es) t)
  (hbase:attributeBase o name X.env (eval o X.env)=eval o X.env:=by rfl)
  (hfew:((backTo cpos (starEach (e::es) X.env)).all (λx=>!x.1)&&(backToKw cpos (keywordEach [] X.env)).all (λx=>x.1.isSome)
   && decide ((e::es).length+([]:List Keyword).length+(if ([]:List Keyword).isEmpty then 0 else 1)<30))=true:=by rfl)
  (hline:(apos.endLine==cpos.line)=true:=by rfl) (hs:starEach (e::es) X.env=(false,eval e X.env)::starEach es X.env:=by rfl) (hplain:(backTo cpos (starEach es X.env)).any (·.1)=false:=by rfl) :
  PE X (.Call (.Attribute o name apos) (e::es) [] cpos) (tBM X.K T r to t):=by
 intro pins s σ H Q I h
 refine wpAny_Call_method_late hbase hfew hline rfl (thn (ho pins s σ H _ I h) λv s1 ⟨x,H1,I1,r1,ty,q1⟩=>?_)
 obtain⟨h1,h2⟩:=tyV_is I1 r1 ty
 refine⟨T,id,pa,slot,hty,h1,h2,?_⟩
 have hA:=ha cpos pins s1 σ H1 _ I1 q1
 rw[hs] at hA ⊢
 refine Calls.callWith_builtin (by assumption) (Calls.evalArgs_plain ?_)
 exact thn hA λus s2 ⟨vs,H2,I2,r2,q2⟩=>hm pins s2 σ H2 x vs v us Q I2 r1 r2 q2
end
end L2
namespace L2
open PyProof.Rows
def MtM(X:Cx)(id:String)(r:V->List V->Hp->VK->Prop):Prop :=
 ∀(pins:List (Addr×Obj)) (s:Shared) (σ:St) (H:Hp) (x:V) (xs:List V) (v:Value) (us:List Value) (Q:VK),Inv X pins σ H s->bW x v->bD xs us->r x xs H Q ->
  wpAny (model X.prog X.w) X.A (call (.builtin id) (v::us)) (EP X pins σ Q) X.xe s
theorem bD.one:∀{x:V} {us:List Value},bD [x] us->∃u,us=[u]/\bW x u
 | _,_,.cons r .nil=>⟨_,rfl,r⟩
section
variable{X:Cx}{pins:List (Addr×Obj)}{σ:St}{H:Hp}{s:Shared}{l b:Addr}{xs ys zs:List V}
theorem Inv.lset{its its':List Value}{n:Nat}{f:Array Value->Array Value}{t':Nat}(I:Inv X pins σ H s)(hH:H l=some (.lst xs))
  (e:s.heap.get? l=some { cls:=.type "list",data:=.seq its.toArray n }) (hf:f its.toArray=its'.toArray) (hv:bD ys its') (hz:ys.length<=sizeLine) :
  Inv X pins σ (upd H l (.lst ys)) { s with heap:=s.heap.update l (Obj.mapSeq f),toks:=t' }:=by
 have q:=PySem.IsL.update e f
 rw[hf] at q
 refine I.write (by rw[hH];exact trivial) (.inl rfl) (λb' u hb hu=>(Heap.get?_update_other s.heap (Obj.mapSeq f) (Ne.symm hb)).trans hu) ⟨_,q⟩ ?_
 exact⟨hz,its',_,hv,q⟩
theorem Inv.lnew{its:List Value}{t':Nat}(I:Inv X pins σ H s)(hv:bD ys its)(hz:ys.length<=sizeLine) :
  Inv X pins σ (upd H s.heap.objs.size (.lst ys)) { s with heap:=s.heap.push { cls:=.type "list",data:=.seq its.toArray },toks:=t' } :=
 I.laid (λ_ _ q=>Heap.get?_push_of_some _ q) (ρ _) ⟨hz,its,0,hv,Heap.get?_push_size _ rfl⟩
theorem Inv.fresh(I:Inv X pins σ H s):H s.heap.objs.size=none:=I.hok.fresh (ρ _)
theorem Inv.lstM(I:Inv X pins σ H s)(hH:H l=some (.lst xs)):xs.length<=sizeLine/\∃(its:List Value) (n:Nat),bD xs its/\xs.length=its.length/\s.heap.get? l=some { cls:=.type "list",data:=.seq its.toArray n }:=by
 obtain⟨z,its,n,r,e⟩:=I.hok l _ hH
 exact⟨z,its,n,r,r.length,e⟩
theorem By{n:Nat}(h:n<=sizeLine):Builtin.List.listTooLong n=false:=by
 unfold Builtin.List.listTooLong
 simp_all
end
section
variable{X:Cx}
def Dm:V->List V->Hp->VK->Prop:=λx vs H Q=>∃l xs y,x=.ref l/\vs=[y]/\H l=some (.lst xs)/\xs.length<sizeLine/\Q .non (upd H l (.lst (xs++[y])))
theorem n9:MtM X "list.append" Dm:=by
 intro pins s σ H x vs v us Q I rx rv h
 obtain⟨l,xs,y,rfl,rfl,hH,hz,q⟩:=h
 cases rx
 obtain⟨u,rfl,ru⟩:=rv.one
 obtain⟨z,its,n,r,hl,e⟩:=I.lstM hH
 refine call_meets F.slot_list_append ⟨_,e,rfl⟩ F.entry_list_append (F.args_list_append_2 _ _) (PySem.list_append l its.toArray n u (by simp_all)) ⟨e,?_⟩
 refine⟨.non,_,I.lset hH e (by simp) (r.append (.cons ru .nil)) ?_,rfl,q⟩
 grind
def Dl:V->List V->Hp->VK->Prop:=λx vs H Q=>∃l b xs zs,x=.ref l/\vs=[.ref b]/\H l=some (.lst xs)/\H b=some (.lst zs)/\xs.length+zs.length<=sizeLine/\Q .non (upd H l (.lst (xs++zs)))
theorem zL:MtM X "list.extend" Dl:=by
 intro pins s σ H x vs v us Q I rx rv h
 obtain⟨l,b,xs,zs,rfl,rfl,hH,hB,hz,q⟩:=h
 cases rx
 obtain⟨u,rfl,ru⟩:=rv.one
 cases ru
 obtain⟨z,its,n,r,hl,e⟩:=I.lstM hH
 obtain⟨z2,its2,n2,r2,hl2,e2⟩:=I.lstM hB
 have hsz:its.toArray.size+its2.toArray.size<=sizeLine:=by simp_all
 have hlong:¬(!its.toArray.isEmpty&&Builtin.List.listTooLong (its.toArray.size+its2.toArray.size))=true:=by
  rw[By hsz,Bool.and_false]
  simp
 refine call_meets F.slot_list_extend ⟨_,e,rfl⟩ F.entry_list_extend (F.args_list_extend_2 _ _)
  (AutoSeq1.list_extend_list_list_0 l its.toArray n b its2.toArray n2 hlong (by omega) (by omega)) ⟨e,e2,?_⟩
 refine⟨.non,_,I.lset hH e (by simp) (r.append r2) ?_,rfl,q⟩
 simp_all
end
section
variable{prog:Program}{w:World}{A:Around}{E:Value->Shared->Prop}{s:Shared}
end
section
variable{X:Cx}
end
end L2
namespace Att
open PySem.W PySem.Calls PyProof.Rows
theorem o3{P:Params}{h:Heap}:∀(ns:List Int) (vs:List Value),WellAll P h vs (ns.map WData.int)->IntsAre vs ns:=by
 intro ns
 induction ns with
 | nil =>
  intro vs w
  cases w
  exact .nil
 | cons n ns ih =>
  intro vs w
  cases w with
  | cons a b =>
   cases a
   exact .cons _ _ (ih _ b)
theorem zo{l:OpenLaw}{n:Nat}(hn:l.most=some n){P:Params}{h:Heap}{args:List WData}{vals:List Value}
  (hpre:l.row.toRowW.claim.pre args=true) (hwl:WellAll P h vals args) :
  ∃a vs ns,vals=[Value.ref a]/\args=[WData.list (ns.map WData.int)]/\h.get? a=some { cls:=.type "list",data:=.seq vs.toArray }/\IntsAre vs ns/\ns.length<=n:=by
 have hsh:= (pre_splitW hpre).1
 have hc:l.pre.holds [] { args:=args }=true:=(pre_splitW hpre).2
 obtain⟨d,r,rfl,h1,h2⟩:=hasAllW_cons hsh
 obtain rfl:=hasAllW_nil h2
 obtain⟨xs,rfl,h3⟩:=hasW_list h1
 obtain⟨ns,rfl⟩:=items_int h3
 have hlen:ns.length<=n:=by
  have h4:(WTm.not (.lt (.lit (.int (n:Int))) (.len (.arg 0)))).holds [] { args:=[.list (ns.map .int)] }=true:=by
   have h4:=(holds_andW hc).1
   simp_all
  have h5:=condW_of h4 (w_not (w_lt w_lit (w_len_list (w_arg rfl))))
  simp_all
 cases hwl with
 | cons w1 w2 =>
  cases w2
  cases w1 with
  | list ho hall=>exact⟨_,_,ns,rfl,rfl,ho,o3 ns _ hall,hlen⟩
theorem zw(l:OpenLaw)(args:List WData):l.row.toRowW.claim.post args (.bool true) args=true :=
 postW_of (r:=l.row.toRowW) (X:=(true==true))
  (show WShape.has [] (.bool true) .bool=true by first | rfl | decide | simp [WShape.has,WShape.arms,WShape.armsAll])
  (show(WTm.eq .res (.lit (.bool true))).value [] { args:=args,res:=some (.bool true),after:=args }=some (.bool (true==true)) from w_eq_bool (w_res rfl) w_lit) rfl
theorem wz{l:OpenLaw}{n:Nat}{q:Program}{loose:List Str}{XP:(Str->Option Value)->Heap->Prop}{YP:World->Heap->Prop}{d:DefRec}
  (hn:l.most=some n) (hdf:d.params.defaults=[])
  (call:∀(w:World) (s₀ s₁:Shared) (mg mb:Str->Option Value) (fa:Addr) (o:Obj) (pm cd doc:Value) (a:Addr) (vs:List Value) (ns:List Int),
   Ground q loose [] XP w s₀ mg mb s₁.heap->YP w s₁.heap ->
   s₁.heap.get? fa=some o->o.data=.func (docDef d.name d.params d.body d.scope pm cd doc)->s₁.heap.CodeRec cd d.name->mg d.name=some (.ref fa) ->
   s₁.heap.get? a=some { cls:=.type "list",data:=.seq vs.toArray }->IntsAre vs ns->ns.length<=n->s₁.gens=#[] ->
   codeAny (model l.prog w) callerA (.call (.ref fa) ⟨[.ref a],[]⟩) (λr s'=>r=.ok (.ret (.bool true))/\OldK s₁.heap s'.heap/\s'.os=s₁.os/\AllBare s'.gens) s₁) :
  WalkO q loose XP YP l.row.toRowW d [] (λf vs=>PySem.call f vs):=by
 intro w s₀ s₁ mg mb G Y fa o pm cd doc dV kV ho hd hcd hD hmg hg args vals as hpre hlay hrd hwl hlo
 obtain rfl:dV=.none:=Dflts.none hD hdf
 obtain rfl:kV=.none:=Dflts.noKw hD
 obtain⟨a,vs,ns,rfl,rfl,hobj,hints,hlen⟩:=zo hn hpre hwl
 refine enter_call (codeAny_mono (call w s₀ s₁ mg mb fa o pm cd doc a vs ns G Y ho (fd_plain hd) hcd hmg hobj hints hlen hg) λr s' hq=>?_)
 obtain⟨rfl,h2,h3,h4⟩:=hq
 exact⟨.inl ⟨.bool true,.bool true,[],rfl,λ_=>rfl,.bool true,zw l _,λ_=>⟨List.Pairwise.nil,λ_ hm=>(nomatch hm)⟩⟩,h2,h3,h4⟩
section
variable{prog:Program}{w:World}{A:Around}{E:Value->Shared->Prop}{s:Shared}{K:Frag}
end
end Att
namespace L2
open PyProof.Rows
theorem nM:∀{vs:List Value} {ns:List Int},IntsAre vs ns->bD (ns.map V.int) vs
 | _,_,.nil=>.nil
 | _,_,.cons n t h=>.cons ⟨t,rfl⟩ (nM h)
def Only(H:Hp):Prop:=∀b,H b=none\/∃o xs,H b=some (.frz o (.lst xs))
theorem BQ{P:Program}{w:World}{K:ε}{mg mb:Str->Option Value}{CX:CXT}{k:Nat}{fa a:Addr}{fd:FuncData}{x:Str}{sp:Sp}{s₁:Shared}{vs:List Value}{ns:List Int}
  (KX:K.In s₁.heap) (hns:s₁.heap.Ns mainGlobals mg) (hb:s₁.heap.Ns builtinsNs mb) (hbb:∀x:Str,x ≠ "__name__" -> mb x=bootBuiltins x) (hlim:s₁.heap.NoLimit) (hg:s₁.gens=#[])
  (ha:s₁.heap.get? a=some { cls:=.type "list",data:=.seq vs.toArray }) (hi:IntsAre vs ns) (hl:ns.length<=sizeLine) (hr:Room k callerA)
  (F:∀base:Heap,K.In base->base.Ns mainGlobals mg->FnOk P w K mg base CX k fa fd [x] sp) (hbind:∀(s:Shared) (u:Value),BindsTo s fd ⟨[u],[]⟩ [(x,u)])
  (hsp:∀H:Hp,Only H->SqL K H a (ns.map V.int)->sp [.ref a] H (λv _=>v=.bl true) λ_ _ _=>False)
  (hCX:∀H e s',CX [] H s₁ (λ_ _ _=>False) e s'->False) :
  codeAny (model P w) callerA (.call (.ref fa) ⟨[.ref a],[]⟩) (λr s'=>r=.ok (.ret (.bool true))/\OldK s₁.heap s'.heap/\s'.os=s₁.os/\AllBare s'.gens) s₁:=by
 have rv:=nM hi
 have lenV:=hi.length
 have core:∀H:Hp,Only H->SqL K H a (ns.map V.int)->HOk P w H s₁.heap->(∀b,H b≠none->b=a)->(H a≠none->K.lookup a=none) ->
   codeAny (model P w) callerA (.call (.ref fa) ⟨[.ref a],[]⟩) (λr s'=>r=.ok (.ret (.bool true))/\OldK s₁.heap s'.heap/\s'.os=s₁.os/\AllBare s'.gens) s₁:=by
  intro H hO hS hok hA hK
  have base_of:∀{b:Addr} {o:Obj},s₁.heap.get? b=some o->H b=none->(uf s₁.heap H).get? b=some o:=λe n=>B0 e n
  have noA:∀{b:Addr} {o:Obj} {es:Array DictEntry} {ep:Nat},s₁.heap.get? b=some o->o.data=.dict es ep->H b=none:=λ{b o es ep} e d=>by
   cases q:H b with
   | none=>rfl
   | some u =>
    have e':b=a:=hA b (by rw[q];simp)
    subst e'
    rw[ha] at e;cases e
    have d':Data.seq vs.toArray _=Data.dict es ep:=d
    cases d'
  have nsK:∀{b:Addr} {m:Str->Option Value},s₁.heap.Ns b m->(uf s₁.heap H).Ns b m:=λ{b m} ⟨o,es,ep,e,d,r⟩=>⟨o,es,ep,base_of e (noA e d),d,r⟩
  have hKb:K.In (uf s₁.heap H):=λb o e=>base_of (KX b o e) (by
   cases q:H b with
   | none=>rfl
   | some u =>
    have e':b=a:=hA b (by rw[q];simp)
    subst e'
    rw[hK (by rw[q];simp)] at e;cases e)
  have hM:Mod K mg (uf s₁.heap H):=⟨hKb,nsK hns,⟨mb,nsK hb,hbb⟩,let ⟨mc,h1,h2⟩:=hlim;⟨mc,nsK h1,h2⟩⟩
  have e0:Env0 P w K mg (uf s₁.heap H) callerA [] s₁ H:=⟨rfl,hM,λb o e=>DW e,Nat.le_of_eq (zU _ _),trivial,λb hb=>absurd (show b∈([]:List Addr) from hb) (by simp),hok,.of_eq hg⟩
  refine codeAny_mono ((F _ hKb (nsK hns)).run callerA [] s₁ H ⟨[.ref a],[]⟩ [.ref a] [.ref a] _ _ hr e0 (hbind s₁ (.ref a)) (.cons rfl .nil) (hsp H hO hS)) λr s' h=>?_
  cases r with
  | error e=>exact(hCX H e s' h).elim
  | ok fl =>
   cases fl with
   | next=>exact False.elim h
   | brk=>exact False.elim h
   | cont=>exact False.elim h
   | ret u =>
    obtain⟨v,H',os,bare,un,hok',r',q⟩:=h
    have q':v=.bl true:=q
    subst q'
    obtain rfl:u=Value.bool true:=r'
    refine⟨rfl,OldK.of_keep λb o e=>?_,os,bare⟩
    cases q:H b with
    | none=>exact un.keep b o e q (by intro z;exact absurd (show b∈([]:List Addr) from z) (by simp)) (by simp)
    | some u =>
     rcases hO b with z | ⟨ob,xs,z⟩
     ·rw[q] at z;cases z
     ·have z2:=un.frzs b ob _ z
      obtain⟨e1,_⟩:=hok b _ z
      obtain⟨e2,_⟩:=hok' b _ z2
      rw[e] at e1;cases e1
      exact e2
 cases hk:K.lookup a with
 | some o =>
  have e:=KX a o hk
  rw[ha] at e
  cases e
  refine core (λ_=>none) (λ_=>.inl rfl) (.inr ⟨_,vs.toArray,_,hk,rfl,rfl,rfl,by rw[List.size_toArray,lenV];exact hl,by simpa using rv⟩) (λb u z=>by have z':(none:Option HO)=some u:=z;cases z') (λb z=>absurd rfl z) λz=>absurd rfl z
 | none =>
  refine core (λb=>if b=a then some (.frz { cls:=.type "list",data:=.seq vs.toArray } (.lst (ns.map V.int))) else none) (λb=>?_) (.inl (.inr ⟨{ cls:=.type "list",data:=.seq vs.toArray },if_pos rfl⟩)) (λb u z=>?_) (λb z=>?_) λ_=>hk
  ·by_cases hb:b=a
   ·exact .inr ⟨_,_,if_pos hb⟩
   ·exact .inl (if_neg hb)
  ·by_cases hb:b=a
   ·have z':=(if_pos hb).symm.trans z
    cases z'
    subst hb
    exact⟨ha,by rw[ι];exact hl,vs,_,rv,ha⟩
   ·have z':=(if_neg hb).symm.trans z
    cases z'
  ·by_cases hb:b=a
   ·exact hb
   ·exact absurd (if_neg hb) z
end L2
namespace L2
open PyProof.Rows
abbrev KOf{K:ε}{h:Heap}(_:K.In h):ε:=K
theorem C0{l:PySem.W.OpenLaw}{n k:Nat}{q:Program}{loose:List Str}{XP:(Str->Option Value)->Heap->Prop}{YP:World->Heap->Prop}{d:DefRec}{K:Params->ε}{CX:World->CXT}{sp:World->Sp}{x:Str}
  (hn:l.most=some n) (hn2:n<=sizeLine) (hdf:d.params.defaults=[]) (hr:Room k callerA)
  (hY:∀(w:World) (h:Heap),YP w h->(K w.params).In h)
  (F:∀(w:World) (mg:Str->Option Value) (fa:Addr) (h:Heap),(K w.params).In h->h.Ns mainGlobals mg->mg d.name=some (.ref fa) ->
   ∃fd:FuncData,(∀(s:Shared) (u:Value),BindsTo s fd ⟨[u],[]⟩ [(x,u)]) /\
    ∀base:Heap,(K w.params).In base->base.Ns mainGlobals mg->FnOk l.prog w (K w.params) mg base (CX w) k fa fd [x] (sp w))
  (hsp:∀(w:World) (H:Hp) (a:Addr) (ns:List Int),ns.length<=n->Only H->SqL (K w.params) H a (ns.map V.int)->sp w [.ref a] H (λv _=>v=.bl true) λ_ _ _=>False)
  (hCX:∀(w:World) (H:Hp) (s:Shared) (e:Value) (s':Shared),CX w [] H s (λ_ _ _=>False) e s'->False) :
  PySem.W.WalkO q loose XP YP l.row.toRowW d [] (λf vs=>PySem.call f vs):=by
 refine Att.wz hn hdf λw s₀ s₁ mg mb fa o pm cd doc a vs ns G Y ho hd hcd hmg hobj hints hlen hg=>?_
 have KX:=hY w _ Y
 obtain⟨fd,hb,hF⟩:=F w mg fa _ KX G.T.g hmg
 exact BQ KX G.T.g G.T.b G.T.builtins G.T.nolimit hg hobj hints (X5 hlen hn2) hr hF hb (λH hO hS=>hsp w H a ns hlen hO hS) λH e s'=>hCX w H s₁ e s'
end L2
namespace L2
open PyProof.Rows
noncomputable def aE(s:Stmt):Arguments:=match s with
 | .FunctionDef _ a _ _ _ _ _ _ _ _=>a
 | _=>{ posonlyargs:=[],args:=[],vararg:=none,kwonlyargs:=[],kw_defaults:=[],kwarg:=none,defaults:=[] }
noncomputable def ax(s:Stmt):List Stmt:=match s with
 | .FunctionDef _ _ b _ _ _ _ _ _ _=>b
 | _=>[]
noncomputable def aj(s:Stmt):Scope:=match s with
 | .FunctionDef _ _ _ _ _ _ sc _ _ _=>sc
 | _=>{ kind:=.function,names:=[],isGenerator:=false,isCoroutine:=false }
abbrev CX0:CXT:=λ_ _ _ _ _ _=>False
abbrev E0:XK:=λ_ _ _=>False
theorem qu{X:Cx}:oy CX0 X E0:=λ_ _ _ _ _ _ _ h=>h.elim
structure Fun(K:ε)(x qual:Str)(st:Stmt)(f:Addr)(fd:FuncData):Prop where
 ex:∃(oc:Value) (od:Option Addr) (kV doc pm:Value) (an:Option Addr) (cdv ct:Value) (osl:Array (Option Value)),
  fd=ψ x qual (aE st) (ax st) (aj st) .none kV doc pm an cdv ct/\K.lookup f=some ⟨oc,od,.func fd,osl⟩/\ς K cdv qual=true
 kp:ξ K (.ref f)=true
section
variable{P:Program}{w:World}{K:ε}{mg:Str->Option Value}{base:Heap}
theorem Fun.ok{x qual:Str}{st:Stmt}{f:Addr}{fd:FuncData}{N ps:List Str}{k:Nat}{sp:Sp}(F:Fun K x qual st f fd)(S:FnScope N ps (aj st))(len:∀vs H Q E,sp vs H Q E->vs.length=ps.length)
  (hbody:∀(cdv:Value) (A:Around) (outer:List Env) (s:Shared) (H:Hp) (vs:List V) (Q:VK) (E:XK),Room k (A.deeper (envOfC qual (aj st) s.heap.objs.size f cdv))->sp vs H Q E ->
   ∃t,PSs (mE CX0 P w K mg base N qual (aj st) f cdv A outer s H E).nox (ax st) t/\t { nx:=λ_ H'=>Q .non H',rt:=Q } (start N vs) H):FnOk P w K mg base CX0 (k+1) f fd ps sp:=by
 obtain⟨oc,od,kV,doc,pm,an,cdv,ct,osl,rfl,lk,hcd⟩:=F.ex
 refine fn_of lk hcd S len λA outer s H vs Q E hr hsp=>?_
 obtain⟨t,h,q⟩:=hbody cdv A outer s H vs Q E hr hsp
 exact⟨t,h.nox,q⟩
theorem Fun.binds{x qual:Str}{st:Stmt}{f:Addr}{fd:FuncData}{ps:List Str}(F:Fun K x qual st f fd)
  (h:∀(kV doc pm:Value) (an:Option Addr) (cdv ct:Value) (us:List Value),us.length=ps.length->bindArgs (ψ x qual (aE st) (ax st) (aj st) .none kV doc pm an cdv ct) ⟨us,[]⟩=pure (ps.zip us)):eR K fd ps []:=by
 obtain⟨oc,od,kV,doc,pm,an,cdv,ct,osl,rfl,lk,hcd⟩:=F.ex
 exact .all (h kV doc pm an cdv ct)
theorem ba{x qual:Str}{st:Stmt}{f:Addr}{oc:Value}{od an:Option Addr}{osl:Array (Option Value)}{kV doc pm cdv ct:Value}(l:K.lookup f=some ⟨oc,od,.func (ψ x qual (aE st) (ax st) (aj st) .none kV doc pm an cdv ct),osl⟩)
  (c:ς K cdv qual=true) (k:ξ K (.ref f)=true):Fun K x qual st f (ψ x qual (aE st) (ax st) (aj st) .none kV doc pm an cdv ct):=⟨⟨oc,od,kV,doc,pm,an,cdv,ct,osl,rfl,l,c⟩,k⟩
end
theorem dS{A:Around}{k:Nat}(hr:Room k A):A.units+1<cLine:=Nat.lt_of_le_of_lt (Nat.add_le_add_left (by decide:1<=64) _) hr.units
section
variable{X:Cx}
theorem pv(i:Nat){x:Str}{pos:Pos}(hN:X.N[i]?=some x:=by rfl)(hv:Vis X.env.scope x:=by first | exact Or.inl rfl | exact Or.inr (Or.inl rfl) | exact Or.inr (Or.inr rfl))(hd:(x==("__debug__" : Str))=false:=by decide)
  (hcd:(x==("__classdict__" : Str))=false:=by decide):PE X (.Name x pos) (uT i):=pe_var hN hv hd hcd
end
def aM(H H':Hp):Prop:=∀b o,H b=some o->H' b=some o
theorem aM.refl(H:Hp):aM H H:=λ_ _ h=>h
theorem aM.trans{H H1 H2:Hp}(a:aM H H1)(b:aM H1 H2):aM H H2:=λc o h=>b c o (a c o h)
end L2
namespace DL
open PyProof.Rows L2
abbrev D:=PyData
abbrev St:=L2.St
structure XD where
 cls:Str
 flds:List (Str×D)
abbrev M(α:Type):=Option (Except XD α)
noncomputable def M.ret{α:Type}(a:α):M α:=some (.ok a)
noncomputable def M.thn{α β:Type}(r:M α)(f:α->M β):M β:=match r with
 | none=>none
 | some (.ok a)=>f a
 | some (.error x)=>some (.error x)
noncomputable def M.lift{α:Type}(r:Option α):M α:=match r with
 | none=>none
 | some a=>some (.ok a)
def ok{α:Type}(G:XD->Prop)(r:M α)(k:α->Prop):Prop:=match r with
 | none=>False
 | some (.ok a)=>k a
 | some (.error x)=>G x
def GS(G:XD->Hp->Prop)(Hr:Hp)(x:XD):Prop:=∀H',aM Hr H'->G x H'
theorem au{α:Type}{G:XD->Prop}{r:M α}{k k':α->Prop}(h:ok G r k)(f:∀a,k a->k' a):ok G r k':=by
 match r,h with
 | some (.ok a),h=>exact f a h
 | some (.error x),h=>exact h
theorem ay{α β:Type}{G:XD->Prop}{r:M α}{f:α->M β}{k:β->Prop}(h:ok G (r.thn f) k):ok G r (λa=>ok G (f a) k):=by
 match r,h with
 | some (.ok a),h=>exact h
 | some (.error x),h=>exact h
theorem qw{α:Type}{G:XD->Prop}{a:α}{k:α->Prop}(h:ok G (M.ret a) k):k a:=h
theorem cq{α:Type}{G:XD->Prop}{r:Option α}{k:α->Prop}(h:ok G (M.lift r) k):∃a,r=some a/\k a:=by
 match r,h with
 | some a,h=>exact⟨a,rfl,h⟩
theorem aQ{α β:Type}(a:α)(f:α->M β):(M.ret a).thn f=f a:=rfl
theorem uR{α β:Type}(a:α)(f:α->M β):M.thn (some (.ok a)) f=f a:=rfl
theorem lz{α:Type}(a:α):M.lift (some a)=M.ret a:=rfl
def KL(K:ε)(a:Addr)(xs:List V):Prop :=
 ∃(o:Obj) (its:Array Value) (n:Nat),K.lookup a=some o/\o.cls=.type "list" /\ o.dict=none/\o.data=.seq its n/\its.size<=sizeLine/\bD xs its.toList
noncomputable def il:Key->D
 | .inl i=>.int i
 | .inr x=>.str x
abbrev gP(nm:Str)(es:List (Str×D)):D:=.dict [(.none,.tuple (.str nm::es.map λe=>.tuple [.str e.1,e.2]))]
def Mu(H:Hp)(l:Addr):Prop:=(∃xs,H l=some (.lst xs))\/(∃kvs,H l=some (.dK kvs))\/∃C dx fs,H l=some (.ins C dx fs)
mutual
inductive Rep(K:ε)(O:List Addr)(H:Hp):V->D->Prop
 | non:Rep K O H .non .none
 | bl (b:Bool):Rep K O H (.bl b) (.bool b)
 | int (i:Int):Rep K O H (.int i) (.int i)
 | str (x:Str):Rep K O H (.str x) (.str x)
 | tup {a:Addr} {xs:List V} {ds:List D} (h:SqT K H a xs) (r:Reps K O H xs ds):Rep K O H (.ref a) (.tuple ds)
 | lst {a:Addr} {xs:List V} {ds:List D} (h:Rd H a (.lst xs)) (n:a∉O) (r:Reps K O H xs ds):Rep K O H (.ref a) (.list ds)
 | lstK {a:Addr} {xs:List V} {ds:List D} (h:KL K a xs) (r:Reps K O H xs ds):Rep K O H (.ref a) (.list ds)
 | dct {a:Addr} {kvs:List (Key×V)} {es:List (Key×D)} (h:Rd H a (.dK kvs)) (n:a∉O) (hk:kvs.map (·.1)=es.map (·.1)) (r:Reps K O H (kvs.map (·.2)) (es.map (·.2))):Rep K O H (.ref a) (.dict (es.map λe=>(il e.1,e.2)))
 | ins {a C dx:Addr} {nm:Str} {fs:List (Str×V)} {es:List (Str×D)} (hN:ο K mainGlobals nm=some (some (.ref C))) (h:H a=some (.ins C dx fs)) (n:a∉O) (hk:fs.map (·.1)=es.map (·.1)) (r:Reps K O H (fs.map (·.2)) (es.map (·.2))):Rep K O H (.ref a) (gP nm es)
inductive Reps(K:ε)(O:List Addr)(H:Hp):List V->List D->Prop
 | nil:Reps K O H [] []
 | cons {v:V} {d:D} {vs:List V} {ds:List D} (r:Rep K O H v d) (rs:Reps K O H vs ds):Reps K O H (v::vs) (d::ds)
end
structure To(O O':List Addr)(H H':Hp):Prop where
 t:∀b xs,Rd H b (.tup xs)->Rd H' b (.tup xs)
 l:∀b xs,b∉O->Rd H b (.lst xs)->b∉O'/\Rd H' b (.lst xs)
 d:∀b xs,b∉O->Rd H b (.dK xs)->b∉O'/\Rd H' b (.dK xs)
 i:∀b C dx fs,b∉O->H b=some (.ins C dx fs)->b∉O'/\H' b=some (.ins C dx fs)
section
variable{K:ε}{O O':List Addr}{H H':Hp}
theorem To.sqT(k:To O O' H H'){a:Addr}{xs:List V}(h:SqT K H a xs):SqT K H' a xs:=by
 rcases h with h | h
 ·exact .inl (k.t a xs h)
 ·exact .inr h
mutual
theorem Rep.to(k:To O O' H H'):∀{v:V} {d:D},Rep K O H v d->Rep K O' H' v d
 | _,_,.non=>.non
 | _,_,.bl b=>.bl b
 | _,_,.int i=>.int i
 | _,_,.str x=>.str x
 | _,_,.tup h r=>.tup (k.sqT h) (Reps.to k r)
 | _,_,.lst h n r=>.lst (k.l _ _ n h).2 (k.l _ _ n h).1 (Reps.to k r)
 | _,_,.lstK h r=>.lstK h (Reps.to k r)
 | _,_,.dct h n hk r=>.dct (k.d _ _ n h).2 (k.d _ _ n h).1 hk (Reps.to k r)
 | _,_,.ins hN h n hk r=>.ins hN (k.i _ _ _ _ n h).2 (k.i _ _ _ _ n h).1 hk (Reps.to k r)
theorem Reps.to(k:To O O' H H'):∀{vs:List V} {ds:List D},Reps K O H vs ds->Reps K O' H' vs ds
 | _,_,.nil=>.nil
 | _,_,.cons r rs=>.cons (Rep.to k r) (Reps.to k rs)
end
theorem aM.rd(s:aM H H'){b:Addr}{o:HO}(h:Rd H b o):Rd H' b o:=by
 rcases h with h | ⟨u,h⟩
 ·exact .inl (s _ _ h)
 ·exact .inr ⟨u,s _ _ h⟩
theorem To.same(s:aM H H'):To O O H H':=⟨λb xs h=>aM.rd s h,λb xs n h=>⟨n,aM.rd s h⟩,λb xs n h=>⟨n,aM.rd s h⟩,λb C dx fs n h=>⟨n,s _ _ h⟩⟩
theorem To.less(s:∀b,b∈O'->b∈O):To O O' H H:=⟨λb xs h=>h,λb xs n h=>⟨λz=>n (s b z),h⟩,λb xs n h=>⟨λz=>n (s b z),h⟩,λb C dx fs n h=>⟨λz=>n (s b z),h⟩⟩
theorem Rep.same(s:aM H H'){v:V}{d:D}(r:Rep K O H v d):Rep K O H' v d:=r.to (.same s)
theorem Reps.same(s:aM H H'){v:List V}{d:List D}(r:Reps K O H v d):Reps K O H' v d:=r.to (.same s)
theorem Rd.ne_new{b l:Addr}{o:HO}(h:Rd H b o)(hl:H l=none):b≠l:=by
 rcases h with h | ⟨u,h⟩
 all_goals grind
theorem bu{l:Addr}{o:HO}(hl:H l=none):aM H (upd H l o):=λb u e=>by
 rw[upd_ne (bp e hl)]
 exact e
theorem To.own{l:Addr}{o:HO}(hl:H l=none):To O (l::O) H (upd H l o) :=
 ⟨λb xs h=>aM.rd (bu hl) h,λb xs n h=>⟨λz=>by
  rcases Θ.mp z with z | z
  ·exact Rd.ne_new h hl z
  simp_all,aM.rd (bu hl) h⟩,λb xs n h=>⟨λz=>by
  rcases Θ.mp z with z | z
  ·exact Rd.ne_new h hl z
  simp_all,aM.rd (bu hl) h⟩,λb C dx fs n h=>⟨λz=>by
  simp_all,bu hl _ _ h⟩⟩
theorem To.set{l:Addr}{xs ys:List V}(hl:H l=some (.lst xs))(ho:l∈O):To O O H (upd H l (.lst ys)):=by
 have keep:∀{b:Addr} {o:HO},b≠l->Rd H b o->Rd (upd H l (.lst ys)) b o:=λ{b o} hb h=>by
  rcases h with h | ⟨u,h⟩
  ·exact .inl (by rw[upd_ne hb];exact h)
  ·exact .inr ⟨u,by rw[upd_ne hb];exact h⟩
 refine⟨λb zs h=>keep ?_ h,λb zs n h=>⟨n,keep (λz=>n (z▸ho)) h⟩,λb zs n h=>⟨n,keep (λz=>n (z▸ho)) h⟩,λb C dx fs n h=>⟨n,by rw[upd_ne (show b≠l from λz=>n (z▸ho))];exact h⟩⟩
 rintro rfl
 rcases h with h | ⟨u,h⟩
 all_goals simp_all
theorem To.setD{l:Addr}{xs:List (Key×V)}{o:HO}(hl:H l=some (.dK xs))(ho:l∈O):To O O H (upd H l o):=by
 have keep:∀{b:Addr} {u:HO},b≠l->Rd H b u->Rd (upd H l o) b u:=λ{b u} hb h=>by
  rcases h with h | ⟨u,h⟩
  ·exact .inl (by rw[upd_ne hb];exact h)
  ·exact .inr ⟨u,by rw[upd_ne hb];exact h⟩
 refine⟨λb zs h=>keep ?_ h,λb zs n h=>⟨n,keep (λz=>n (z▸ho)) h⟩,λb zs n h=>⟨n,keep (λz=>n (z▸ho)) h⟩,λb C dx fs n h=>⟨n,by rw[upd_ne (show b≠l from λz=>n (z▸ho))];exact h⟩⟩
 rintro rfl
 rcases h with h | ⟨u,h⟩
 all_goals simp_all
theorem Rep.int_inv{v:V}{i:Int}(r:Rep K O H v (.int i)):v=.int i:=by cases r;rfl
theorem Rep.bool_inv{v:V}{i:Bool}(r:Rep K O H v (.bool i)):v=.bl i:=by cases r;rfl
theorem Rep.str_inv{v:V}{i:Str}(r:Rep K O H v (.str i)):v=.str i:=by cases r;rfl
theorem Rep.tup_inv{v:V}{ds:List D}(r:Rep K O H v (.tuple ds)):∃a xs,v=.ref a/\SqT K H a xs/\Reps K O H xs ds:=by
 cases r with
 | tup h r=>grind
theorem Rep.lst_inv{v:V}{ds:List D}(r:Rep K O H v (.list ds)):∃a xs,v=.ref a/\SqL K H a xs/\Reps K O H xs ds:=by
 cases r with
 | lst h n r=>exact⟨_,_,rfl,.inl h,r⟩
 | lstK h r=>exact⟨_,_,rfl,.inr h,r⟩
noncomputable def mY:D->Bool
 | .dict [(.none,_)]=>false
 | _=>true
theorem Rep.dct_inv{v:V}{X:List (D×D)}(r:Rep K O H v (.dict X))(hi:mY (.dict X)=true):∃(a:Addr) (kvs:List (Key×V)) (es:List (Key×D)),v=.ref a/\X=es.map (λe=>(il e.1,e.2))/\Rd H a (.dK kvs)/\a∉O/\kvs.map (·.1)=es.map (·.1)/\Reps K O H (kvs.map (·.2)) (es.map (·.2)):=by
 generalize hd:PyData.dict X=d at r
 cases r with
 | dct h n hk r =>
  grind
 | ins hN h n hk r =>
  rw[hd] at hi
  cases hi
 | _=>cases hd
theorem Reps.length:∀{vs:List V} {ds:List D},Reps K O H vs ds->vs.length=ds.length
 | _,_,.nil=>rfl
 | _,_,.cons _ rs=>congrArg (· + 1) (Reps.length rs)
theorem Reps.get:∀{vs:List V} {ds:List D} {i:Nat} {d:D},Reps K O H vs ds->ds[i]?=some d->∃v,vs[i]?=some v/\Rep K O H v d
 | _,_,_,_,.nil,e=>by simp at e
 | _,_,0,_,.cons r _,e=>by simp_all
 | _,_,i+1,d,.cons _ rs,e=>by
  obtain⟨u,h1,h2⟩:=Reps.get rs (by assumption)
  simp_all
theorem Reps.append:∀{xs ys:List V} {ds es:List D},Reps K O H xs ds->Reps K O H ys es->Reps K O H (xs++ys) (ds++es)
 | _,_,_,_,.nil,s=>s
 | _,_,_,_,.cons r t,s=>.cons r (Reps.append t s)
theorem Reps.take:∀{xs:List V} {ds:List D} (n:Nat),Reps K O H xs ds->Reps K O H (xs.take n) (ds.take n)
 | _,_,0,_=>.nil
 | _,_,_+1,.nil=>.nil
 | _,_,n+1,.cons r t=>.cons r (Reps.take n t)
theorem Reps.drop:∀{xs:List V} {ds:List D} (n:Nat),Reps K O H xs ds->Reps K O H (xs.drop n) (ds.drop n)
 | _,_,0,r=>r
 | _,_,_+1,.nil=>.nil
 | _,_,n+1,.cons _ t=>Reps.drop n t
theorem Reps.ints(ns:List Int):Reps K O H (ns.map V.int) (ns.map η):=by
 induction ns with
 | nil=>exact .nil
 | cons n ns ih=>exact .cons (.int n) ih
theorem Reps.atI{vs:List V}{ds:List D}{i:Int}{d:D}(r:Reps K O H vs ds)(h:L2.atI ds i=some d):∃v,L2.atI vs i=some v/\Rep K O H v d:=by
 unfold L2.atI at h ⊢
 rw[r.length]
 cases e:ixN ds.length i with
 | none=>simp_all
 | some j =>
  rw[e] at h
  exact r.get h
end
inductive Sl where
 | un
 | vl (d:D)
 | ow (ds:List D)
 | od (es:List (Key×D))
 | ex (a:Addr)
abbrev DS:=List Sl
def EV(K:ε)(O:List Addr)(H:Hp)(o:Option (Option V)):Sl->Prop
 | .un=>True
 | .vl d=>∃v,o=some (some v)/\Rep K O H v d
 | .ow ds=>∃l xs,o=some (some (.ref l))/\l∈O/\H l=some (.lst xs)/\Reps K O H xs ds
 | .od es=>∃l kvs,o=some (some (.ref l))/\l∈O/\H l=some (.dK kvs)/\kvs.map (·.1)=es.map (·.1)/\Reps K O H (kvs.map (·.2)) (es.map (·.2))
 | .ex a=>o=some (some (.ref a))
def Sl.own:Sl->Prop
 | .ow _=>True
 | .od _=>True
 | _=>False
theorem Mu.same{H H':Hp}{l:Addr}(s:aM H H')(h:Mu H l):Mu H' l:=by
 rcases h with ⟨xs,h⟩ | ⟨xs,h⟩ | ⟨C,dx,fs,h⟩
 ·exact .inl ⟨xs,s _ _ h⟩
 ·exact .inr (.inl ⟨xs,s _ _ h⟩)
 ·exact .inr (.inr ⟨C,dx,fs,s _ _ h⟩)
theorem Mu.upd_ne{H:Hp}{a l:Addr}{o:HO}(n:a≠l)(h:Mu H a):Mu (upd H l o) a:=by
 rcases h with ⟨xs,h⟩ | ⟨xs,h⟩ | ⟨C,dx,fs,h⟩
 ·exact .inl ⟨xs,by rw[L2.upd_ne n];exact h⟩
 ·exact .inr (.inl ⟨xs,by rw[L2.upd_ne n];exact h⟩)
 ·exact .inr (.inr ⟨C,dx,fs,by rw[L2.upd_ne n];exact h⟩)
theorem Mu.new{H:Hp}{a l:Addr}{o:HO}(hl:H l=none)(h:Mu H a):Mu (upd H l o) a:=h.same (bu hl)
theorem Mu.lst{H:Hp}{l:Addr}{xs:List V}(h:H l=some (.lst xs)):Mu H l:=.inl ⟨xs,h⟩
theorem Mu.some{H:Hp}{l:Addr}(h:Mu H l):∃o,H l=some o:=by
 rcases h with ⟨xs,h⟩ | ⟨xs,h⟩ | ⟨C,dx,fs,h⟩
 all_goals simp_all
structure Ev(K:ε)(Hr:Hp)(O:List Addr)(H:Hp)(σ:St)(δ:DS):Prop where
 root:aM Hr H
 oo:∀l∈O,Mu H l
 len:σ.length=δ.length
 at_:∀(i:Nat) (s:Sl),δ[i]?=some s->EV K O H σ[i]? s
 dis:∀(i j:Nat) (l:Addr) (ds es:List D),i≠j->δ[i]?=some (.ow ds)->δ[j]?=some (.ow es)->σ[i]?=some (some (.ref l))->σ[j]? ≠ some (some (.ref l))
section
variable{K:ε}{Hr:Hp}{O:List Addr}{H H':Hp}{σ:St}{δ:DS}
theorem Ev.same(s:aM H H')(e:Ev K Hr O H σ δ):Ev K Hr O H' σ δ:=by
 refine⟨e.root.trans s,λl hl=>(e.oo l hl).same s,e.len,λi sl h=>?_,e.dis⟩
 have q:=e.at_ i sl h
 cases sl with
 | un=>trivial
 | ex a=>exact q
 | vl d =>
  obtain⟨v,h1,r⟩:=q
  exact⟨v,h1,r.same s⟩
 | ow ds =>
  obtain⟨l,xs,h1,h2,h3,r⟩:=q
  exact⟨l,xs,h1,h2,s _ _ h3,r.same s⟩
 | od es =>
  obtain⟨l,kvs,h1,h2,h3,hk,r⟩:=q
  exact⟨l,kvs,h1,h2,s _ _ h3,hk,r.same s⟩
theorem Ev.val{i:Nat}{d:D}(e:Ev K Hr O H σ δ)(h:δ[i]?=some (.vl d)):∃v,σ[i]?=some (some v)/\Rep K O H v d:=e.at_ i _ h
theorem bM{α:Type}{l:List α}{i j:Nat}{a:α}:(l.set i a)[j]?=if i=j then (if i<l.length then some a else none) else l[j]?:=by
 grind
theorem Ev.set{i:Nat}{v:V}{d:D}(e:Ev K Hr O H σ δ)(r:Rep K O H v d):Ev K Hr O H (σ.set i (some v)) (δ.set i (.vl d)):=by
 refine⟨e.root,e.oo,by rw[Y5,Y5];exact e.len,λj sl h=>?_,λj k l ds es hjk h1 h2 h3 h4=>?_⟩
 ·rw[bM] at h ⊢
  by_cases hij:i=j
  ·rw[if_pos hij] at h ⊢
   by_cases hl:i<δ.length
   ·rw[if_pos hl] at h
    rw[if_pos (by rw[e.len];exact hl)]
    cases h
    exact⟨v,rfl,r⟩
   simp_all
  ·rw[if_neg hij] at h ⊢
   exact e.at_ j sl h
 ·rw[bM] at h1 h2 h3 h4
  by_cases hij:i=j
  ·simp_all
  ·by_cases hik:i=k
   ·simp_all
   ·rw[if_neg hij] at h1 h3
    rw[if_neg hik] at h2 h4
    exact e.dis j k l ds es hjk h1 h2 h3 h4
end
end DL
namespace DL
open PyProof.Rows L2
def PD(X:Cx)(G:XD->Hp->Prop)(e:Expr)(f:DS->M D):Prop :=
 ∃t,PE X e t/\∀{Hr:Hp} (δ:DS) (O:List Addr) (σ:St) (H:Hp) (Q:VK),Ev X.K Hr O H σ δ->ok (GS G Hr) (f δ) (λd=>∀v H',aM H H'->Rep X.K O H' v d->Q v H')->t σ H Q
def PDT(X:Cx)(G:XD->Hp->Prop)(e:Expr)(f:DS->M Bool):Prop :=
 ∃t,PT X e t/\∀{Hr:Hp} (δ:DS) (O:List Addr) (σ:St) (H:Hp) (Q:Bool->Hp->Prop),Ev X.K Hr O H σ δ->ok (GS G Hr) (f δ) (λb=>∀H',aM H H'->Q b H')->t σ H Q
def PDW(X:Cx)(G:XD->Hp->Prop)(e:Expr)(f:DS->M Bool):Prop :=
 ∃t,PW X e t/\∀{Hr:Hp} (δ:DS) (O:List Addr) (σ:St) (H:Hp) (Q:Bool->Hp->Prop),Ev X.K Hr O H σ δ->ok (GS G Hr) (f δ) (λb=>∀H',aM H H'->Q b H')->t σ H Q
def PDA(X:Cx)(G:XD->Hp->Prop)(es:List Expr)(f:DS->M (List D)):Prop :=
 (∀δ ds,f δ=some (.ok ds)->ds.length=es.length)/\∃t,PA X es t/\∀{Hr:Hp} (δ:DS) (O:List Addr) (σ:St) (H:Hp) (Q:List V->Hp->Prop),Ev X.K Hr O H σ δ->ok (GS G Hr) (f δ) (λds=>∀vs H',aM H H'->Reps X.K O H' vs ds->Q vs H')->t σ H Q
section
variable{X:Cx}{G:XD->Hp->Prop}{a b c e:Expr}{es rest:List Expr}{f g h:DS->M D}{fb gb:DS->M Bool}{fa:DS->M (List D)}{pos:Pos}
noncomputable def ah(i:Nat):DS->M D:=λδ=>match δ[i]? with
 | some (.vl d)=>M.ret d
 | _=>none
theorem ae{i:Nat}(h:PE X e (uT i)):PD X G e (ah i):=by
 refine⟨_,h,λδ O σ H Q E k=>?_⟩
 unfold ah at k
 split at k
 ·rename_i d hd
  obtain⟨v,e1,r⟩:=E.val hd
  exact⟨v,e1,k v H (aM.refl H) r⟩
 ·exact k.elim
noncomputable def dC(d:D):DS->M D:=λ_=>M.ret d
theorem al{i j pos}:PD X G (.Constant (.int i) j pos) (dC (.int i)):=⟨_,Ba,λ_ _ _ H Q _ k=>k _ H (aM.refl H) (.int i)⟩
theorem oC{i j pos}:PD X G (.Constant (.bool i) j pos) (dC (.bool i)):=⟨_,pe_bl,λ_ _ _ H Q _ k=>k _ H (aM.refl H) (.bl i)⟩
theorem i9{j pos}:PD X G (.Constant .none j pos) (dC .none):=⟨_,pe_non,λ_ _ _ H Q _ k=>k _ H (aM.refl H) .non⟩
theorem aq{x j pos}:PD X G (.Constant (.str x) j pos) (dC (.str x)):=⟨_,pe_str,λ_ _ _ H Q _ k=>k _ H (aM.refl H) (.str x)⟩
def DOp(X:Cx)(sem:Value->Value->Sem Value)(h:D->D->Option D):Prop :=
 ∃r:R2,OpR X sem r/\∀(O:List Addr) (H:Hp) (x y d:D) (v u:V) (Q:VK),(∀l∈O,Mu H l)->Rep X.K O H v x->Rep X.K O H u y->h x y=some d->(∀v' H',aM H H'->Rep X.K O H' v' d->Q v' H')->r v u H Q
noncomputable def d2(h:D->D->Option D)(f g:DS->M D):DS->M D:=λδ=>(f δ).thn λx=>(g δ).thn λy=>M.lift (h x y)
theorem tN{r:R2}{h:D->D->Option D}{ta tb:TE}
  (ho:∀(O:List Addr) (H:Hp) (x y d:D) (v u:V) (Q:VK),(∀l∈O,Mu H l)->Rep X.K O H v x->Rep X.K O H u y->h x y=some d->(∀v' H',aM H H'->Rep X.K O H' v' d->Q v' H')->r v u H Q)
  (ha:∀{Hr:Hp} (δ:DS) (O:List Addr) (σ:St) (H:Hp) (Q:VK),Ev X.K Hr O H σ δ->ok (GS G Hr) (f δ) (λd=>∀v H',aM H H'->Rep X.K O H' v d->Q v H')->ta σ H Q)
  (hb:∀{Hr:Hp} (δ:DS) (O:List Addr) (σ:St) (H:Hp) (Q:VK),Ev X.K Hr O H σ δ->ok (GS G Hr) (g δ) (λd=>∀v H',aM H H'->Rep X.K O H' v d->Q v H')->tb σ H Q)
  {Hr:Hp} (δ:DS) (O:List Addr) (σ:St) (H:Hp) (Q:VK) (E:Ev X.K Hr O H σ δ) (k:ok (GS G Hr) (d2 h f g δ) (λd=>∀v H',aM H H'->Rep X.K O H' v d->Q v H')):tOp r ta tb σ H Q:=by
 refine ha δ O σ H _ E (au (ay k) λx kx v H1 s1 rx=>?_)
 refine hb δ O σ H1 _ (E.same s1) (au (ay kx) λy ky u H2 s2 ry=>?_)
 obtain⟨d,hd,kd⟩:=cq ky
 exact ho O H2 x y d v u Q (E.same (s1.trans s2)).oo (rx.same s2) ry hd λv' H3 s3 r3=>kd v' H3 ((s1.trans s2).trans s3) r3
theorem aC{op:Operator}{h:D->D->Option D}(ho:DOp X (binaryOp op) h)(ha:PD X G a f)(hb:PD X G b g):PD X G (.BinOp a op b pos) (d2 h f g):=by
 obtain⟨r,hr,ho⟩:=ho
 obtain⟨ta,pa,ha⟩:=ha
 obtain⟨tb,pb,hb⟩:=hb
 exact⟨_,pe_op hr pa pb,tN ho ha hb⟩
theorem fH{op:CmpOp}{h:D->D->Option D}(ho:DOp X (compareOp op) h)(ha:PD X G a f)(hb:PD X G b g)(hm:behindInMarks op b=false):PD X G (.Compare a [op] [b] pos) (d2 h f g):=by
 obtain⟨r,hr,ho⟩:=ho
 obtain⟨ta,pa,ha⟩:=ha
 obtain⟨tb,pb,hb⟩:=hb
 exact⟨_,yn hr pa pb hm,tN ho ha hb⟩
noncomputable def dB(f:DS->M D):DS->M Bool:=λδ=>(f δ).thn λd=>match d with
 | .bool b=>M.ret b
 | _=>none
theorem qx{Hr:Hp}{δ:DS}{k:Bool->Prop}(q:ok (GS G Hr) (dB f δ) k):ok (GS G Hr) (f δ) (λd=>∃b,d=.bool b/\k b):=by
 refine au (ay q) λd z=>?_
 cases d with
 | bool b=>exact⟨b,rfl,z⟩
 | _=>exact z.elim
theorem aL{op:CmpOp}{h:D->D->Option D}(ho:DOp X (compareOp op) h)(ha:PD X G a f)(hb:PD X G b g)(hm:behindInMarks op b=false):PDT X G (.Compare a [op] [b] pos) (dB (d2 h f g)):=by
 obtain⟨r,hr,ho⟩:=ho
 obtain⟨ta,pa,ha⟩:=ha
 obtain⟨tb,pb,hb⟩:=hb
 refine⟨_,yj hr pa pb hm,λδ O σ H Q E k=>?_⟩
 refine tN ho ha hb δ O σ H _ E (au (qx k) λd z v H' s r=>?_)
 obtain⟨b,rfl,z⟩:=z
 exact⟨b,r.bool_inv,z H' s⟩
theorem cS(he:PD X G e f)(h1:∀whole,isTrue e X.env whole=(do let v <- whole;standAt e.pos;holding [v] (truthy v)):=by intro _;rfl):PDT X G e (dB f):=by
 obtain⟨t,p,he⟩:=he
 refine⟨_,pt_val p h1,λδ O σ H Q E k=>?_⟩
 refine he δ O σ H _ E (au (qx k) λd z v H' s r=>?_)
 obtain⟨b,rfl,z⟩:=z
 exact⟨b,r.bool_inv,z H' s⟩
noncomputable def jy(fb gb:DS->M Bool):DS->M Bool:=λδ=>(fb δ).thn λc=>if c=true then gb δ else M.ret false
noncomputable def dOr(fb gb:DS->M Bool):DS->M Bool:=λδ=>(fb δ).thn λc=>if c=true then M.ret true else gb δ
noncomputable def kq(fb:DS->M Bool):DS->M Bool:=λδ=>(fb δ).thn λc=>M.ret (!c)
theorem gA(ha:PDT X G a fb):PDW X G (.BoolOp .And [a] pos) fb:=by
 obtain⟨t,p,ha⟩:=ha
 exact⟨_,Do p,ha⟩
theorem o9(ha:PDT X G a fb):PDW X G (.BoolOp .Or [a] pos) fb:=by
 obtain⟨t,p,ha⟩:=ha
 exact⟨_,AR p,ha⟩
theorem gX(ha:PDT X G a fb)(hb:PDW X G (.BoolOp .And (b::rest) pos) gb):PDW X G (.BoolOp .And (a::b::rest) pos) (jy fb gb):=by
 obtain⟨t,p,ha⟩:=ha
 obtain⟨u,q,hb⟩:=hb
 refine⟨_,pw_and p q,λδ O σ H Q E k=>?_⟩
 refine ha δ O σ H _ E (au (ay k) λc z H1 s1=>?_)
 cases c with
 | true =>
  exact hb δ O σ H1 Q (E.same s1) (au z λb y H2 s2=>y H2 (s1.trans s2))
 | false =>
  exact z H1 s1
theorem qm(ha:PDT X G a fb)(hb:PDW X G (.BoolOp .Or (b::rest) pos) gb):PDW X G (.BoolOp .Or (a::b::rest) pos) (dOr fb gb):=by
 obtain⟨t,p,ha⟩:=ha
 obtain⟨u,q,hb⟩:=hb
 refine⟨_,pw_or p q,λδ O σ H Q E k=>?_⟩
 refine ha δ O σ H _ E (au (ay k) λc z H1 s1=>?_)
 cases c with
 | true =>
  exact z H1 s1
 | false =>
  exact hb δ O σ H1 Q (E.same s1) (au z λb y H2 s2=>y H2 (s1.trans s2))
theorem PDW.t(h:PDW X G e fb):PDT X G e fb:=by
 obtain⟨t,p,h⟩:=h
 exact⟨_,p.pt,h⟩
theorem dH(ha:PDT X G a fb):PDT X G (.UnaryOp .Not a pos) (kq fb):=by
 obtain⟨t,p,ha⟩:=ha
 refine⟨_,pt_not p,λδ O σ H Q E k=>?_⟩
 exact ha δ O σ H _ E (au (ay k) λc z H1 s1=>z H1 s1)
noncomputable def fz(f g:DS->M D):DS->M D:=λδ=>(dB f δ).thn λc=>if c=true then g δ else M.ret (.bool false)
noncomputable def dOrV(f g:DS->M D):DS->M D:=λδ=>(dB f δ).thn λc=>if c=true then M.ret (.bool true) else g δ
noncomputable def dNotV(f:DS->M D):DS->M D:=λδ=>(dB f δ).thn λc=>M.ret (.bool (!c))
theorem gN{op}(ha:PD X G a f):PD X G (.BoolOp op [a] pos) f:=by
 assumption
theorem fZ(ha:PD X G a f)(hb:PD X G (.BoolOp .And (b::rest) pos) g):PD X G (.BoolOp .And (a::b::rest) pos) (fz f g):=by
 obtain⟨t,p,ha⟩:=ha
 obtain⟨u,q,hb⟩:=hb
 refine⟨_,pe_and p q,λδ O σ H Q E k=>?_⟩
 refine ha δ O σ H _ E (au (qx (ay k)) λd z v H1 s1 r=>?_)
 obtain⟨c,rfl,z⟩:=z
 refine⟨c,r.bool_inv,?_⟩
 cases c with
 | true =>
  exact hb δ O σ H1 Q (E.same s1) (au z λb y v H2 s2=>y v H2 (s1.trans s2))
 | false =>
  exact z _ H1 s1 (.bl false)
theorem pd_or(ha:PD X G a f)(hb:PD X G (.BoolOp .Or (b::rest) pos) g):PD X G (.BoolOp .Or (a::b::rest) pos) (dOrV f g):=by
 obtain⟨t,p,ha⟩:=ha
 obtain⟨u,q,hb⟩:=hb
 refine⟨_,pe_or p q,λδ O σ H Q E k=>?_⟩
 refine ha δ O σ H _ E (au (qx (ay k)) λd z v H1 s1 r=>?_)
 obtain⟨c,rfl,z⟩:=z
 refine⟨c,r.bool_inv,?_⟩
 cases c with
 | true =>
  exact z _ H1 s1 (.bl true)
 | false =>
  exact hb δ O σ H1 Q (E.same s1) (au z λb y v H2 s2=>y v H2 (s1.trans s2))
theorem pd_not(ha:PD X G a f):PD X G (.UnaryOp .Not a pos) (dNotV f):=by
 obtain⟨t,p,ha⟩:=ha
 refine⟨_,pe_not p,λδ O σ H Q E k=>?_⟩
 refine ha δ O σ H _ E (au (qx (ay k)) λd z v H1 s1 r=>?_)
 obtain⟨c,rfl,z⟩:=z
 exact⟨c,r.bool_inv,z _ H1 s1 (.bl _)⟩
noncomputable def dIf(c:DS->M Bool)(f g:DS->M D):DS->M D:=λδ=>(c δ).thn λb=>if b=true then f δ else g δ
theorem pd_if(hc:PDT X G c fb)(ha:PD X G a f)(hb:PD X G b g):PD X G (.IfExp c a b pos) (dIf fb f g):=by
 obtain⟨t,p,hc⟩:=hc
 obtain⟨ta,pa,ha⟩:=ha
 obtain⟨tb,pb,hb⟩:=hb
 refine⟨_,Bb p pa pb,λδ O σ H Q E k=>?_⟩
 refine hc δ O σ H _ E (au (ay k) λd z H1 s1=>?_)
 cases d with
 | true =>
  exact ha δ O σ H1 Q (E.same s1) (au z λb y v H2 s2=>y v H2 (s1.trans s2))
 | false =>
  exact hb δ O σ H1 Q (E.same s1) (au z λb y v H2 s2=>y v H2 (s1.trans s2))
noncomputable def ar:DS->M (List D):=λ_=>M.ret []
noncomputable def ag(f:DS->M D)(g:DS->M (List D)):DS->M (List D):=λδ=>(f δ).thn λx=>(g δ).thn λxs=>M.ret (x::xs)
theorem ai:PDA X G [] ar:=⟨λδ ds h=>by cases h;rfl,_,kK,λ_ _ _ H Q _ k=>k [] H (aM.refl H) .nil⟩
theorem aa(ha:PD X G e f)(hr:PDA X G es fa)(hs:starEach (e::es) X.env=(false,eval e X.env)::starEach es X.env:=by rfl):PDA X G (e::es) (ag f fa):=by
 obtain⟨t,p,ha⟩:=ha
 obtain⟨hl,u,q,hr⟩:=hr
 refine⟨λδ ds h=>?_,_,gZ p q hs,λδ O σ H Q E k=>?_⟩
 ·unfold ag at h
  cases e1:f δ with
  | none=>rw[e1] at h;cases h
  | some r =>
   rw[e1] at h
   cases r with
   | error x=>cases h
   | ok x =>
    cases e2:fa δ with
    | none=>rw[uR,e2] at h;cases h
    | some r2 =>
     rw[uR,e2] at h
     cases r2 with
     | error x=>cases h
     | ok xs =>
      cases h
      grind
 ·refine ha δ O σ H _ E (au (ay k) λd z v H1 s1 r=>?_)
  refine hr δ O σ H1 _ (E.same s1) (au (ay z) λds y vs H2 s2 rs=>?_)
  exact y (v::vs) H2 (s1.trans s2) (.cons (r.same s2) rs)
noncomputable def bi(n:Nat):Bool:=decide (n<=16000000)
theorem bQ{n:Nat}(h:bi n=true):n<=sizeLine:=by
 have:=of_decide_eq_true h
 rw[sizeLine_eq]
 omega
noncomputable def d9(fa:DS->M (List D)):DS->M D:=λδ=>(fa δ).thn λds=>if bi ds.length then M.ret (.tuple ds) else none
noncomputable def kr(fa:DS->M (List D)):DS->M D:=λδ=>(fa δ).thn λds=>if bi ds.length then M.ret (.list ds) else none
theorem jo{K:ε}{O:List Addr}{H:Hp}{p:Addr}{vs:List V}{ds:List D}(hp:H p=none)(r:Reps K O H vs ds):Rep K O (upd H p (.tup vs)) (.ref p) (.tuple ds) :=
 .tup (SqT.of aN) (r.same (bu hp))
theorem cc{x1}(h:PDA X G es fa):PD X G (.Tuple es x1 pos) (d9 fa):=by
 obtain⟨_,t,p,h⟩:=h
 refine⟨_,pe_tup p,λδ O σ H Q E k=>?_⟩
 refine h δ O σ H _ E (au (ay k) λds z vs H1 s1 rs=>?_)
 by_cases hz:bi ds.length=true
 ·rw[if_pos hz] at z
  exact⟨by rw[rs.length];exact bQ hz,λp hp=>z _ _ (s1.trans (bu hp)) (jo hp rs)⟩
 ·rw[if_neg hz] at z
  exact z.elim
end
end DL
namespace DL
open PyProof.Rows L2
section
variable{X:Cx}{G:XD->Hp->Prop}{a b c e:Expr}{es rest:List Expr}{f g h:DS->M D}{fb gb:DS->M Bool}{fa:DS->M (List D)}{pos:Pos}
noncomputable def ii(h:Int->Int->Option D):D->D->Option D
 | .int i,.int j=>h i j
 | _,_=>none
theorem yC{h:Int->Int->Option D}{x y d:D}(e:ii h x y=some d):∃i j,x=.int i/\y=.int j/\h i j=some d:=by
 unfold ii at e
 grind
theorem ut{sem:Value->Value->Sem Value}{g:Int->Int->V}{gd:Int->Int->D}(h:OpR X sem (rI0 g))(hg:∀O H i j,Rep X.K O H (g i j) (gd i j)):DOp X sem (ii λi j=>some (gd i j)):=by
 refine⟨_,h,λO H x y d v u Q oo rx ry e k=>?_⟩
 obtain⟨i,j,rfl,rfl,e⟩:=yC e
 cases e
 exact⟨i,j,rx.int_inv,ry.int_inv,k _ H (aM.refl H) (hg O H i j)⟩
theorem ur{sem:Value->Value->Sem Value}{C:Int->Int->Prop}{B:Int->Int->Bool}{g:Int->Int->V}{gd:Int->Int->D}(h:OpR X sem (rI C g))(hC:∀i j,B i j=true->C i j)(hg:∀O H i j,Rep X.K O H (g i j) (gd i j)) :
  DOp X sem (ii λi j=>if B i j=true then some (gd i j) else none):=by
 refine⟨_,h,λO H x y d v u Q oo rx ry e k=>?_⟩
 obtain⟨i,j,rfl,rfl,e1⟩:=yC e
 by_cases hb:B i j=true
 ·rw[if_pos hb] at e1
  cases e1
  exact⟨i,j,rx.int_inv,ry.int_inv,hC i j hb,k _ H (aM.refl H) (hg O H i j)⟩
 simp_all
abbrev ml:D->D->Option D:=ii λi j=>some (.int (i-j))
noncomputable def CL(i j:Int):Bool:=decide ((-18446744073709551616<i/\i<18446744073709551616)\/(-18446744073709551616<j/\j<18446744073709551616))
abbrev kn:D->D->Option D:=ii λi j=>if CL i j=true then some (.int (i*j)) else none
noncomputable def bDiv(j:Int):Bool:=decide (0<j/\j<1267650600228229401496703205376)
abbrev Bw:D->D->Option D:=ii λi j=>if bDiv j=true then some (.int (i / j)) else none
abbrev gc:D->D->Option D:=ii λi j=>if decide (0<j)=true then some (.int (i % j)) else none
noncomputable def bPow(i j:Int):Bool:=decide (0<=j/\j<=1000000/\i.natAbs<18446744073709551616)
abbrev DX:D->D->Option D:=ii λi j=>if bPow i j=true then some (.int (i ^ j.toNat)) else none
theorem hU:DOp X (binaryOp .Sub) ml:=ut op_sub λ_ _ _ _=>.int _
theorem fR:DOp X (binaryOp .Mult) kn:=ur op_mul (λi j h=>by
 have h:=of_decide_eq_true h
 assumption) λ_ _ _ _=>.int _
theorem vM{j:Int}(h:0<j/\j<1267650600228229401496703205376):j.natAbs.log2<9000:=by
 have h2:j.natAbs<2 ^ 100:=by
  omega
 exact Nat.lt_trans ((Nat.log2_lt (by omega)).mpr h2) (by decide)
theorem Bm:OpR X (binaryOp .FloorDiv) (rI (λ_ j=>0<j/\j<1267650600228229401496703205376) λi j=>.int (i / j)):=opI λi j _ _ _ _ _ hc q=>by
 rw[<-Int.fdiv_eq_ediv_of_nonneg _ (Int.le_of_lt hc.1)] at q
 exact floordiv_int (by omega) q (.inl (PyProof.noPylong_of_log2 (vM hc)))
theorem uq:DOp X (binaryOp .FloorDiv) Bw:=ur Bm (λi j h=>of_decide_eq_true h) λ_ _ _ _=>.int _
theorem cf:DOp X (binaryOp .Mod) gc:=ur op_mod (λi j h=>of_decide_eq_true h) λ_ _ _ _=>.int _
theorem yV:DOp X (binaryOp .Pow) DX:=ur op_pow (λi j h=>by
 have h:=of_decide_eq_true h
 assumption) λ_ _ _ _=>.int _
abbrev oLt:D->D->Option D:=ii λi j=>some (.bool (decide (i<j)))
abbrev oGt:D->D->Option D:=ii λi j=>some (.bool (decide (j<i)))
abbrev oGe:D->D->Option D:=ii λi j=>some (.bool (decide (j<=i)))
theorem lc:DOp X (compareOp .Lt) oLt:=ut op_lt λ_ _ _ _=>.bl _
theorem rc:DOp X (compareOp .Gt) oGt:=ut op_gt λ_ _ _ _=>.bl _
theorem dop_ge:DOp X (compareOp .GtE) oGe:=ut op_ge λ_ _ _ _=>.bl _
theorem nin{O:List Addr}{H:Hp}(oo:∀l∈O,Mu H l){p:Addr}(hp:H p=none):p∉O:=λz=>by
 obtain⟨o,ho⟩:=(oo p z).some
 simp_all
theorem ie{K:ε}{O:List Addr}{H:Hp}{p:Addr}{vs:List V}{ds:List D}(oo:∀l∈O,Mu H l)(hp:H p=none)(r:Reps K O H vs ds):Rep K O (upd H p (.lst vs)) (.ref p) (.list ds) :=
 .lst (.inl aN) (nin oo hp) (r.same (bu hp))
theorem DP:OpR X (binaryOp .Add) (λx y H Q=>∃a b ys,x=.ref a/\y=.ref b/\SqT X.K H a []/\SqT X.K H b ys/\Q (.ref b) H):=by
 intro pins s σ H x y v u Q I rx ry h
 obtain⟨a,b,ys,rfl,rfl,ha,hb,q⟩:=h
 cases rx
 cases ry
 obtain⟨its,r1,p1,_⟩:=I.tuple ha
 obtain⟨its2,r2,p2,_⟩:=I.tuple hb
 cases r1
 obtain⟨⟨cls,dd,data,sl⟩,ho,hc,n,hd⟩:=id p1
 obtain⟨⟨cls2,dd2,data2,sl2⟩,ho2,hc2,n2,hd2⟩:=id p2
 subst hc hd hc2 hd2
 exact concat_meets ⟨_,ho,rfl⟩ ⟨_,ho2,rfl⟩ noFill_tuple_add seq_tuple_add PySem.F.slot_tuple_add PySem.F.entry_tuple_add (PySem.F.args_tuple_add_2 _ _)
  (tuple_addW0 a b _ its2.toArray n n2 dd dd2 sl sl2 rfl) ⟨ho,ho2,⟨.ref b,H,I,rfl,q⟩⟩
theorem yt:OpR X (binaryOp .Add) (λx y H Q=>∃l b xs zs,x=.ref l/\y=.ref b/\SqL X.K H l xs/\SqL X.K H b zs/\xs.length+zs.length<=sizeLine/\∀p,H p=none->Q (.ref p) (upd H p (.lst (xs++zs)))):=by
 intro pins s σ H x y v u Q I rx ry h
 obtain⟨l,b,xs,zs,rfl,rfl,hH,hB,hz,q⟩:=h
 cases rx
 cases ry
 obtain⟨its,r,⟨⟨cls,dd,data,sl⟩,n,e,hc,hdd,hd⟩,z⟩:=I.list hH
 obtain⟨its2,r2,⟨⟨cls2,dd2,data2,sl2⟩,n2,e2,hc2,hdd2,hd2⟩,z2⟩:=I.list hB
 have hl:=r.length
 have hl2:=r2.length
 subst hc hd hc2 hd2 hdd hdd2
 have ea:its.toArray++its2.toArray=(its++its2).toArray:=by simp
 refine concat_meets ⟨_,e,rfl⟩ ⟨_,e2,rfl⟩ noFill_list_add seq_list_add PySem.F.slot_list_add PySem.F.entry_list_add (PySem.F.args_list_add_2 _ _) (list_addW l b its.toArray its2.toArray n n2 none none sl sl2 (by simp_all)) ⟨e,e2,?_⟩
 rw[ea]
 exact⟨.ref _,_,I.lnew (r.append r2) (by simp_all),rfl,q _ I.fresh⟩
noncomputable def bm:D->D->Option D
 | .int i,.int j=>some (.int (i+j))
 | .str i,.str j=>if bi (i.length+j.length) then some (.str (i++j)) else none
 | .tuple xs,.tuple ys=>if bi (xs.length+ys.length) then some (.tuple (xs++ys)) else none
 | .list xs,.list ys=>if bi (xs.length+ys.length) then some (.list (xs++ys)) else none
 | _,_=>none
theorem aF:DOp X (binaryOp .Add) bm:=by
 refine⟨_,op_add.or (w4.or (DO.or (DP.or yt))),λO H x y d v u Q oo rx ry e k=>?_⟩
 unfold bm at e
 split at e
 ·rename_i i j
  cases e
  exact .inl ⟨i,j,rx.int_inv,ry.int_inv,k _ H (aM.refl H) (.int _)⟩
 ·rename_i i j
  by_cases hz:bi (i.length+j.length)=true
  ·rw[if_pos hz] at e
   cases e
   exact .inr (.inl ⟨i,j,rx.str_inv,ry.str_inv,bQ hz,k _ H (aM.refl H) (.str _)⟩)
  simp_all
 ·rename_i xs ys
  by_cases hz:bi (xs.length+ys.length)=true
  ·rw[if_pos hz] at e
   cases e
   obtain⟨p,vs,rfl,h1,r1⟩:=rx.tup_inv
   obtain⟨q,ws,rfl,h2,r2⟩:=ry.tup_inv
   by_cases hx:xs=[]
   ·subst hx
    cases r1
    exact .inr (.inr (.inr (.inl ⟨p,q,ws,rfl,rfl,h1,h2,k _ H (aM.refl H) (.tup h2 r2)⟩)))
   ·refine .inr (.inr (.inl ⟨p,q,vs,ws,rfl,rfl,h1,h2,λz=>?_,by rw[r1.length,r2.length];exact bQ hz,λz=>?_,λz l hl=>?_⟩))
    ·subst z
     cases r1
     simp_all
    ·subst z
     have z2:=r2
     cases z2
     refine k _ H (aM.refl H) ?_
     simp_all
    ·exact k _ _ (bu hl) (jo hl (r1.append r2))
  simp_all
 ·rename_i xs ys
  by_cases hz:bi (xs.length+ys.length)=true
  ·rw[if_pos hz] at e
   cases e
   obtain⟨p,vs,rfl,h1,r1⟩:=rx.lst_inv
   obtain⟨q,ws,rfl,h2,r2⟩:=ry.lst_inv
   exact .inr (.inr (.inr (.inr ⟨p,q,vs,ws,rfl,rfl,h1,h2,by rw[r1.length,r2.length];exact bQ hz,λl hl=>k _ _ (bu hl) (ie oo hl (r1.append r2))⟩)))
  simp_all
 simp_all
mutual
theorem Rep.reads{pins:List (Addr×Obj)}{σ:St}{H:Hp}{s:Shared}{O:List Addr}(I:Inv X pins σ H s):∀{v:V} {d:D} {u:Value},d.canLay0=true->Rep X.K O H v d->bW v u->∃as,Reads s.heap u d as
 | _,_,u,_,.non,q=>by cases (show u=Value.none from q);exact⟨_,.none⟩
 | _,_,u,_,.bl b,q=>by cases (show u=Value.bool b from q);exact⟨_,.bool b⟩
 | _,_,u,_,.int i,q=>by obtain⟨t,rfl⟩:=(show ∃t,u=Value.int i t from q);exact⟨_,.int i t⟩
 | _,_,u,_,.str x,q=>by obtain⟨t,rfl⟩:=(show ∃t,u=Value.str x t from q);exact⟨_,.str x t⟩
 | .ref a,_,u,hc,.tup h r,q=>by
  cases (show u=Value.ref a from q)
  obtain⟨its,rv,⟨o,h1,h2,n,h3⟩,_⟩:=I.tuple h
  obtain⟨as,ra⟩:=Reps.reads I (by simpa [W7] using hc) r rv
  exact⟨_,.tuple h1 h2 h3 ra⟩
 | .ref a,_,u,hc,.lst h n r,q=>by
  cases (show u=Value.ref a from q)
  obtain⟨its,rv,⟨o,n,h1,h2,_,h3⟩,_⟩:=I.list (.inl h)
  obtain⟨as,ra⟩:=Reps.reads I (by simpa [W7] using hc) r rv
  exact⟨_,.list h1 h2 h3 ra⟩
 | .ref a,_,u,hc,.lstK h r,q=>by
  cases (show u=Value.ref a from q)
  obtain⟨its,rv,⟨o,n,h1,h2,_,h3⟩,_⟩:=I.list (.inr h)
  obtain⟨as,ra⟩:=Reps.reads I (by simpa [W7] using hc) r rv
  exact⟨_,.list h1 h2 h3 ra⟩
 | .ref a,_,u,hc,.dct _ _ _ _,q=>by simp [W7] at hc
 | .ref a,_,u,hc,.ins _ _ _ _ _,q=>by simp [W7,gP] at hc
theorem Reps.reads{pins:List (Addr×Obj)}{σ:St}{H:Hp}{s:Shared}{O:List Addr}(I:Inv X pins σ H s):∀{vs:List V} {ds:List D} {us:List Value},PyData.canLayAll0 ds=true->Reps X.K O H vs ds->bD vs us->∃as,ReadsAll s.heap us ds as
 | _,_,_,_,.nil,q=>by cases q;exact⟨_,.nil⟩
 | _,_,_,hc,.cons r rs,q=>by
  rw[PyData.canLayAll0,Y0] at hc
  cases q with
  | cons p ps =>
   obtain⟨as,h1⟩:=Rep.reads I hc.1 r p
   obtain⟨bs,h2⟩:=Reps.reads I hc.2 rs ps
   exact⟨_,.cons h1 h2⟩
end
noncomputable def flat(x y:D):Bool:=x.canLay0&&y.canLay0&&decide (min x.depth y.depth<=60)
noncomputable def oEq(x y:D):Option D:=if flat x y=true then some (.bool (PyData.eqv x y)) else none
noncomputable def oNe(x y:D):Option D:=if flat x y=true then some (.bool (!PyData.eqv x y)) else none
noncomputable def rDat(X:Cx)(p:D->D->Bool):R2:=λv u H Q=>∃O x y,Rep X.K O H v x/\Rep X.K O H u y/\flat x y=true/\Q (.bl (p x y)) H
theorem yL{x y:D}(h:flat x y=true):x.canLay0=true/\y.canLay0=true/\min x.depth y.depth<=60:=by
 unfold flat at h
 simp_all
theorem op_eqD(hu:X.A.units+64<cLine):OpR X (compareOp .Eq) (rDat X PyData.eqv):=by
 intro pins s σ H v u v' u' Q I rv ru h
 obtain⟨O,x,y,rx,ry,hf,q⟩:=h
 obtain⟨h1,h2,h3⟩:=yL hf
 obtain⟨as,r1⟩:=rx.reads I h1 rv
 obtain⟨bs,r2⟩:=ry.reads I h2 ru
 exact SeqAt.compareEq_reads r1 r2 h1 h2 (by omega) ⟨.bl _,H,I,rfl,q⟩
theorem op_neD(hu:X.A.units+64<cLine):OpR X (compareOp .NotEq) (rDat X λx y=>!PyData.eqv x y):=by
 intro pins s σ H v u v' u' Q I rv ru h
 obtain⟨O,x,y,rx,ry,hf,q⟩:=h
 obtain⟨h1,h2,h3⟩:=yL hf
 obtain⟨as,r1⟩:=rx.reads I h1 rv
 obtain⟨bs,r2⟩:=ry.reads I h2 ru
 exact SeqAt.compareNe_reads r1 r2 h1 h2 (by omega) ⟨.bl _,H,I,rfl,q⟩
theorem bO(hu:X.A.units+64<cLine):DOp X (compareOp .Eq) oEq:=by
 refine⟨_,op_eqD hu,λO H x y d v u Q oo rx ry e k=>?_⟩
 unfold oEq at e
 by_cases hf:flat x y=true
 ·rw[if_pos hf] at e
  cases e
  exact⟨O,x,y,rx,ry,hf,k _ H (aM.refl H) (.bl _)⟩
 simp_all
theorem fQ(hu:X.A.units+64<cLine):DOp X (compareOp .NotEq) oNe:=by
 refine⟨_,op_neD hu,λO H x y d v u Q oo rx ry e k=>?_⟩
 unfold oNe at e
 by_cases hf:flat x y=true
 ·rw[if_pos hf] at e
  cases e
  exact⟨O,x,y,rx,ry,hf,k _ H (aM.refl H) (.bl _)⟩
 simp_all
noncomputable def oIx:D->D->Option D
 | .tuple ds,.int i=>L2.atI ds i
 | .list ds,.int i=>L2.atI ds i
 | .str z,.int i=>if bi z.length then (L2.atI z.cps.toList i).map (λc=>.str ⟨#[c]⟩) else none
 | _,_=>none
theorem aA(ha:PD X G a f)(hb:PD X G b g)(hs:zc b):PD X G (.Subscript a b pos) (d2 oIx f g):=by
 obtain⟨ta,pa,ha⟩:=ha
 obtain⟨tb,pb,hb⟩:=hb
 refine⟨_,pe_ix ix_seq pa pb hs,tN (λO H x y d v u Q oo rx ry e k=>?_) ha hb⟩
 unfold oIx at e
 split at e
 ·rename_i ds i
  obtain⟨p,vs,rfl,h1,r1⟩:=rx.tup_inv
  obtain⟨w,hw,rw'⟩:=r1.atI e
  exact .inr (.inl ⟨p,vs,i,w,rfl,ry.int_inv,h1,hw,k w H (aM.refl H) rw'⟩)
 ·rename_i ds i
  obtain⟨p,vs,rfl,h1,r1⟩:=rx.lst_inv
  obtain⟨w,hw,rw'⟩:=r1.atI e
  exact .inl ⟨p,vs,i,w,rfl,ry.int_inv,h1,hw,k w H (aM.refl H) rw'⟩
 ·rename_i z i
  by_cases hz:bi z.length=true
  ·rw[if_pos hz] at e
   cases e2:L2.atI z.cps.toList i with
   | none=>simp_all
   | some c =>
    rw[e2] at e
    cases e
    exact .inr (.inr ⟨z,i,c,rx.str_inv,ry.int_inv,bQ hz,e2,k _ H (aM.refl H) (.str _)⟩)
  simp_all
 simp_all
end
end DL
namespace DL
open PyProof.Rows L2
section
variable{X:Cx}{G:XD->Hp->Prop}{a b c e:Expr}{es rest:List Expr}{f g h:DS->M D}{fb gb:DS->M Bool}{fa:DS->M (List D)}{pos:Pos}
def PDO(X:Cx)(G:XD->Hp->Prop)(e:Option Expr)(f:DS->M (Option Int)):Prop :=
 ∃t,PO X e t/\∀{Hr:Hp} (δ:DS) (O:List Addr) (σ:St) (H:Hp) (Q:Option Int->Hp->Prop),Ev X.K Hr O H σ δ->ok (GS G Hr) (f δ) (λd=>∀H',aM H H'->Q d H')->t σ H Q
noncomputable def pG:DS->M (Option Int):=λ_=>M.ret none
noncomputable def rn(f:DS->M D):DS->M (Option Int):=λδ=>(f δ).thn λd=>match d with
 | .int i=>M.ret (some i)
 | _=>none
theorem vC:PDO X G none pG:=⟨_,Dy,λ_ _ _ H Q _ k=>k H (aM.refl H)⟩
theorem mT(he:PD X G e f):PDO X G (some e) (rn f):=by
 obtain⟨t,p,he⟩:=he
 refine⟨_,Dx p,λδ O σ H Q E k=>?_⟩
 refine he δ O σ H _ E (au (ay k) λd z v H1 s1 r=>?_)
 cases d with
 | int i=>exact⟨i,r.int_inv,z H1 s1⟩
 | _=>exact z.elim
noncomputable def ox{α:Type}(xs:List α)(lo hi:Option Int):List α:=(xs.drop (HT.sIx xs.length 0 lo)).take (HT.sIx xs.length xs.length hi-HT.sIx xs.length 0 lo)
theorem Reps.cut{K:ε}{O:List Addr}{H:Hp}{xs:List V}{ds:List D}(r:Reps K O H xs ds)(lo hi:Option Int):Reps K O H (Ae xs lo hi) (ox ds lo hi):=by
 unfold Ae ox
 rw[r.length]
 exact(r.drop _).take _
noncomputable def oCut(lo hi:Option Int):D->Option D
 | .list ds=>some (.list (ox ds lo hi))
 | .tuple ds=>if HT.sIx ds.length 0 lo=0/\HT.sIx ds.length ds.length hi=ds.length then none else some (.tuple (ox ds lo hi))
 | _=>none
variable{lo hi:Option Expr}{fl fh:DS->M (Option Int)}{p2:Pos}
theorem fk(h:PDA X G es fa):PD X G (.List es pos) (kr fa):=by
 obtain⟨_,t,p,h⟩:=h
 refine⟨_,A8 p,λδ O σ H Q E k=>?_⟩
 refine h δ O σ H _ E (au (ay k) λds z vs H1 s1 rs=>?_)
 by_cases hz:bi ds.length=true
 ·rw[if_pos hz] at z
  exact⟨by rw[rs.length];exact bQ hz,λp hp=>z _ _ (s1.trans (bu hp)) (ie (E.same s1).oo hp rs)⟩
 ·rw[if_neg hz] at z
  exact z.elim
def km(X:Cx)(fn:Value)(h:List D->Option D):Prop :=
 ∃r,eZ X fn r/\∀(O:List Addr) (H:Hp) (ds:List D) (d:D) (vs:List V) (Q:VK),(∀l∈O,Mu H l)->Reps X.K O H vs ds->h ds=some d->(∀v' H',aM H H'->Rep X.K O H' v' d->Q v' H')->r vs H Q
noncomputable def dCB(h:List D->Option D)(fa:DS->M (List D)):DS->M D:=λδ=>(fa δ).thn λds=>M.lift (h ds)
theorem aU{x:Str}{p:Pos}{id:String}{h:List D->Option D}(hc:km X (.builtin id) h)(hg:Gl X x)(hm:X.mg x=none)(hv:bootBuiltins x=some (.builtin id))(ha:PDA X G (e::es) fa)(hn:x ≠ "__name__" := by decide)(hdb:(x==("__debug__" : Str))=false:=by decide)
  (he:starEach (e::es) X.env=(false,eval e X.env)::starEach es X.env:=by rfl) (hpl:(backTo pos (starEach es X.env)).any (·.1)=false:=by rfl):PD X G (.Call (.Name x p) (e::es) [] pos) (dCB h fa):=by
 obtain⟨r,hr,hc⟩:=hc
 obtain⟨_,t,pa,ha⟩:=ha
 refine⟨_,ql hr hg hm hv pa hn hdb he hpl,λδ O σ H Q E k=>?_⟩
 refine ha δ O σ H _ E (au (ay k) λds z vs H1 s1 rs=>?_)
 obtain⟨d,hd,z⟩:=cq z
 exact hc O H1 ds d vs Q (E.same s1).oo rs hd λv' H2 s2 r2=>z v' H2 (s1.trans s2) r2
theorem bB{x:Str}{p:Pos}{id:String}{h:List D->Option D}(hc:km X (.type id) h)(hg:Gl X x)(hm:X.mg x=none)(hv:bootBuiltins x=some (.type id))(ha:PDA X G (e::es) fa)(hn:x ≠ "__name__" := by decide)(hdb:(x==("__debug__" : Str))=false:=by decide)
  (he:starEach (e::es) X.env=(false,eval e X.env)::starEach es X.env:=by rfl) (hpl:(backTo pos (starEach es X.env)).any (·.1)=false:=by rfl):PD X G (.Call (.Name x p) (e::es) [] pos) (dCB h fa):=by
 obtain⟨r,hr,hc⟩:=hc
 obtain⟨_,t,pa,ha⟩:=ha
 refine⟨_,si hr hg hm hv pa hn hdb he hpl,λδ O σ H Q E k=>?_⟩
 refine ha δ O σ H _ E (au (ay k) λds z vs H1 s1 rs=>?_)
 obtain⟨d,hd,z⟩:=cq z
 exact hc O H1 ds d vs Q (E.same s1).oo rs hd λv' H2 s2 r2=>z v' H2 (s1.trans s2) r2
theorem eS{K:ε}{O:List Addr}{H:Hp}{vs:List V}{d:D}(r:Reps K O H vs [d]):∃v,vs=[v]/\Rep K O H v d:=by
 cases r with
 | cons r rs=>cases rs;simp_all
theorem vo{K:ε}{O:List Addr}{H:Hp}{vs:List V}{d d':D}(r:Reps K O H vs [d,d']):∃v v',vs=[v,v']/\Rep K O H v d/\Rep K O H v' d':=by
 cases r with
 | cons r rs =>
  obtain⟨v',rfl,r'⟩:=eS rs
  grind
noncomputable def dI:List D->Option D
 | [.list ds]=>some (.int ds.length)
 | [.tuple ds]=>some (.int ds.length)
 | [.str z]=>if bi z.length then some (.int z.length) else none
 | _=>none
theorem bC:km X (.builtin "len") dI:=by
 refine⟨_,uE.or uD,λO H ds d vs Q oo rs e k=>?_⟩
 unfold dI at e
 split at e
 ·cases e
  obtain⟨v,rfl,r⟩:=eS rs
  obtain⟨p,xs,rfl,h1,rx⟩:=r.lst_inv
  refine .inl ⟨p,xs,rfl,.inl h1,k _ H (aM.refl H) ?_⟩
  rw[rx.length]
  exact .int _
 ·cases e
  obtain⟨v,rfl,r⟩:=eS rs
  obtain⟨p,xs,rfl,h1,rx⟩:=r.tup_inv
  refine .inl ⟨p,xs,rfl,.inr h1,k _ H (aM.refl H) ?_⟩
  rw[rx.length]
  exact .int _
 ·rename_i z
  by_cases hz:bi z.length=true
  ·rw[if_pos hz] at e
   cases e
   obtain⟨v,rfl,r⟩:=eS rs
   refine .inr ⟨z,by rw[r.str_inv],bQ hz,k _ H (aM.refl H) (.int _)⟩
  simp_all
 simp_all
noncomputable def DZ:List D->Option D
 | [.int i,.int j]=>some (.int (min i j))
 | _=>none
noncomputable def tV:List D->Option D
 | [.int i,.int j]=>some (.int (max i j))
 | _=>none
theorem Ab(hc:X.calm=true):km X (.builtin "min") DZ:=by
 refine⟨_,Ai hc,λO H ds d vs Q oo rs e k=>?_⟩
 unfold DZ at e
 split at e
 ·rename_i i j
  cases e
  obtain⟨v,v',rfl,r,r'⟩:=vo rs
  refine⟨i,j,by rw[r.int_inv,r'.int_inv],k _ H (aM.refl H) ?_⟩
  have:(if j<i then j else i)=min i j:=by
   omega
  rw[this]
  exact .int _
 simp_all
theorem jw(hc:X.calm=true):km X (.builtin "max") tV:=by
 refine⟨_,Aj hc,λO H ds d vs Q oo rs e k=>?_⟩
 unfold tV at e
 split at e
 ·rename_i i j
  cases e
  obtain⟨v,v',rfl,r,r'⟩:=vo rs
  refine⟨i,j,by rw[r.int_inv,r'.int_inv],k _ H (aM.refl H) ?_⟩
  have:(if j > i then j else i)=max i j:=by
   omega
  rw[this]
  exact .int _
 simp_all
noncomputable def tyD:D->String
 | .none => "NoneType"
 | .bool _ => "bool"
 | .int _ => "int"
 | .str _ => "str"
 | .list _ => "list"
 | .tuple _ => "tuple"
 | .dict _ => "dict"
noncomputable def isD(T:String)(d:D):Bool:=tyD d==T||(T == "int" && tyD d == "bool")
def oz(K:ε)(T:String):Prop:=∀d:D,PySem.W.kitOne K (.type (tyD d)) (.type T)=some (isD T d)
theorem Eg(K:ε):oz K "int" := λd=>by cases d<;>kernel_rfl
theorem BR(K:ε):oz K "bool" := λd=>by cases d<;>kernel_rfl
theorem m3(K:ε):oz K "str" := λd=>by cases d<;>kernel_rfl
theorem zO(K:ε):oz K "tuple" := λd=>by cases d<;>kernel_rfl
theorem wx{T:String}(hk:oz X.K T):eZ X (.builtin "isinstance") (λxs H Q=>∃v O d,xs=[v,.ty T]/\Rep X.K O H v d/\mY d=true/\Q (.bl (isD T d)) H):=by
 intro pins s σ H xs us Q I r h
 obtain⟨v,O,d,rfl,rd,hi,q⟩:=h
 obtain⟨u,w',rfl,r1,r2⟩:=xW r
 cases (show w'=Value.type T from r2)
 have fin:∀tk,EP X pins σ Q (.bool (isD T d)) { s with toks:=tk }:=λtk=>⟨.bl _,H,I.tok _,rfl,q⟩
 have e:=hk d
 cases rd with
 | non=>cases (show u=Value.none from r1);exact W9 PySem.W.kitx_none I.kIn True.intro e (λz=>nomatch z) fin
 | bl y=>cases (show u=Value.bool y from r1);exact W9 PySem.W.kitx_bool I.kIn True.intro e (λz=>nomatch z) fin
 | int i=>obtain⟨t,q⟩:=(show ∃t,u=Value.int i t from r1);cases q;exact W9 PySem.W.kitx_int I.kIn True.intro e (λz=>nomatch z) fin
 | str y=>obtain⟨t,q⟩:=(show ∃t,u=Value.str y t from r1);cases q;exact W9 PySem.W.kitx_str I.kIn True.intro e (λz=>nomatch z) fin
 | @tup a ys ds h rr =>
  cases (show u=Value.ref a from r1)
  obtain⟨its,rv,⟨o,h1,h2,_⟩,_⟩:=I.tuple h
  exact W9 PySem.W.kitx_tuple I.kIn ⟨o,h1,h2⟩ e (λz=>nomatch z) fin
 | @lst a ys ds h n rr =>
  cases (show u=Value.ref a from r1)
  obtain⟨its,rv,⟨o,n,h1,h2,_⟩,_⟩:=I.list (.inl h)
  exact W9 PySem.W.kitx_list I.kIn ⟨o,h1,h2⟩ e (λz=>nomatch z) fin
 | @lstK a ys ds h rr =>
  cases (show u=Value.ref a from r1)
  obtain⟨its,rv,⟨o,n,h1,h2,_⟩,_⟩:=I.list (.inr h)
  exact W9 PySem.W.kitx_list I.kIn ⟨o,h1,h2⟩ e (λz=>nomatch z) fin
 | @dct a kvs es h n hk rr =>
  cases (show u=Value.ref a from r1)
  obtain⟨_,_,_,_,o,_,_,h1,h2,_⟩:=h.ok I.hok
  exact W9 PySem.W.kitx_dict I.kIn ⟨o,h1,h2.1⟩ e (λz=>nomatch z) fin
 | ins hN h n hk rr=>cases hi
noncomputable def dIs(T:String)(f:DS->M D):DS->M D:=λδ=>(f δ).thn λd=>if mY d=true then M.ret (.bool (isD T d)) else none
theorem fq{T:String}{x y:Str}{p p2:Pos}(hx:x = "isinstance")(hk:oz X.K T)(hg:Gl X x)(hm:X.mg x=none)(hg2:Gl X y)(hm2:X.mg y=none)(hb2:bootBuiltins y=some (.type T))(he:PD X G e f)
  (hn2:y ≠ "__name__" := by decide) (hd2:(y==("__debug__" : Str))=false:=by decide)
  (hs1:starEach [e,.Name y p2] X.env=(false,eval e X.env)::starEach [.Name y p2] X.env:=by rfl) (hs2:starEach [.Name y p2] X.env=(false,eval (.Name y p2) X.env)::starEach [] X.env:=by rfl)
  (hpl:(backTo pos (starEach [.Name y p2] X.env)).any (·.1)=false:=by rfl):PD X G (.Call (.Name x p) [e,.Name y p2] [] pos) (dIs T f):=by
 subst hx
 obtain⟨t,pe,he⟩:=he
 refine⟨_,ql (wx hk) hg hm boot_isinstance (gZ pe (gZ (DD (v:=.ty T) hg2 hm2 hb2 rfl hn2 hd2) kK hs2) hs1) (by decide) (by decide) hs1 hpl,λδ O σ H Q E k=>?_⟩
 refine he δ O σ H _ E (au (ay k) λd z v H1 s1 r=>?_)
 by_cases hi:mY d=true
 ·rw[if_pos hi] at z
  exact⟨v,O,d,rfl,r,hi,z _ H1 s1 (.bl _)⟩
 ·rw[if_neg hi] at z
  exact z.elim
end
end DL
namespace DL
open PyProof.Rows L2
noncomputable def d1(h:D->Option D)(f:DS->M D):DS->M D:=λδ=>(f δ).thn λx=>M.lift (h x)
noncomputable def xc:D->Option D
 | .int i=>some (.int (-i))
 | _=>none
theorem qo{X:Cx}{G:XD->Hp->Prop}{a:Expr}{f:DS->M D}{pos:Pos}(ha:PD X G a f):PD X G (.UnaryOp .USub a pos) (d1 xc f):=by
 obtain⟨t,p,ha⟩:=ha
 refine⟨_,pe_un un_neg p,λδ O σ H Q E k=>?_⟩
 refine ha δ O σ H _ E (au (ay k) λd z v H1 s1 r=>?_)
 obtain⟨y,hy,z⟩:=cq z
 cases d with
 | int i=>exact⟨i,r.int_inv,z _ H1 s1 (.int _)⟩
 | _=>cases hy
inductive Out where
 | nx (δ:DS)
 | rt (d:D)
 | bk (δ:DS)
 | ct (δ:DS)
structure EI(K:ε)(Hr:Hp)(R0:List Addr)(P0:Addr->Prop)(H0:Hp)(O:List Addr)(H:Hp)(σ:St)(δ:DS):Prop where
 ev:Ev K Hr O H σ δ
 omr:∀l∈O,l∈R0\/Hr l=none
 keep:∀b o,¬P0 b->H0 b=some o->H b=some o
 om:∀l∈O,l∈R0\/P0 l\/H0 l=none
 nr1:∀(i:Nat) (s:Sl) (l:Addr),δ[i]?=some s->s.own->σ[i]?=some (some (.ref l))->l∉R0
 sub:∀l∈R0,l∈O
theorem EI.nr{K:ε}{Hr:Hp}{R0:List Addr}{P0:Addr->Prop}{H0:Hp}{O:List Addr}{H:Hp}{σ:St}{δ:DS}(E:EI K Hr R0 P0 H0 O H σ δ):∀(i:Nat) (ds:List D) (l:Addr),δ[i]?=some (.ow ds)->σ[i]?=some (some (.ref l))->l∉R0:=λi ds l h1 h2=>E.nr1 i _ l h1 trivial h2
def Fin(K:ε)(Hr:Hp)(R0:List Addr)(P0:Addr->Prop)(H0:Hp)(Dn:Ends):Out->Prop
 | .nx δ=>∀O σ H,EI K Hr R0 P0 H0 O H σ δ->Dn.nx σ H
 | .rt d=>∀v H,(∀b o,¬P0 b->H0 b=some o->H b=some o)->Rep K R0 H v d->Dn.rt v H
 | .bk δ=>∀O σ H,EI K Hr R0 P0 H0 O H σ δ->Dn.bk σ H
 | .ct δ=>∀O σ H,EI K Hr R0 P0 H0 O H σ δ->Dn.ct σ H
def PDS(X:Cx)(G:XD->Hp->Prop)(st:Stmt)(g:DS->M Out):Prop :=
 ∃t,PS X st t/\∀{Hr:Hp} (R0:List Addr) (P0:Addr->Prop) (H0:Hp) (δ:DS) (O:List Addr) (σ:St) (H:Hp) (Dn:Ends),EI X.K Hr R0 P0 H0 O H σ δ->ok (GS G Hr) (g δ) (Fin X.K Hr R0 P0 H0 Dn)->t Dn σ H
def nH(X:Cx)(G:XD->Hp->Prop)(st:List Stmt)(g:DS->M Out):Prop :=
 ∃t,PSs X st t/\∀{Hr:Hp} (R0:List Addr) (P0:Addr->Prop) (H0:Hp) (δ:DS) (O:List Addr) (σ:St) (H:Hp) (Dn:Ends),EI X.K Hr R0 P0 H0 O H σ δ->ok (GS G Hr) (g δ) (Fin X.K Hr R0 P0 H0 Dn)->t Dn σ H
section
variable{X:Cx}{G:XD->Hp->Prop}{a b c e:Expr}{es rest:List Expr}{f g h:DS->M D}{fb gb:DS->M Bool}{fa:DS->M (List D)}{pos:Pos}{st:Stmt}{sts st1 st2:List Stmt}{gs gt gu:DS->M Out}
variable{K:ε}{Hr:Hp}{R0:List Addr}{P0:Addr->Prop}{H0 H H':Hp}{O:List Addr}{σ:St}{δ:DS}
theorem EI.same(E:EI K Hr R0 P0 H0 O H σ δ)(s:aM H H'):EI K Hr R0 P0 H0 O H' σ δ:=⟨E.ev.same s,E.omr,λb o n h=>s _ _ (E.keep b o n h),E.om,E.nr1,E.sub⟩
theorem EI.set{i:Nat}{v:V}{d:D}(E:EI K Hr R0 P0 H0 O H σ δ)(r:Rep K O H v d):EI K Hr R0 P0 H0 O H (σ.set i (some v)) (δ.set i (.vl d)):=by
 refine⟨E.ev.set r,E.omr,E.keep,E.om,λj ds l h1 ho h2=>?_,E.sub⟩
 rw[bM] at h1 h2
 by_cases hij:i=j
 ·rw[if_pos hij] at h1
  split at h1
  ·cases h1;exact ho.elim
  simp_all
 ·rw[if_neg hij] at h1 h2
  exact E.nr1 j ds l h1 ho h2
theorem EI.less(E:EI K Hr R0 P0 H0 O H σ δ){v:V}{d:D}(r:Rep K O H v d):Rep K R0 H v d:=r.to (.less E.sub)
noncomputable def bV:DS->M Out:=λδ=>M.ret (.nx δ)
noncomputable def bf(g h:DS->M Out):DS->M Out:=λδ=>(g δ).thn λo=>match o with
 | .nx δ'=>h δ'
 | o=>M.ret o
theorem bw:nH X G [] bV:=⟨_,tK,λR0 P0 H0 δ O σ H Dn E k=>k O σ H E⟩
theorem aw(h1:PDS X G st gs):nH X G [st] gs:=by
 obtain⟨t,p,h1⟩:=h1
 exact⟨_,o7 p,h1⟩
theorem av(h1:PDS X G st gs)(h2:nH X G sts gt):nH X G (st::sts) (bf gs gt):=by
 obtain⟨t,p,h1⟩:=h1
 obtain⟨u,q,h2⟩:=h2
 refine⟨_,mS p q,λR0 P0 H0 δ O σ H Dn E k=>?_⟩
 refine h1 R0 P0 H0 δ O σ H _ E (au (ay k) λo z=>?_)
 cases o with
 | nx δ'=>exact λO' σ' H' E'=>h2 R0 P0 H0 δ' O' σ' H' Dn E' z
 | rt d=>exact z
 | bk δ'=>exact z
 | ct δ'=>exact z
noncomputable def ui:DS->M Out:=λδ=>M.ret (.bk δ)
theorem Bl:PDS X G (.Break pos) ui:=⟨_,A0,λR0 P0 H0 δ O σ H Dn E k=>k O σ H E⟩
noncomputable def ce(f:DS->M D):DS->M Out:=λδ=>(f δ).thn λd=>M.ret (.rt d)
theorem bc(he:PD X G e f):PDS X G (.Return (some e) pos) (ce f):=by
 obtain⟨t,p,he⟩:=he
 refine⟨_,qi p,λR0 P0 H0 δ O σ H Dn E k=>?_⟩
 exact he δ O σ H _ E.ev (au (ay k) λd z v H1 s1 r=>z v H1 (λb o n q=>s1 _ _ (E.keep b o n q)) ((E.same s1).less r))
noncomputable def gIf(c:DS->M Bool)(g h:DS->M Out):DS->M Out:=λδ=>(c δ).thn λb=>if b=true then g δ else h δ
theorem bH(hc:PDT X G c fb)(h1:nH X G st1 gs)(h2:nH X G st2 gt):PDS X G (.If c st1 st2 pos) (gIf fb gs gt):=by
 obtain⟨t,p,hc⟩:=hc
 obtain⟨u,q,h1⟩:=h1
 obtain⟨w,r,h2⟩:=h2
 refine⟨_,AX p q r,λR0 P0 H0 δ O σ H Dn E k=>?_⟩
 refine hc δ O σ H _ E.ev (au (ay k) λd z H1 s1=>?_)
 cases d with
 | true =>
  exact h1 R0 P0 H0 δ O σ H1 Dn (E.same s1) z
 | false =>
  exact h2 R0 P0 H0 δ O σ H1 Dn (E.same s1) z
noncomputable def ge:DS->M Out:=λ_=>none
theorem dR:PDS X G st ge:=⟨_,AW,λR0 P0 H0 δ O σ H Dn E k=>k.elim⟩
def PDG(X:Cx)(target:Expr)(g:D->DS->Option DS):Prop :=
 ∃t,PG X target t/\∀{Hr:Hp} (R0:List Addr) (P0:Addr->Prop) (H0:Hp) (δ δ':DS) (d:D) (v:V) (O:List Addr) (σ:St) (H:Hp) (Q:St->Hp->Prop),EI X.K Hr R0 P0 H0 O H σ δ->Rep X.K O H v d->g d δ=some δ' ->
  (∀σ' H',EI X.K Hr R0 P0 H0 O H' σ' δ'->aM H H'->Q σ' H')->t v σ H Q
def EY(X:Cx)(ts:List Expr)(g:List D->DS->Option DS):Prop :=
 ∃t,PGs X ts t/\∀{Hr:Hp} (R0:List Addr) (P0:Addr->Prop) (H0:Hp) (δ δ':DS) (ds:List D) (vs:List V) (O:List Addr) (σ:St) (H:Hp) (Q:St->Hp->Prop),EI X.K Hr R0 P0 H0 O H σ δ->Reps X.K O H vs ds->g ds δ=some δ' ->
  (∀σ' H',EI X.K Hr R0 P0 H0 O H' σ' δ'->aM H H'->Q σ' H')->t vs σ H Q
noncomputable def tgN(i:Nat):D->DS->Option DS:=λd δ=>some (δ.set i (.vl d))
theorem aI{i:Nat}(h:PG X e (yH i)):PDG X e (tgN i):=by
 refine⟨_,h,λR0 P0 H0 δ δ' d v O σ H Q E r e k=>?_⟩
 cases e
 exact k _ H (E.set r) (aM.refl H)
noncomputable def eM:List D->DS->Option DS:=λds δ=>match ds with
 | []=>some δ
 | _=>none
noncomputable def aX(t:D->DS->Option DS)(u:List D->DS->Option DS):List D->DS->Option DS:=λds δ=>match ds with
 | d::r=>(t d δ).bind (u r)
 | []=>none
theorem dQ:EY X [] eM:=by
 refine⟨_,yk,λR0 P0 H0 δ δ' ds vs O σ H Q E r e k=>?_⟩
 cases ds with
 | nil=>cases r;cases e;exact⟨rfl,k σ H E (aM.refl H)⟩
 | cons d ds=>cases e
theorem aT{t:D->DS->Option DS}{u:List D->DS->Option DS}(h1:PDG X e t)(h2:EY X es u)
  (hs:(assignEach (e::es) X.env).map (·.2)=assign e X.env::(assignEach es X.env).map (·.2):=by rfl):EY X (e::es) (aX t u):=by
 obtain⟨t1,p1,h1⟩:=h1
 obtain⟨t2,p2,h2⟩:=h2
 refine⟨_,vy p1 p2 hs,λR0 P0 H0 δ δ' ds vs O σ H Q E r e k=>?_⟩
 cases ds with
 | nil=>cases e
 | cons d ds =>
  cases r with
  | @cons v _ vs _ r rs =>
   have e:(t d δ).bind (u ds)=some δ':=e
   cases e1:t d δ with
   | none=>simp_all
   | some δ1 =>
    rw[e1] at e
    refine⟨v,vs,rfl,h1 R0 P0 H0 δ δ1 d v O σ H _ E r e1 λσ1 H1 E1 s1=>?_⟩
    exact h2 R0 P0 H0 δ1 δ' ds vs O σ1 H1 Q E1 (rs.same s1) e λσ2 H2 E2 s2=>k σ2 H2 E2 (s1.trans s2)
noncomputable def ee(n:Nat)(u:List D->DS->Option DS):D->DS->Option DS:=λd δ=>match d with
 | .tuple ds=>if ds.length=n then u ds δ else none
 | _=>none
theorem e5{k:Nat}{u:List D->DS->Option DS}{n:Nat}(hc:X.calm=true)(h:EY X es u)
  (hn:(assignEach es X.env).length=n:=by rfl) (hst:(assignEach es X.env).findIdx? (·.1)=none:=by rfl):PDG X (.Tuple es k pos) (ee n u):=by
 obtain⟨t,p,h⟩:=h
 refine⟨_,A5 hc p hn hst,λR0 P0 H0 δ δ' d v O σ H Q E r e k=>?_⟩
 cases d with
 | tuple ds =>
  have e:(if ds.length=n then u ds δ else none)=some δ':=e
  by_cases hl:ds.length=n
  ·rw[if_pos hl] at e
   obtain⟨a,xs,rfl,h1,rs⟩:=r.tup_inv
   exact⟨a,xs,rfl,h1,by rw[rs.length];exact hl,h R0 P0 H0 δ δ' ds xs O σ H Q E rs e k⟩
  simp_all
 | _=>cases e
noncomputable def cM(f:DS->M D)(g:D->DS->Option DS):DS->M Out:=λδ=>(f δ).thn λd=>(M.lift (g d δ)).thn λδ'=>M.ret (.nx δ')
theorem qt{tg:Expr}{g:D->DS->Option DS}(he:PD X G e f)(hg:PDG X tg g)(hs:swapsWithSole [tg] e pos.line X.env=pure false:=by rfl)(hw:swappedStores [tg] e X.env=pure none:=by rfl)
  (h1:(assignEach [tg] X.env).map (·.2)=[assign tg X.env]:=by rfl):PDS X G (.Assign [tg] e pos) (cM f g):=by
 obtain⟨t,p,he⟩:=he
 obtain⟨u,q,hg⟩:=hg
 refine⟨_,A1 p q hs hw h1,λR0 P0 H0 δ O σ H Dn E k=>?_⟩
 refine he δ O σ H _ E.ev (au (ay k) λd z v H1 s1 r=>?_)
 obtain⟨δ',hd,z⟩:=cq (ay z)
 exact hg R0 P0 H0 δ δ' d v O σ H1 _ (E.same s1) r hd λσ' H' E' _=>z O σ' H' E'
theorem b7{i:Nat}{x:Str}{pos':Pos}(hN:X.N.Nodup)(hi:X.N[i]?=some x)(hx:Loc X.env.scope x)(he:PD X G e f)(hs:swapsWith e (some (.Name x pos')) pos.line X.env=pure false:=by rfl)(hf:X.fn x=true\/X.env.scope.names.lookup x=some .local:=by first | exact .inl rfl | exact .inr rfl | assumption) :
  PDS X G (.Assign [.Name x pos'] e pos) (cM f (tgN i)):=by
 obtain⟨t,p,he⟩:=he
 refine⟨_,wT hN hi hx p hs hf,λR0 P0 H0 δ O σ H Dn E k=>?_⟩
 refine he δ O σ H _ E.ev (au (ay k) λd z v H1 s1 r=>?_)
 obtain⟨δ',hd,z⟩:=cq (ay z)
 cases hd
 exact z O _ H1 ((E.same s1).set r)
noncomputable def jv(body:D->DS->M Out):List D->DS->M Out
 | [],δ=>M.ret (.nx δ)
 | x::xs,δ=>(body x δ).thn λo=>match o with
  | .nx δ'=>jv body xs δ'
  | .ct δ'=>jv body xs δ'
  | .bk δ'=>M.ret (.nx δ')
  | .rt d=>M.ret (.rt d)
noncomputable def dG(t:D->DS->Option DS)(g:DS->M Out):D->DS->M Out:=λd δ=>(M.lift (t d δ)).thn g
noncomputable def seqD:D->Option (List D)
 | .list ds=>some ds
 | .tuple ds=>some ds
 | _=>none
noncomputable def iSeq(K:ε)(tl:TE):TI:=λσ H R=>tl σ H λx H1=>∃a,x=.ref a/\(((∃xs,SqL K H1 a xs)/\R (Itl K a) H1)\/((∃xs,SqT K H1 a xs)/\R (Itt K a) H1))
theorem pi_seq{tg l:Expr}{tl:TE}(hl:PE X l tl):PI X tg l (iSeq X.K tl):=by
 intro pins s σ H R I h
 refine thn (hl pins s σ H _ I h) λv s1 ⟨x,H1,I1,r1,q1⟩=>?_
 obtain⟨a,e,q⟩:=q1
 subst e
 cases r1
 rcases q with ⟨⟨xs,hq⟩,q⟩ | ⟨⟨xs,hq⟩,q⟩
 ·obtain⟨its,rv,p,hz⟩:=I1.list hq
  refine wpAny_pyIter_list p.isList ?_
  refine⟨s1.heap.objs.size,[s1.heap.objs.size],_,_,H1,rfl,I1.kept λb o e=>Heap.get?_push_of_some _ e,zh a _,⟨_,Heap.get?_push_size _ rfl,rfl,rfl⟩,λb hb=>?_,q⟩
  have e:b=s1.heap.objs.size:=by simp_all
  subst e
  exact I1.fpOk (ρ _) (I1.hok.fresh (ρ _))
 ·obtain⟨its,rv,p,hz⟩:=I1.tuple hq
  refine wpAny_pyIter_tuple (show s1.heap.IsTuple a its.toArray from p) ?_
  refine⟨s1.heap.objs.size,[s1.heap.objs.size],_,_,H1,rfl,I1.kept λb o e=>Heap.get?_push_of_some _ e,wE a _,⟨_,Heap.get?_push_size _ rfl,rfl,rfl⟩,λb hb=>?_,q⟩
  have e:b=s1.heap.objs.size:=by simp_all
  subst e
  exact I1.fpOk (ρ _) (I1.hok.fresh (ρ _))
def Ch(O R0:List Addr)(l:Addr):Prop:=l∈O/\l∉R0
theorem EI.noCh(E:EI K Hr R0 P0 H0 O H σ δ){b:Addr}{o:HO}(n:¬P0 b)(h:H0 b=some o):¬Ch O R0 b:=λ⟨z1,z2⟩=>by
 rcases E.om b z1 with q | q | q
 all_goals simp_all
theorem EI.inner(E:EI K Hr R0 P0 H0 O H σ δ):EI K Hr R0 (Ch O R0) H O H σ δ :=
 ⟨E.ev,E.omr,λb o _ h=>h,λl hl=>(Classical.em (l∈R0)).elim .inl λn=>.inr (.inl ⟨hl,n⟩),E.nr1,E.sub⟩
theorem EI.outer{O1:List Addr}{H1:Hp}{σ1:St}{δ1:DS}(E:EI K Hr R0 P0 H0 O H σ δ)(E1:EI K Hr R0 (Ch O R0) H O1 H1 σ1 δ1):EI K Hr R0 P0 H0 O1 H1 σ1 δ1:=by
 refine⟨E1.ev,E1.omr,λb o n h=>E1.keep b o (E.noCh n h) (E.keep b o n h),λl hl=>?_,E1.nr1,E1.sub⟩
 rcases E1.om l hl with q | q | q
 ·simp_all
 ·exact E.om l q.1
 ·refine .inr ?_
  by_cases hp:P0 l
  ·simp_all
  ·cases e:H0 l with
   | none=>simp
   | some o =>
    rw[E.keep l o hp e] at q
    cases q
theorem Fin.outer{Dn:Ends}(E:EI K Hr R0 P0 H0 O H σ δ){o:Out}(h:Fin K Hr R0 P0 H0 Dn o):Fin K Hr R0 (Ch O R0) H Dn o:=by
 cases o with
 | nx δ1=>exact λO1 σ1 H1 E1=>h O1 σ1 H1 (E.outer E1)
 | bk δ1=>exact λO1 σ1 H1 E1=>h O1 σ1 H1 (E.outer E1)
 | ct δ1=>exact λO1 σ1 H1 E1=>h O1 σ1 H1 (E.outer E1)
 | rt d=>exact λv H1 kp r=>h v H1 (λb o n q=>kp b o (E.noCh n q) (E.keep b o n q)) r
theorem EI.to{O1:List Addr}{H1:Hp}{σ1:St}{δ1:DS}(E:EI K Hr R0 P0 H0 O H σ δ)(E1:EI K Hr R0 (Ch O R0) H O1 H1 σ1 δ1):To O O1 H H1:=by
 have nt:∀{b:Addr} {o:HO},(∀xs,o≠.lst xs)->(∀xs,o≠.dK xs)->(∀C dx fs,o≠.ins C dx fs)->H b=some o->¬Ch O R0 b:=λ{b o} ho ho2 ho3 h z=>by
  rcases E.ev.oo b z.1 with ⟨ys,hl⟩ | ⟨ys,hl⟩ | ⟨C,dx,fs,hl⟩
  all_goals grind
 have kp:∀{b:Addr} {o:HO},b∉O->Rd H b o->b∉O1/\Rd H1 b o:=λ{b o} n h=>by
  refine⟨λz=>?_,?_⟩
  ·rcases E1.om b z with q | q | q
   ·exact n (E.sub b q)
   ·exact n q.1
   ·rcases h with h | ⟨u,h⟩
    all_goals simp_all
  ·rcases h with h | ⟨u,h⟩
   ·exact .inl (E1.keep _ _ (λz=>n z.1) h)
   ·exact .inr ⟨u,E1.keep _ _ (λz=>n z.1) h⟩
 refine⟨λb xs h=>?_,λb xs n h=>kp n h,λb xs n h=>kp n h,λb C dx fs n h=>⟨(kp n (.inl h)).1,E1.keep _ _ (λz=>n z.1) h⟩⟩
 ·rcases h with h | ⟨u,h⟩
  ·exact .inl (E1.keep _ _ (nt (λ_ z=>by cases z) (λ_ z=>by cases z) (λ_ _ _ z=>by cases z) h) h)
  ·exact .inr ⟨u,E1.keep _ _ (nt (λ_ z=>by cases z) (λ_ z=>by cases z) (λ_ _ _ z=>by cases z) h) h⟩
theorem rb{ds:List D}{i:Nat}{d:D}(h:ds[i]?=some d):ds.drop i=d::ds.drop (i+1):=by
 obtain⟨hl,e⟩:=ω.mp h
 rw[List.drop_eq_getElem_cons hl,e]
noncomputable def fD(lo:Int)(n:Nat):List D:=(List.range n).map λ(i:Nat)=>η (lo+(i:Int))
noncomputable def b62(j:Int):Bool:=decide (-4611686018427387904<=j/\j<4611686018427387904)
noncomputable def zu:List D->Option (List D)
 | [.int j]=>if b62 j=true then some (fD 0 j.toNat) else none
 | _=>none
noncomputable def wQ:List D->Option (List D)
 | [.int i,.int j]=>if (b62 i&&b62 j)=true then some (fD i (j-i).toNat) else none
 | _=>none
theorem xO{j:Int}(h:b62 j=true) : -(2 ^ 62)<=j/\j<2 ^ 62:=by
 have e62:(2:Int) ^ 62=4611686018427387904:=by decide
 exact of_decide_eq_true h
end
noncomputable def spD(K:ε)(n:Nat)(F:List D->M D):Sp:=λvs H Q _=>∃O ds,vs.length=n/\(∀l∈O,Mu H l)/\Reps K O H vs ds/\ok (λ_=>False) (F ds) (λd=>∀v H',aM H H'->Rep K O H' v d->Q v H')
structure Def(P:Program)(w:World)(K:ε)(mg:Str->Option Value)(base:Heap)(k:Nat)(x:Str)(n:Nat)(F:List D->M D):Prop where
 ex:∃(f:Addr) (fd:FuncData) (ps:List Str),FnOk P w K mg base CX0 k f fd ps (spD K n F)/\mg x=some (.ref f)/\ξ K (.ref f)=true/\eR K fd ps []
noncomputable def aH(F:List D->M D)(fa:DS->M (List D)):DS->M D:=λδ=>(fa δ).thn F
section
variable{X:Cx}{G:XD->Hp->Prop}{a b c e:Expr}{es rest:List Expr}{f g h:DS->M D}{fb gb:DS->M Bool}{fa:DS->M (List D)}{pos:Pos}
theorem mV{α:Type}{G:XD->Prop}{r:M α}{k:α->Prop}(h:ok (λ_=>False) r k):ok G r k:=by
 match r,h with
 | some (.ok a),h=>exact h
noncomputable def noX{α:Type}(r:M α):M α:=match r with
 | some (.error _)=>none
 | r=>r
theorem nZ{α:Type}{G:XD->Prop}{r:M α}{k:α->Prop}(h:ok G (noX r) k):ok (λ_=>False) r k:=by
 match r,h with
 | some (.ok a),h=>exact h
theorem aG{k n:Nat}{x:Str}{p:Pos}{F:List D->M D}(h:Def X.prog X.w X.K X.mg X.base k x n F)(hr:Room k X.A)(hg:Gl X x)(hn:(e::es).length=n)(ha:PDA X G (e::es) fa)
  (hdb:(x==("__debug__" : Str))=false:=by decide) (he:starEach (e::es) X.env=(false,eval e X.env)::starEach es X.env:=by rfl) (hpl:(backTo pos (starEach es X.env)).any (·.1)=false:=by rfl) :
  PD X G (.Call (.Name x p) (e::es) [] pos) (aH (λds=>noX (F ds)) fa):=by
 obtain⟨f,fd,ps,F1,hm,hk,hb⟩:=h.ex
 obtain⟨hl,t,pa,ha⟩:=ha
 refine⟨_,o8 F1 hr hg hm hk hb .nil qu pa hdb he hpl,λδ O σ H Q E k=>?_⟩
 have k1:=ay k
 refine ha δ O σ H _ E ?_
 cases e1:fa δ with
 | none=>rw[e1] at k1;assumption
 | some r =>
  rw[e1] at k1
  cases r with
  | error x=>exact k1
  | ok ds =>
   refine λvs H1 s1 rs=>?_
   refine⟨O,ds,?_,(E.same s1).oo,?_,au (nZ k1) λd z v H2 s2 r=>z v H2 (s1.trans s2) r⟩
   ·rw[Z7,rs.length,hl δ ds e1]
    exact hn
   simp_all
end
noncomputable def e9(n:Nat)(ds:List D):DS:=ds.map Sl.vl++X2 (n-ds.length) Sl.un
noncomputable def endD(o:Out):M D:=match o with
 | .rt d=>M.ret d
 | .nx _=>M.ret .none
 | _=>none
noncomputable def run(n:Nat)(g:DS->M Out)(ds:List D):M D:=(g (e9 n ds)).thn endD
section
variable{P:Program}{w:World}{K:ε}{mg:Str->Option Value}{base:Heap}
theorem pR{n i:Nat}{ds:List D}{s:Sl}(h1:(e9 n ds)[i]?=some s)(ho:s.own):False:=by
 unfold e9 at h1
 by_cases hi:i<ds.length
 ·rw[Z0 (by simp_all),Z6] at h1
  cases e:ds[i]? with
  | none=>simp_all
  | some d=>rw[e] at h1;cases h1;exact ho
 ·rw[Ψ (by simp_all),List.getElem?_replicate] at h1
  split at h1
  ·cases h1;exact ho
  simp_all
theorem qU{O:List Addr}{H:Hp}{vs:List V}{ds:List D}(N:List Str)(oo:∀l∈O,Mu H l)(r:Reps K O H vs ds):Ev K H O H (L2.start N vs) (e9 N.length ds):=by
 have get:∀(i:Nat) (s:Sl),(e9 N.length ds)[i]?=some s->(∃d,ds[i]?=some d/\s=.vl d)\/s=.un:=λi s h=>by
  unfold e9 at h
  grind
 refine⟨aM.refl H,oo,?_,λi s h=>?_,λi j l es fs hij h1 h2 h3=>?_⟩
 ·unfold L2.start e9
  simp [r.length]
 ·rcases get i s h with ⟨d,hd,rfl⟩ | rfl
  ·obtain⟨v,hv,rd⟩:=r.get hd
   refine⟨v,?_,rd⟩
   unfold L2.start
   grind
  ·trivial
 grind
theorem uj{x qual:Str}{st:Stmt}{f:Addr}{fd:FuncData}{N ps:List Str}{k:Nat}{g:DS->M Out}(F0:Fun K x qual st f fd)(S:FnScope N ps (aj st))
  (hbody:∀(cdv:Value) (A:Around) (outer:List Env) (s:Shared) (H:Hp) (E:XK),Room k (A.deeper (envOfC qual (aj st) s.heap.objs.size f cdv)) ->
   nH (mE CX0 P w K mg base N qual (aj st) f cdv A outer s H E).nox (λ_ _=>False) (ax st) g):FnOk P w K mg base CX0 (k+1) f fd ps (spD K ps.length (run N.length g)):=by
 refine F0.ok S (λvs H Q E h=>?_) (λcdv A outer s H vs Q E hr h=>?_)
 ·obtain⟨O,ds,hl,_⟩:=h
  exact hl
 ·obtain⟨O,ds,hl,oo,r,q⟩:=h
  obtain⟨t,p,hB⟩:=hbody cdv A outer s H E hr
  refine⟨t,p,hB O (λ_=>False) H (e9 N.length ds) O (L2.start N vs) H _ ⟨qU N oo r,λl hl=>.inl hl,λb o _ h=>h,λl hl=>.inl hl,λi es l h1 ho h2=>?_,λl hl=>hl⟩ (au (mV (ay q)) λo z=>?_)⟩
  ·exact(pR h1 ho).elim
  ·cases o with
   | rt d=>exact λv H' kp r=>z v H' (λb o h=>kp b o (λw=>w) h) r
   | nx δ=>exact λO' σ' H' E'=>z .non H' (λb o h=>E'.keep b o (λw=>w) h) .non
   | bk δ=>exact z.elim
   | ct δ=>exact z.elim
theorem bG{x qual:Str}{st:Stmt}{f:Addr}{fd:FuncData}{N ps:List Str}{k:Nat}{g:DS->M Out}(F0:Fun K x qual st f fd)(S:FnScope N ps (aj st))(hm:mg x=some (.ref f))(hb:eR K fd ps [])
  (hbody:∀(cdv:Value) (A:Around) (outer:List Env) (s:Shared) (H:Hp) (E:XK),Room k (A.deeper (envOfC qual (aj st) s.heap.objs.size f cdv)) ->
   nH (mE CX0 P w K mg base N qual (aj st) f cdv A outer s H E).nox (λ_ _=>False) (ax st) g):Def P w K mg base (k+1) x ps.length (run N.length g) :=
 ⟨f,fd,ps,uj F0 S hbody,hm,F0.kp,hb⟩
noncomputable def spLaw(K:ε):Sp:=λvs H Q _=>∃(a:Addr) (ns:List Int),vs=[.ref a]/\SqL K H a (ns.map V.int)/\ns.length<=63/\∀H',Q (.bl true) H'
theorem law_sp{F:List D->M D}(hF:∀ns:List Int,ns.length<=63->F [.list (ns.map η)]=M.ret (.bool true))(vs:List V)(H:Hp)(Q:VK)(E:XK)(h:spLaw K vs H Q E):spD K 1 F vs H Q E:=by
 obtain⟨a,ns,rfl,hS,hl,k⟩:=h
 refine⟨[],[.list (ns.map η)],rfl,(λl z=>nomatch z),.cons ?_ .nil,?_⟩
 ·rcases hS with hS | hS
  ·exact .lst hS (λz=>nomatch z) (Reps.ints ns)
  ·exact .lstK hS (Reps.ints ns)
 ·rw[hF ns hl]
  intro v H' s r
  rw[r.bool_inv]
  simp_all
theorem walk{l:PySem.W.OpenLaw}{q:Program}{loose:List Str}{XP:(Str->Option Value)->Heap->Prop}{YP:World->Heap->Prop}{d:DefRec}{K:Params->ε}{k:Nat}{F:List D->M D}{x:Str}(hn:l.most=some 63)(hdf:d.params.defaults=[])
  (hF:∀ns:List Int,ns.length<=63->F [.list (ns.map η)]=M.ret (.bool true)) (hr:Room k callerA)
  (hY:∀(w:World) (h:Heap),YP w h->(K w.params).In h)
  (T:∀(w:World) (mg:Str->Option Value) (fa:Addr) (h:Heap),(K w.params).In h->h.Ns mainGlobals mg->mg d.name=some (.ref fa) ->
   ∃fd:FuncData,(∀(s:Shared) (u:Value),BindsTo s fd ⟨[u],[]⟩ [(x,u)])/\∀base:Heap,(K w.params).In base->base.Ns mainGlobals mg->FnOk l.prog w (K w.params) mg base CX0 k fa fd [x] (spD (K w.params) 1 F)) :
  PySem.W.WalkO q loose XP YP l.row.toRowW d [] (λf vs=>PySem.call f vs) :=
 L2.C0 (n:=63) (k:=k) (x:=x) (CX:=λ_=>CX0) (sp:=λw=>spD (K w.params) 1 F) hn (by decide) hdf hr hY T (λw H a ns hl _ hS=>law_sp hF _ _ _ _ ⟨a,ns,rfl,hS,hl,λ_=>rfl⟩) λ_ _ _ _ _ z=>z
end
end DL
namespace DL
open L2
section
variable{δ δ':DS}{f g:DS->M D}{fb gb:DS->M Bool}{fa:DS->M (List D)}{gs gt g1 g2:DS->M Out}{d x y:D}{b b1 b2:Bool}{ds xs:List D}{i j:Int}{r:M Out}{o:Out}
theorem af{n:Nat}(h:δ[n]?=some (.vl d)):ah n δ=M.ret d:=by unfold ah;rw[h]
theorem ao:dC d δ=M.ret d:=rfl
theorem ap{h:D->D->Option D}(h1:f δ=M.ret x)(h2:g δ=M.ret y)(h3:h x y=some d):d2 h f g δ=M.ret d:=by
 unfold d2;rw[h1,aQ,h2,aQ,h3];rfl
theorem mt{h:D->Option D}(h1:f δ=M.ret x)(h3:h x=some d):d1 h f δ=M.ret d:=by
 unfold d1;rw[h1,aQ,h3];rfl
theorem cr:bm (.int i) (.int j)=some (.int (i+j)):=rfl
theorem ke:ml (.int i) (.int j)=some (.int (i-j)):=rfl
theorem oE(h:CL i j=true):kn (.int i) (.int j)=some (.int (i*j)):=if_pos h
theorem oG(h:bDiv j=true):Bw (.int i) (.int j)=some (.int (i / j)):=if_pos h
theorem cw(h:0<j):gc (.int i) (.int j)=some (.int (i % j)):=if_pos (decide_eq_true h)
theorem qy:oLt (.int i) (.int j)=some (.bool (decide (i<j))):=rfl
theorem vG:oGt (.int i) (.int j)=some (.bool (decide (j<i))):=rfl
theorem w6:DX (.int 10) (.int 9)=some (.int 1000000000):=rfl
theorem oF:tV [.int i,.int j]=some (.int (max i j)):=rfl
theorem o_min:DZ [.int i,.int j]=some (.int (min i j)):=rfl
theorem mj:dI [.list ds]=some (.int ds.length):=rfl
theorem Bt:dI [.tuple ds]=some (.int ds.length):=rfl
theorem qz:oEq (.int i) (.int j)=some (.bool (decide (i=j))):=by
 rfl
theorem o_ne:oNe (.int i) (.int j)=some (.bool (!decide (i=j))):=by
 rfl
theorem rG(h1 : -18446744073709551616<i)(h2:i<18446744073709551616):CL i j=true:=decide_eq_true (.inl ⟨h1,h2⟩)
theorem xN(h1 : -18446744073709551616<j)(h2:j<18446744073709551616):CL i j=true:=decide_eq_true (.inr ⟨h1,h2⟩)
theorem bv(h:f δ=M.ret (.bool b)):dB f δ=M.ret b:=by unfold dB;rw[h];rfl
theorem d6(h:fb δ=M.ret b):kq fb δ=M.ret (!b):=by unfold kq;rw[h];rfl
theorem qW(h1:fb δ=M.ret b1)(h2:gb δ=M.ret b2):jy fb gb δ=M.ret (b1&&b2):=by
 unfold jy;rw[h1,aQ,h2];grind
theorem yP(h1:fb δ=M.ret b1)(h2:gb δ=M.ret b2):dOr fb gb δ=M.ret (b1||b2):=by
 unfold dOr;rw[h1,aQ,h2];grind
theorem yO(h1:fb δ=M.ret false)(h2:gb δ=M.ret b):dOr fb gb δ=M.ret b:=by unfold dOr;rw[h1,aQ,if_neg Ξ];exact h2
theorem kY(h1:fb δ=M.ret false):jy fb gb δ=M.ret false:=by unfold jy;rw[h1];rfl
theorem iw(h1:fb δ=M.ret true)(h2:gb δ=M.ret b):jy fb gb δ=M.ret b:=by unfold jy;rw[h1,aQ,if_pos rfl];exact h2
theorem lK(h1:f δ=M.ret (.bool b1))(h2:g δ=M.ret (.bool b2)):fz f g δ=M.ret (.bool (b1&&b2)):=by
 unfold fz;rw[bv h1,aQ,h2];grind
theorem sH(h1:f δ=M.ret (.bool false)):fz f g δ=M.ret (.bool false):=by unfold fz;rw[bv h1];rfl
theorem h8(h1:f δ=M.ret (.bool true))(h2:g δ=M.ret d):fz f g δ=M.ret d:=by unfold fz;rw[bv h1,aQ,if_pos rfl];exact h2
theorem oN{T:String}(h:f δ=M.ret d)(hi:mY d=true:=by rfl):dIs T f δ=M.ret (.bool (isD T d)):=by unfold dIs;rw[h,aQ,if_pos hi]
theorem ak:ar δ=M.ret []:=rfl
theorem ac(h1:f δ=M.ret x)(h2:fa δ=M.ret xs):ag f fa δ=M.ret (x::xs):=by unfold ag;rw[h1,aQ,h2];rfl
theorem b8(h:fa δ=M.ret ds)(hz:bi ds.length=true):d9 fa δ=M.ret (.tuple ds):=by unfold d9;rw[h,aQ,if_pos hz]
theorem d7(h:fa δ=M.ret ds)(hz:bi ds.length=true):kr fa δ=M.ret (.list ds):=by unfold kr;rw[h,aQ,if_pos hz]
theorem br{h:List D->Option D}(h1:fa δ=M.ret ds)(h2:h ds=some d):dCB h fa δ=M.ret d:=by unfold dCB;rw[h1,aQ,h2];rfl
theorem az{F:List D->M D}(h1:fa δ=M.ret ds)(h2:F ds=M.ret d):aH (λds=>noX (F ds)) fa δ=M.ret d:=by
 unfold aH;rw[h1,aQ,h2];rfl
theorem lG(h:f δ=M.ret (.int i)):rn f δ=M.ret (some i):=by unfold rn;rw[h];rfl
theorem lH:pG δ=M.ret none:=rfl
theorem vZ(h1:fb δ=M.ret b){r:M D}(h2:(if b=true then f δ else g δ)=r):dIf fb f g δ=r:=by unfold dIf;rw[h1];exact h2
theorem aY(h1:gs δ=M.ret (.nx δ'))(h2:gt δ'=r):bf gs gt δ=r:=by unfold bf;rw[h1];exact h2
theorem pB(h1:gs δ=M.ret (.rt d)):bf gs gt δ=M.ret (.rt d):=by unfold bf;rw[h1];rfl
theorem kU(h1:fb δ=M.ret b)(h2:(if b=true then bf g1 gt δ else bf g2 gt δ)=r):bf (gIf fb g1 g2) gt δ=r:=by
 unfold bf gIf;rw[h1,aQ];unfold bf at h2;grind
theorem j0(h1:fb δ=M.ret b)(h2:(if b=true then g1 δ else g2 δ)=r):gIf fb g1 g2 δ=r:=by unfold gIf;rw[h1];exact h2
theorem uk(h:gt δ=r):bf bV gt δ=r:=h
theorem bF{n:Nat}(h:f δ=M.ret d):cM f (tgN n) δ=M.ret (.nx (δ.set n (.vl d))):=by unfold cM;rw[h];rfl
theorem lJ{t:D->DS->Option DS}(h:f δ=M.ret d)(h2:t d δ=some δ'):cM f t δ=M.ret (.nx δ'):=by unfold cM;rw[h,aQ,h2];rfl
theorem bg(h:f δ=M.ret d):ce f δ=M.ret (.rt d):=by unfold ce;rw[h];rfl
theorem bq{n:Nat}(h:gs (e9 n ds)=M.ret (.rt d)):run n gs ds=M.ret d:=by unfold run;rw[h];rfl
theorem kg{α:Type}{A B r:α}{b:Bool}(h:b=true)(k:A=r):(if b=true then A else B)=r:=by simp_all
theorem sB{α:Type}{A B r:α}{b:Bool}(h:b=false)(k:B=r):(if b=true then A else B)=r:=by simp_all
theorem eJ{t:D->DS->Option DS}(h1:t d δ=some δ')(h2:gs δ'=r):dG t gs d δ=r:=by unfold dG;rw[h1];exact h2
end
end DL
namespace L2
open PyProof.Rows
section
variable{X:Cx}
end
end L2
namespace DL
open PyProof.Rows L2
def tD(K:ε)(G:XD->Hp->Prop)(f:DS->M D):TE:=λσ H Q=>∃Hr δ O,Ev K Hr O H σ δ/\ok (GS G Hr) (f δ) (λd=>∀v H',aM H H'->Rep K O H' v d->Q v H')
theorem PD.can{X:Cx}{G:XD->Hp->Prop}{e:Expr}{f:DS->M D}(h:PD X G e f):PE X e (tD X.K G f):=by
 obtain⟨t,p,h⟩:=h
 intro pins s σ H Q I hw
 obtain⟨Hr,δ,O,E,k⟩:=hw
 exact p pins s σ H Q I (h δ O σ H Q E k)
section
variable{K:ε}{G:XD->Prop}{f:DS->M D}
def Kp(l:Addr)(H H':Hp):Prop:=∀b o,b≠l->H b=some o->H' b=some o
theorem Kp.to{O:List Addr}{H H':Hp}{l:Addr}(k:Kp l H H')(hl:H l=none):To O (l::O) H H':=by
 have rd:∀{b:Addr} {o:HO},Rd H b o->Rd H' b o:=λ{b o} h=>by
  have hb:=Rd.ne_new h hl
  rcases h with h | ⟨u,h⟩
  ·exact .inl (k _ _ hb h)
  ·exact .inr ⟨u,k _ _ hb h⟩
 have no:∀{b:Addr} {o:HO},b∉O->Rd H b o->b∉l::O:=λ{b o} n h z=>by
  rcases Θ.mp z with z | z
  ·exact Rd.ne_new h hl z
  simp_all
 exact⟨λb xs h=>rd h,λb xs n h=>⟨no n h,rd h⟩,λb xs n h=>⟨no n h,rd h⟩,λb C dx fs n h=>⟨no n (.inl h),k _ _ (bp h hl) h⟩⟩
theorem Kp.same{H H':Hp}{l:Addr}(k:Kp l H H')(hl:H l=none):aM H H':=λb o e=>k b o (bp e hl) e
end
section
variable{X:Cx}{G:XD->Hp->Prop}{fi f:DS->M D}
noncomputable def kj:List D->Option (List Bool)
 | []=>some []
 | .bool b::r=>(kj r).map (b :: ·)
 | _=>none
theorem sU:∀{ds:List D} {bs:List Bool},kj ds=some bs->ds=bs.map Y6
 | [],bs,h=>by cases h;rfl
 | .bool b::r,bs,h=>by
  have h:(kj r).map (b :: ·)=some bs:=h
  cases e:kj r with
  | none=>simp_all
  | some cs=>rw[e] at h;cases h;rw[sU e];rfl
theorem qf{K:ε}{O:List Addr}{H:Hp}:∀{bs:List Bool} {vs:List V},Reps K O H vs (bs.map Y6)->vs=bs.map V.bl
 | [],_,.nil=>rfl
 | b::bs,_,.cons r rs=>by rw[r.bool_inv,qf rs];rfl
theorem Al(hc:X.calm=true):eZ X (.builtin "all") (λxs H Q=>∃(p:Addr) (bs:List Bool),xs=[.ref p]/\SqL X.K H p (bs.map V.bl)/\Q (.bl (bs.all id)) H):=by
 intro pins s σ H xs us Q I r h
 obtain⟨l,bs,rfl,hq,q⟩:=h
 obtain⟨u,rfl,rx⟩:=gU r
 cases rx
 obtain⟨its,rv,pl,hz⟩:=I.list hq
 have hl:=pl.isList
 have hlt:l<s.heap.objs.size:=by obtain⟨_,e,_⟩:=hl;exact Heap.lt_size e
 have hlen:its.length=bs.length:=by rw[<-rv.length,ι]
 refine call_all_walk (wpAny_pyIter_list hl ?_)
 refine⟨s.heap.objs.size,[s.heap.objs.size,l],[s.heap.objs.size],its.toArray.size,_,_,λi=>(bs[i]?).getD true,rfl,Walks.list (A:=X.A.in1) (I.ok.hd hc) _ l (Y4 hlt) its.toArray,
  ⟨⟨_,Heap.get?_push_size _ rfl,rfl,rfl⟩,hl.push _⟩,λi v s' Q' E' hP hQ=>?_,λh' tk hk=>?_⟩
 ·have hv:its[i]?=some v:=by simp_all
  have hi:i<bs.length:=by grind
  obtain⟨w',e1,e2⟩:=rv.get (i:=i) (x:=V.bl bs[i]) (by simp)
  rw[hv] at e1
  cases e1
  cases (show v=Value.bool bs[i] from e2)
  dsimp only at hQ
  rw[Y1 hi] at hQ
  exact wpAny_truthy_bool hQ
 ·have e:((List.range its.toArray.size).all λi=>(bs[i]?).getD true)=bs.all id:=by
   rw[List.size_toArray,hlen];exact LSm.range_all bs
  rw[e]
  exact⟨.bl _,H,I.kept λb o e=>LSm.kept_iter hk b o e,rfl,q⟩
noncomputable def xf:List D->Option D
 | [.list ds]=>(kj ds).map λbs=>.bool (bs.all id)
 | _=>none
theorem lQ(hc:X.calm=true):km X (.builtin "all") xf:=by
 refine⟨_,Al hc,λO H ds d vs Q oo rs e k=>?_⟩
 unfold xf at e
 split at e
 ·rename_i es
  cases e1:kj es with
  | none=>simp_all
  | some bs =>
   rw[e1] at e
   cases e
   obtain⟨v,rfl,r⟩:=eS rs
   obtain⟨p,xs,rfl,h1,rx⟩:=r.lst_inv
   rw[sU e1] at rx
   rw[qf rx] at h1
   exact⟨p,bs,rfl,h1,k _ H (aM.refl H) (.bl _)⟩
 simp_all
end
section
variable{δ:DS}{fi f:DS->M D}{x y:D}{ds ys:List D}
end
end DL
namespace L2
open PyProof.Rows
section
variable{X:Cx}
end
end L2
namespace DL
open PyProof.Rows L2
noncomputable def pU(δ:DS)(j:Nat):Sl:=match δ[j]? with
 | some (.vl d)=>.vl d
 | _=>.un
section
variable{K:ε}{G:XD->Prop}{f:DS->M D}
end
section
variable{X:Cx}{G:XD->Hp->Prop}{fi f:DS->M D}
end
section
variable{δ:DS}{fi f:DS->M D}{x:D}{ds ys:List D}{js:List Nat}
end
end DL
namespace DL
open PyProof.Rows L2
section
variable{X:Cx}{G:XD->Hp->Prop}{a b c e:Expr}{f:DS->M D}{pos pos':Pos}{sts:List Stmt}{gs:DS->M Out}
variable{K:ε}{Hr:Hp}{R0:List Addr}{P0:Addr->Prop}{H0 H H':Hp}{O:List Addr}{σ:St}{δ:DS}
theorem EV.to{O':List Addr}{o:Option (Option V)}{s:Sl}(t:To O O' H H')(hd:∀l kvs,l∈O->H l=some (.dK kvs)->l∈O'/\H' l=some (.dK kvs))(hs:∀l xs,l∈O->H l=some (.lst xs)->o=some (some (.ref l))->(∃ds,s=.ow ds)->l∈O'/\H' l=some (.lst xs))(h:EV K O H o s):EV K O' H' o s:=by
 cases s with
 | un=>trivial
 | ex a=>exact h
 | vl d =>
  obtain⟨v,h1,r⟩:=h
  exact⟨v,h1,r.to t⟩
 | ow ds =>
  obtain⟨l,xs,h1,h2,h3,r⟩:=h
  obtain⟨q1,q2⟩:=hs l xs h2 h3 h1 ⟨ds,rfl⟩
  exact⟨l,xs,h1,q1,q2,r.to t⟩
 | od es =>
  obtain⟨l,kvs,h1,h2,h3,hk,r⟩:=h
  obtain⟨q1,q2⟩:=hd l kvs h2 h3
  exact⟨l,kvs,h1,q1,q2,hk,r.to t⟩
theorem B6{l:Addr}{o:HO}(hl:H l=none):∀a kvs,a∈O->H a=some (.dK kvs)->a∈l::O/\upd H l o a=some (.dK kvs):=λa kvs h1 h2=>⟨χ _ h1,by rw[upd_ne (bp h2 hl)];exact h2⟩
theorem B5{l:Addr}{xs:List V}{o:HO}(hl:H l=some (.lst xs)):∀a kvs,a∈O->H a=some (.dK kvs)->a∈O/\upd H l o a=some (.dK kvs):=λa kvs h1 h2=>⟨h1,by rw[upd_ne (BC h2 hl (by simp))];exact h2⟩
theorem EI.app{i:Nat}{l:Addr}{xs:List V}{ds:List D}{v:V}{d:D}(E:EI K Hr R0 P0 H0 O H σ δ)(hd:δ[i]?=some (.ow ds))(hσ:σ[i]?=some (some (.ref l)))(hl:H l=some (.lst xs))(rx:Reps K O H xs ds)(r:Rep K O H v d) :
  EI K Hr R0 P0 H0 O (upd H l (.lst (xs++[v]))) σ (δ.set i (.ow (ds++[d]))):=by
 obtain⟨l',xs',q1,lO,q3,_⟩:=E.ev.at_ i _ hd
 rw[hσ] at q1
 cases q1
 have tO:To O O H (upd H l (.lst (xs++[v]))):=To.set hl lO
 refine⟨⟨λb o h=>?_,λa ha=>?_,by rw[Y5];exact E.ev.len,λj s h=>?_,λj k a es es' hjk h1 h2 h3=>?_⟩,E.omr,λb o n h=>?_,E.om,λj es a h1 ho h2=>?_,E.sub⟩
 ·have q:=E.ev.root b o h
  have hne:b≠l:=λz=>by
   subst z
   rcases E.omr b lO with w | w
   ·exact E.nr i ds b hd hσ w
   simp_all
  rw[upd_ne hne]
  exact q
 ·by_cases hb:a=l
  ·rw[hb];exact .lst aN
  ·exact(E.ev.oo a ha).upd_ne hb
 ·rw[bM] at h
  by_cases hij:i=j
  ·rw[if_pos hij] at h
   split at h
   ·cases h
    rw[<-hij,hσ]
    exact⟨l,_,rfl,lO,aN,(rx.to tO).append (.cons (r.to tO) .nil)⟩
   simp_all
  ·rw[if_neg hij] at h
   refine(E.ev.at_ j s h).to tO (B5 hl) λa ys h1 h2 h3 h4=>⟨h1,?_⟩
   obtain⟨es,rfl⟩:=h4
   have hne:a≠l:=λz=>by
    subst z
    exact E.ev.dis i j a ds es hij hd h hσ h3
   rw[upd_ne hne]
   exact h2
 ·have old:∀(j:Nat) (es:List D),(δ.set i (.ow (ds++[d])))[j]?=some (.ow es)->∃es',δ[j]?=some (.ow es'):=λj es h=>by
   grind
  obtain⟨e1,h1⟩:=old j es h1
  obtain⟨e2,h2⟩:=old k es' h2
  exact E.ev.dis j k a e1 e2 hjk h1 h2 h3
 ·have q:=E.keep b o n h
  have hne:b≠l:=λz=>by
   subst z
   rcases E.om b lO with w | w | w
   ·exact E.nr i ds b hd hσ w
   all_goals simp_all
  rw[upd_ne hne]
  exact q
 ·rw[bM] at h1
  by_cases hij:i=j
  ·exact E.nr i ds a hd (by simp_all)
  ·rw[if_neg hij] at h1
   exact E.nr1 j es a h1 ho h2
noncomputable def ko(i:Nat)(f:DS->M D):DS->M Out:=λδ=>match δ[i]? with
 | some (.ow ds)=>(f δ).thn λd=>if bi (ds.length+1) then M.ret (.nx (δ.set i (.ow (ds++[d])))) else none
 | _=>none
theorem vb{n:Nat}(h:bi (n+1)=true):n<sizeLine:=by
 have:=bQ h
 omega
theorem jP{i:Nat}{x:Str}{xp apos cpos:Pos}(hv:PE X (.Name x xp) (uT i))(he:PD X G e f)
  (hst:starEach [e] X.env=(false,eval e X.env)::starEach [] X.env:=by rfl)
  (hbase:attributeBase (.Name x xp) "append" X.env (eval (.Name x xp) X.env)=eval (.Name x xp) X.env:=by rfl)
  (hfew:((backTo cpos (starEach [e] X.env)).all (λx=>!x.1)&&(backToKw cpos (keywordEach [] X.env)).all (λx=>x.1.isSome)
   && decide ([e].length+([]:List Keyword).length+(if ([]:List Keyword).isEmpty then 0 else 1)<30))=true:=by rfl)
  (hline:(apos.endLine==cpos.line)=true:=by rfl) (hplain:(backTo cpos (starEach [] X.env)).any (·.1)=false:=by rfl)
  (hs:swapsWith (.Call (.Attribute (.Name x xp) "append" apos) [e] [] cpos) none pos.line X.env=pure false:=by rfl) :
  PDS X G (.Expr (.Call (.Attribute (.Name x xp) "append" apos) [e] [] cpos) pos) (ko i f):=by
 obtain⟨t,p,he⟩:=he
 refine⟨_,tL (vA PySem.F.plainAttrs_list PySem.F.slot_list_append PySem.F.type_list_append n9 hv (gZ p kK hst) hbase hfew hline hst hplain) hs,λR0 P0 H0 δ O σ H Dn E k=>?_⟩
 unfold ko at k
 split at k
 ·rename_i ds hd
  obtain⟨l,xs,q1,q2,q3,q4⟩:=E.ev.at_ i _ hd
  refine⟨.ref l,q1,.inl ⟨rfl,xs,.inl (.inl q3)⟩,?_⟩
  refine he δ O σ H _ E.ev (au (ay k) λd z v H1 s1 r=>?_)
  by_cases hz:bi (ds.length+1)=true
  ·rw[if_pos hz] at z
   refine⟨l,xs,v,rfl,rfl,s1 _ _ q3,by rw[q4.length];exact vb hz,?_⟩
   exact z O σ _ ((E.same s1).app hd q1 (s1 _ _ q3) (q4.same s1) r)
  ·rw[if_neg hz] at z
   exact z.elim
 ·exact k.elim
noncomputable def sF(i:Nat):DS->M Out:=λδ=>match δ[i]? with
 | some (.ow ds)=>M.ret (.rt (.list ds))
 | _=>none
theorem pf{i:Nat}(he:PE X e (uT i)):PDS X G (.Return (some e) pos) (sF i):=by
 refine⟨_,qi he,λR0 P0 H0 δ O σ H Dn E k=>?_⟩
 unfold sF at k
 split at k
 ·rename_i ds hd
  obtain⟨l,xs,q1,q2,q3,q4⟩:=E.ev.at_ i _ hd
  exact⟨.ref l,q1,k _ H E.keep (.lst (.inl q3) (E.nr i ds l hd q1) (q4.to (.less E.sub)))⟩
 ·exact k.elim
noncomputable def frz(i:Nat)(δ:DS):DS:=match δ[i]? with
 | some (.ow ds)=>δ.set i (.vl (.list ds))
 | _=>δ
theorem EI.frz{i:Nat}(E:EI K Hr R0 P0 H0 O H σ δ):∃O',EI K Hr R0 P0 H0 O' H σ (DL.frz i δ):=by
 unfold DL.frz
 split
 ·rename_i ds hd
  obtain⟨l,xs,q1,q2,q3,q4⟩:=E.ev.at_ i _ hd
  have nr:=E.nr i ds l hd q1
  refine⟨O.filter (λa=>decide (a≠l)),⟨E.ev.root,λa ha=>E.ev.oo a (Y8.mp ha).1,by rw[Y5];exact E.ev.len,λj s h=>?_,λj k a es es' hjk h1 h2 h3=>?_⟩,λa ha=>E.omr a (Y8.mp ha).1,E.keep,λa ha=>E.om a (Y8.mp ha).1,λj es a h1 ho h2=>?_,λa ha=>?_⟩
  ·have tl:To O (O.filter (λa=>decide (a≠l))) H H:=To.less λb hb=>(Y8.mp hb).1
   rw[bM] at h
   by_cases hij:i=j
   ·rw[if_pos hij] at h
    split at h
    ·cases h
     rw[<-hij,q1]
     exact⟨.ref l,rfl,.lst (.inl q3) (λz=>absurd rfl (of_decide_eq_true (Y8.mp z).2)) (q4.to tl)⟩
    simp_all
   ·rw[if_neg hij] at h
    refine(E.ev.at_ j s h).to tl (λa kvs h1 h2=>⟨Y8.mpr ⟨h1,decide_eq_true (BC h2 q3 (by simp))⟩,h2⟩) λa ys h1 h2 h3 h4=>⟨Y8.mpr ⟨h1,decide_eq_true λz=>?_⟩,h2⟩
    obtain⟨es,rfl⟩:=h4
    subst z
    exact E.ev.dis i j a ds es hij hd h q1 h3
  ·have old:∀(j:Nat) (es:List D),(δ.set i (.vl (.list ds)))[j]?=some (.ow es)->δ[j]?=some (.ow es):=λj es h=>by
    grind
   exact E.ev.dis j k a es es' hjk (old j es h1) (old k es' h2) h3
  ·rw[bM] at h1
   by_cases hij:i=j
   ·simp_all
   ·rw[if_neg hij] at h1
    exact E.nr1 j es a h1 ho h2
  ·exact Y8.mpr ⟨E.sub a ha,decide_eq_true λz=>nr (z▸ha)⟩
 grind
noncomputable def Ew(i:Nat)(g:DS->M Out):DS->M Out:=λδ=>g (frz i δ)
theorem yp(i:Nat)(h:nH X G sts gs):nH X G sts (Ew i gs):=by
 obtain⟨t,p,h⟩:=h
 refine⟨t,p,λR0 P0 H0 δ O σ H Dn E k=>?_⟩
 obtain⟨O',E'⟩:=E.frz
 exact h R0 P0 H0 (frz i δ) O' σ H Dn E' k
end
noncomputable def gO:List D->Option (List Int)
 | []=>some []
 | .int i::r=>(gO r).map (i :: ·)
 | _=>none
theorem mq:∀{ds:List D} {ns:List Int},gO ds=some ns->ds=ns.map η
 | [],ns,h=>by cases h;rfl
 | .int i::r,ns,h=>by
  have h:(gO r).map (i :: ·)=some ns:=h
  cases e:gO r with
  | none=>simp_all
  | some cs=>rw[e] at h;cases h;rw[mq e];rfl
theorem nY{K:ε}{O:List Addr}{H:Hp}:∀{ns:List Int} {vs:List V},Reps K O H vs (ns.map η)->vs=ns.map V.int
 | [],_,.nil=>rfl
 | b::bs,_,.cons r rs=>by rw[r.int_inv,nY rs];rfl
noncomputable def oLtD:D->D->Option D
 | .int i,.int j=>some (.bool (decide (i<j)))
 | .tuple xs,.tuple ys=>(gO xs).bind λns=>(gO ys).map λms=>.bool (HT.lexLt ns ms)
 | _,_=>none
theorem o_ltD{i j:Int}:oLtD (.int i) (.int j)=some (.bool (decide (i<j))):=rfl
theorem g8{names:List (Str×NameKind)}{cl:List (Str×Addr)}(h:names.all (λy=>!(y.2==.cell||y.2==.free)||(cl.lookup y.1).isSome)=true):∀y∈names,(y.2=.cell\/y.2=.free)->∃c,cl.lookup y.1=some c:=λy hy hk=>by
 have q:=U7.mp h y hy
 have k:(y.2==NameKind.cell||y.2==NameKind.free)=true:=by
  simp_all
 rw[k] at q
 exact Option.isSome_iff_exists.mp (by assumption)
section
variable{X:Cx}{scope:Scope}{cl:List (Str×Addr)}
theorem jY:∀p∈([]:List (Nat×Str)),X.N[p.1]?=some p.2/\X.env.kindOf p.2=some .cell/\(compEnvC scope cl 0 X.env).kindOf p.2=some .cell/\∃c,cl.lookup p.2=some c:=λp hp=>nomatch hp
theorem pA{j:Nat}{y:Str}{fr:List (Nat×Str)}(h1:X.N[j]?=some y)(h2:X.env.kindOf y=some .cell)(h3:(compEnvC scope cl 0 X.env).kindOf y=some .cell)(h4:∃c,cl.lookup y=some c)
  (hr:∀p∈fr,X.N[p.1]?=some p.2/\X.env.kindOf p.2=some .cell/\(compEnvC scope cl 0 X.env).kindOf p.2=some .cell/\∃c,cl.lookup p.2=some c) :
  ∀p∈(j,y)::fr,X.N[p.1]?=some p.2/\X.env.kindOf p.2=some .cell/\(compEnvC scope cl 0 X.env).kindOf p.2=some .cell/\∃c,cl.lookup p.2=some c:=λp hp=>by
 grind
end
section
variable{δ δ':DS}{f:DS->M D}{d:D}{ds:List D}{r:M Out}{g:DS->M Out}
theorem kX{i:Nat}(h:δ[i]?=some (.ow ds))(h1:f δ=M.ret d)(hz:bi (ds.length+1)=true):ko i f δ=M.ret (.nx (δ.set i (.ow (ds++[d])))):=by
 unfold ko;rw[h,h1];show(if bi (ds.length+1)=true then _ else _)=_;simp_all
theorem Cn{i:Nat}(h:g (frz i δ)=r):Ew i g δ=r:=h
theorem vX{body:D->DS->M Out}(S:List D->DS->Prop):∀(ds pre:List D) (δ:DS),S pre δ->(∀p d q δ,pre++ds=p++d::q->S p δ->∃δ',body d δ=M.ret (.nx δ')/\S (p++[d]) δ')->∃δ',jv body ds δ=M.ret (.nx δ')/\S (pre++ds) δ'
 | [],pre,δ,h,_=>⟨δ,rfl,by simp_all⟩
 | d::ds,pre,δ,h,hs=>by
  obtain⟨δ1,h1,p1⟩:=hs pre d ds δ rfl h
  obtain⟨δ2,h2,p2⟩:=vX S ds (pre++[d]) δ1 p1 λp e q δ he=>hs p e q δ (by simp_all)
  refine⟨δ2,?_,by simp_all⟩
  show(body d δ).thn _=_
  rw[h1]
  exact h2
theorem BL{lo:Int}{n:Nat}{d:D}(h:d∈fD lo n):∃k:Int,d=.int k/\lo<=k/\k<lo+n:=by
 obtain⟨i,hi,e⟩:=W6.mp h
 grind
theorem xo{ds:List D}{i:Int}{d:D}(h0:0<=i)(h:ds[i.toNat]?=some d):oIx (.list ds) (.int i)=some d:=by
 have e:=L2.za h
 rw[U2 h0] at e
 exact e
theorem aW{n:Nat}(h:n<=16000000):bi n=true:=decide_eq_true h
end
end DL
namespace XF
open PyProof.Rows
section
variable{M:Model}{A:Around}{E:Value->Shared->Prop}{s:Shared}
end
end XF
namespace L2
open PyProof.Rows
section
variable{P:Program}{w:World}{K:ε}{mg:Str->Option Value}{base:Heap}{N:List Str}{qual:Str}{scope:Scope}{f:Addr}{cdv:Value}{A:Around}{outer:List Env}{s0:Shared}{H0:Hp}{E:XK}
end
section
variable{X:Cx}
end
end L2
namespace DL
open PyProof.Rows L2
section
variable{X:Cx}{G:XD->Hp->Prop}{e:Expr}{es:List Expr}{fa:DS->M (List D)}{pos:Pos}
theorem DR{α:Type}{G G':XD->Prop}{r:M α}{k:α->Prop}(h:ok G r k)(f:∀x,G x->G' x):ok G' r k:=by
 match r,h with
 | some (.ok a),h=>exact h
 | some (.error x),h=>exact f x h
end
section
variable{P:Program}{w:World}{K:ε}{mg:Str->Option Value}{base:Heap}
end
end DL
namespace L2
open PyProof.Rows
section
variable{X:Cx}
abbrev Cx.tri(X:Cx)(pn:List (Addr×Obj))(xe:Value->Shared->Prop):Cx:={ X with pn:=pn,xe:=xe }
theorem Inv.tri{pins:List (Addr×Obj)}{σ:St}{H:Hp}{s:Shared}(I:Inv X pins σ H s)(xe:Value->Shared->Prop):Inv (X.tri (X.pn++pins) xe) [] σ H s :=
 ⟨⟨I.ok.mod,I.ok.kind,I.ok.glob,I.ok.blt,I.ok.above,I.ok.inj,I.ok.has,I.ok.cab,I.ok.hd,I.ok.frames,I.ok.stk,I.ok.exf,I.ok.bs,I.ok.bsz,I.ok.noex,I.ok.exfs,I.ok.funs,I.ok.frf⟩,
  I.os,I.bare,I.base,I.loc,I.cell,I.free,I.freeC,λp hp=>I.pin p (by simp_all),I.hok,I.len⟩
theorem Inv.untri{pins pins':List (Addr×Obj)}{σ:St}{H:Hp}{s:Shared}{xe:Value->Shared->Prop}(I:Inv (X.tri (X.pn++pins) xe) pins' σ H s):Inv X pins σ H s :=
 ⟨⟨I.ok.mod,I.ok.kind,I.ok.glob,I.ok.blt,I.ok.above,I.ok.inj,I.ok.has,I.ok.cab,I.ok.hd,I.ok.frames,I.ok.stk,I.ok.exf,I.ok.bs,I.ok.bsz,I.ok.noex,I.ok.exfs,I.ok.funs,I.ok.frf⟩,
  I.os,I.bare,I.base,I.loc,I.cell,I.free,I.freeC,λp hp=>I.pin p (List.mem_append_left _ hp),I.hok,I.len⟩
abbrev Cx.held(X:Cx)(pn:List (Addr×Obj))(e:Addr):Cx:={ X with A:=X.A.mark (some (.ref e)),calm:=false,pn:=pn,xe:=λ_ _=>False }
end
end L2
namespace L2
open PyProof.Rows
section
variable{X:Cx}
noncomputable def tCan(X:Cx)(sts:List Stmt):TS:=λD σ H=>∃t,PSs X sts t/\t D σ H
theorem Ds{sts:List Stmt}:PSs X sts (tCan X sts):=λpins s σ H D I ⟨_,p,h⟩=>p pins s σ H D I h
noncomputable def Ends.gone(D:Ends)(i:Nat):Ends:=⟨λσ H=>D.nx (σ.set i none) H,D.rt,λσ H=>D.bk (σ.set i none) H,λσ H=>D.ct (σ.set i none) H⟩
end
end L2
namespace DL
open PyProof.Rows L2
section
variable{K:ε}{Hr:Hp}{R0:List Addr}{P0:Addr->Prop}{H0 H H':Hp}{O O':List Addr}{σ:St}{δ:DS}
noncomputable def Sl.noOw:Sl->Sl
 | .ow _=>.un
 | .od _=>.un
 | s=>s
noncomputable def noOw(δ:DS):DS:=δ.map Sl.noOw
noncomputable def Out.gone(i:Nat):Out->Out
 | .nx δ=>.nx (δ.set i .un)
 | .rt d=>.rt d
 | .bk δ=>.bk (δ.set i .un)
 | .ct δ=>.ct (δ.set i .un)
theorem EI.fresh(E:EI K Hr R0 P0 H0 O H σ δ):EI K H O (λ_=>False) H O H σ (noOw δ):=by
 have no:∀{i:Nat} {s:Sl},(noOw δ)[i]?=some s->s.own->False:=λ{i s} h ho=>by
  unfold noOw at h
  rw[Z6] at h
  cases e:δ[i]? with
  | none=>simp_all
  | some s=>rw[e] at h;cases s<;>(cases h;exact ho)
 refine⟨⟨λ_ _ h=>h,E.ev.oo,by unfold noOw;rw[ι];exact E.ev.len,λi s h=>?_,λi j l ds es _ h1=>(no h1 trivial).elim⟩,λl hl=>.inl hl,λb o _ h=>h,λl hl=>.inl hl,λi ds l h1 ho=>(no h1 ho).elim,λl hl=>hl⟩
 unfold noOw at h
 rw[Z6] at h
 cases e:δ[i]? with
 | none=>simp_all
 | some s' =>
  rw[e] at h
  have q:=E.ev.at_ i s' e
  cases s'<;>cases h
  ·trivial
  ·exact q
  ·trivial
  ·trivial
  ·exact q
theorem EI.back{σ':St}{δ':DS}(E:EI K Hr R0 P0 H0 O H σ δ)(F:EI K H O (λ_=>False) H O' H' σ' δ'):EI K Hr R0 P0 H0 O' H' σ' δ':=by
 refine⟨⟨E.ev.root.trans F.ev.root,F.ev.oo,F.ev.len,F.ev.at_,F.ev.dis⟩,λl hl=>?_,λb o n h=>F.keep b o (λz=>z) (E.keep b o n h),λl hl=>?_,λi ds l h1 ho h2 h3=>F.nr1 i ds l h1 ho h2 (E.sub l h3),λl hl=>F.sub l (E.sub l hl)⟩
 ·rcases F.omr l hl with z | z
  ·exact E.omr l z
  ·refine .inr ?_
   cases e:Hr l with
   | none=>rfl
   | some o=>rw[E.ev.root l o e] at z;cases z
 ·rcases F.omr l hl with z | z
  ·exact E.om l z
  ·by_cases hp:P0 l
   ·simp_all
   ·refine .inr (.inr ?_)
    cases e:H0 l with
    | none=>rfl
    | some o=>rw[E.keep l o hp e] at z;cases z
theorem Fin.fresh{Dn:Ends}{o:Out}(E:EI K Hr R0 P0 H0 O H σ δ)(h:Fin K Hr R0 P0 H0 Dn o):Fin K H O (λ_=>False) H Dn o:=by
 cases o with
 | nx δ'=>exact λO' σ' H' F=>h O' σ' H' (E.back F)
 | rt d=>exact λv H' kp r=>h v H' (λb o n q=>kp b o (λz=>z) (E.keep b o n q)) (r.to (.less E.sub))
 | bk δ'=>exact λO' σ' H' F=>h O' σ' H' (E.back F)
 | ct δ'=>exact λO' σ' H' F=>h O' σ' H' (E.back F)
noncomputable def exS(N i:Nat)(a:Addr):DS:=(X2 N Sl.un).set i (.ex a)
open Classical in
noncomputable def Ax(N i:Nat)(gs:Addr->DS->M Out):M Out :=
 if h:∃r,∀a,(noX (gs a (exS N i a))).thn (λo=>M.ret (o.gone i))=r then choose h else none
open Classical in
noncomputable def gTry(x:Str)(N i:Nat)(gb:DS->M Out)(gs:Addr->DS->M Out):DS->M Out:=λδ=>match gb (noOw δ) with
 | none=>none
 | some (.ok o)=>some (.ok o)
 | some (.error y)=>if y.cls=x then Ax N i gs else none
end
section
variable{X:Cx}{G:XD->Hp->Prop}
end
end DL
namespace L2
open PySem.W PySem.Calls PyProof.Rows
open PySem.Builtin.ObjectAttr PySem.Builtin PySem.Builtin.Getset_descriptor
section
variable{prog:Program}{w:World}{A:Around}{E:Value->Shared->Prop}{K:Frag}{x D:Addr}{h:Heap}{g:Array GenState}{d:Drawn}{t:Nat}{os:OsState}
end
end L2
namespace DL
open PyProof.Rows L2
section
variable{X:Cx}{G:XD->Hp->Prop}{pos:Pos}
end
end DL
namespace DL
open PyProof.Rows L2
section
variable{X:Cx}
noncomputable def one? : D->Bool
 | .bool _=>true
 | .none=>true
 | _=>false
noncomputable def mQ:D->D->Bool
 | .bool a,.bool b=>a==b
 | .none,.none=>true
 | _,_=>false
noncomputable def oIs(x y:D):Option D:=if one? y then some (.bool (mQ x y)) else none
theorem op_isB:OpR X (compareOp .Is) (λx y H Q=>∃b,y=.bl b/\Q (.bl (decide (x=.bl b))) H):=by
 intro pins s σ H x y v u Q I rx ry h
 obtain⟨b,rfl,q⟩:=h
 cases (show u=Value.bool b from ry)
 have fin:∀c:Bool,decide (x=V.bl b)=c->EP X pins σ Q (.bool c) s:=λc e=>⟨.bl _,H,I,rfl,e▸q⟩
 cases x with
 | non=>cases (show v=Value.none from rx);exact wpAny_pure (fin _ (by simp))
 | bl c=>cases (show v=Value.bool c from rx);exact wpAny_pure (fin _ (by grind))
 | int i=>obtain⟨t,z⟩:=(show ∃t,v=Value.int i t from rx);cases z;exact wpAny_pure (fin _ (by simp))
 | str i=>obtain⟨t,z⟩:=(show ∃t,v=Value.str i t from rx);cases z;exact wpAny_pure (fin _ (by simp))
 | byt i=>obtain⟨t,z⟩:=(show ∃t,v=Value.bytes i t from rx);cases z;exact wpAny_pure (fin _ (by simp))
 | flt i=>obtain⟨t,z⟩:=(show ∃t,v=Value.float i t from rx);cases z;exact wpAny_pure (fin _ (by simp))
 | ref p=>cases (show v=Value.ref p from rx);exact wpAny_pure (fin _ (by simp))
 | ty p=>cases (show v=Value.type p from rx);exact wpAny_pure (fin _ (by simp))
theorem wN{K:ε}{O:List Addr}{H:Hp}{v u:V}{x y:D}(rv:Rep K O H v x)(ru:Rep K O H u y)(h1:one? y=true):(∃b,u=.bl b/\decide (v=.bl b)=mQ x y)\/(u=.non/\decide (v=.non)=mQ x y):=by
 cases ru with
 | non=>cases rv<;>simp [mQ]
 | bl d=>cases rv<;>simp [mQ]<;>exact decide_eq_decide.mpr Iff.rfl
 | _=>cases h1
theorem dop_is:DOp X (compareOp .Is) oIs:=by
 refine⟨_,op_isB.or op_isN,λO H x y d v u Q oo rx ry e k=>?_⟩
 unfold oIs at e
 by_cases h1:one? y=true
 ·rw[if_pos h1] at e
  cases e
  rcases wN rx ry h1 with ⟨b,h2,h3⟩ | ⟨h2,h3⟩
  ·exact .inl ⟨b,h2,h3▸k _ _ (λ_ _ h=>h) (h3▸.bl _)⟩
  ·exact .inr ⟨h2,h3▸k _ _ (λ_ _ h=>h) (h3▸.bl _)⟩
 simp_all
end
end DL
namespace DL
open PyProof.Rows L2
section
variable{X:Cx}
noncomputable def jr:List D->Option D
 | [.int i]=>if i.natAbs.log2<1920 then some (.str (Str.ofString (toString i))) else none
 | _=>none
theorem dv:km X (.type "str") jr:=by
 refine⟨_,nz,λO H ds d vs Q oo rs e k=>?_⟩
 unfold jr at e
 split at e
 ·rename_i i
  by_cases hz:i.natAbs.log2<1920
  ·rw[if_pos hz] at e
   cases e
   obtain⟨v,rfl,r⟩:=eS rs
   exact⟨i,by rw[r.int_inv],hz,k _ H (aM.refl H) (.str _)⟩
  ·rw[if_neg hz] at e;cases e
 ·cases e
end
end DL
namespace DL
open PyProof.Rows L2
section
variable{δ:DS}{y:XD}{x:Str}{N i:Nat}{gb:DS->M Out}{gs:Addr->DS->M Out}{o:Out}
theorem Cq{F:List D->M D}{fa:DS->M (List D)}{ds:List D}{d:D}(h1:fa δ=M.ret ds)(h2:F ds=M.ret d):aH F fa δ=M.ret d:=by unfold aH;rw[h1];exact h2
end
end DL
namespace DL
open PyProof.Rows L2
section
variable{X:Cx}{G:XD->Hp->Prop}{a b c e:Expr}{es:List Expr}{f:DS->M D}{fb:DS->M Bool}{fa:DS->M (List D)}{pos:Pos}{sts:List Stmt}{gs:DS->M Out}
end
section
variable{X:Cx}
noncomputable def oInt:List D->Option D
 | [.int i]=>some (.int i)
 | [.bool b]=>some (.int (if b then 1 else 0))
 | _=>none
end
section
variable{δ δ':DS}{f:DS->M D}{fb:DS->M Bool}{fa:DS->M (List D)}{gs gt g1 g2:DS->M Out}{d x y:D}{b:Bool}{ds:List D}{r:M Out}{o:Out}
theorem bN(h1:fb δ=M.ret b)(hb:b=false)(h2:gt δ=r):bf (gIf fb g1 bV) gt δ=r:=by
 subst hb
 unfold bf gIf;rw[h1,aQ,if_neg Ξ];exact h2
theorem gE(h1:fb δ=M.ret b)(hb:b=false):gIf fb g1 bV δ=M.ret (.nx δ):=by
 subst hb
 unfold gIf;rw[h1,aQ,if_neg Ξ];rfl
theorem o_addS{xs ys:Str}(h:bi (xs.length+ys.length)=true):bm (.str xs) (.str ys)=some (.str (xs++ys)):=by
 show(if bi (xs.length+ys.length)=true then _ else _)=_
 simp_all
end
end DL
namespace L2
open PyProof.Rows
section
variable{X:Cx}
theorem Inv.turnNew{pins:List (Addr×Obj)}{σ:St}{H:Hp}{s:Shared}{h':Heap}{t':Nat}{ch:List Addr}{a:Addr}{o:HO}(I:Inv X pins σ H s)(hf:∀b∈ch,nI X pins H b)
  (k:∀b u,b∉ch->s.heap.get? b=some u->h'.get? b=some u) (hp:s.heap.objs.size<=a) (new:eQ X.prog X.w (upd H a o) h' a o):Inv X pins σ (upd H a o) { s with heap:=h',toks:=t' }:=by
 have hn:=I.hok.fresh hp
 have nc:∀{b:Addr} {u:HO},H b=some u->b∉ch:=λe z=>by rw[(hf _ z).1] at e;cases e
 refine I.call ⟨λb u q _ _ hc=>k b u hc q,λb u q _ _ hc=>⟨u.slots,k b u hc q⟩,λb u q n _=>?_,λb u q hc=>⟨u,k b u hc q⟩,λb xs q=>?_,λb u xs q=>?_,λb ps q=>⟨#[],?_⟩⟩ (λb u e=>?_) I.bare λb hb=>?_
 ·rw[upd_ne (Y4 (Z8 (Heap.lt_size q) hp))];exact n
 ·rw[upd_ne (bp q hn)];exact q
 ·rw[upd_ne (bp q hn)];exact q
 ·rw[upd_ne (bp q hn),q];simp
 ·by_cases hb:b=a
  ·subst hb;rw[aN] at e;simp_all
  ·rw[upd_ne hb] at e
   refine(I.hok b u e).stay (λc v hc q=>k c v ?_ q) (λc q=>by rw[upd_ne (bp q hn)];exact q) λc xs q=>by rw[upd_ne (bp q hn)];exact q
   grind
 ·obtain⟨_,f1,_,f3,f4,f5⟩:=hf b hb
  grind
theorem Inv.turnAll{pins:List (Addr×Obj)}{σ:St}{H:Hp}{s:Shared}{h':Heap}{t':Nat}{ch:List Addr}(I:Inv X pins σ H s)(hf:∀b∈ch,nI X pins H b)
  (k:∀b u,b∉ch->s.heap.get? b=some u->h'.get? b=some u):Inv X pins σ H { s with heap:=h',toks:=t' }:=by
 have nc:∀{b:Addr} {u:HO},H b=some u->b∉ch:=λe z=>by rw[(hf _ z).1] at e;cases e
 refine I.call ⟨λb u q _ _ hc=>k b u hc q,λb u q _ _ hc=>⟨u.slots,k b u hc q⟩,λb u q n _=>n,λb u q hc=>⟨u,k b u hc q⟩,λb xs q=>q,λb u xs q=>q,λb ps q=>⟨#[],by assumption⟩⟩ (λb u e=>?_) I.bare λb hb=>?_
 ·refine(I.hok b u e).stay (λc v hc q=>k c v ?_ q) (λc q=>q) λc xs q=>q
  grind
 ·obtain⟨_,f1,_,f3,f4,f5⟩:=hf b hb
  grind
end
noncomputable def Ite(K:ε)(a:Addr):It :=
  ⟨λi H=>∃xs x,SqL K H a xs/\xs[i]?=some x,
   λi H v H'=>∃T,v=.ref T/\H T=none/\∀xs x,SqL K H a xs->xs[i]?=some x->H'=upd H T (.tup [.int i,x]),
   λi H=>∃xs,SqL K H a xs/\xs.length<=i⟩
noncomputable def Its(x:Str):It:=⟨λi _=>i<x.length,λi H v H'=>H'=H/\∃c,x.cps[i]?=some c/\v=.str ⟨#[c]⟩,λi _=>x.length<=i⟩
theorem rq{h:Heap}{a b:Addr}{o u:Obj}(e:h.get? a=some o)(e':h.get? b=some u)(d:o.cls≠u.cls):a≠b:=λz=>by
 simp_all
theorem ty_ne{a b:String}(h:a≠b):Value.type a≠Value.type b:=λz=>h (Value.type.inj z)
theorem zi{P:Program}{w:World}{K:ε}{elts:List Expr}{x1:Nat}{tpos:Pos}(a e it:Addr)(n1:e≠it) :
  Turn P w K (.Tuple elts x1 tpos) (Ite K a) [e,it] e (λi h=>(∃old,IsEnum h e it ((i:Nat):Int) old)/\h.IsListIter it a i) where
 mem:=by simp
 obj:=λi h st c hc=>by
  obtain⟨⟨old,he⟩,⟨o1,e1,c1,d1⟩⟩:=st
  grind
 keep:=λi h h' st k=>by
  obtain⟨⟨old,he⟩,h1⟩:=st
  exact⟨⟨old,k e (by simp) _ he⟩,h1.at λo e=>k it (by simp) o e⟩
 item:=by
  intro X hP hw hK hc i pins s σ H E I hf st hg
  subst hP hw hK
  obtain⟨⟨old,he⟩,h1⟩:=st
  obtain⟨xs,x,hq,hx⟩:=hg
  obtain⟨its,rv,p,_⟩:=I.list hq
  obtain⟨ux,hux,rx⟩:=rv.get hx
  obtain⟨o1,e1,c1,d1⟩:=id h1
  have fr:H s.heap.objs.size=none:=I.hok.fresh (ρ _)
  have ne:∀{c:Addr} {o:Obj},s.heap.get? c=some o->s.heap.objs.size≠c:=λe=>Nat.ne_of_gt (Heap.lt_size e)
  obtain⟨oa,ea,ca,da⟩:=id p.isList
  have ne1:a≠e:=rq ea he (by simp_all)
  have ne2:a≠it:=rq ea e1 (by simp_all)
  refine wpAny_pyNext_enum_item he h1 p.isList (x:=ux) (by simp_all) n1 λh' e' h1' T' sz k=>?_
  refine⟨_,rfl,wpAny_letOwnedTupleGo_enum e' λh2 he2 sb=>?_⟩
  have k2:∀c o,c∉[e,it]->s.heap.get? c=some o->h2.get? c=some o:=λc o hc q=>by
   simp only[Θ,Y9,or_false,not_or] at hc
   exact sb.extBut _ _ hc.1 (k c o hc.1 hc.2 q)
  have T2:h2.get? s.heap.objs.size=some { cls:=.type "tuple",data:=.seq #[.int i s.toks,ux] }:=sb.extBut _ _ (ne he) T'
  have I1:Inv X pins σ (upd H s.heap.objs.size (.tup [.int i,x])) { s with heap:=h2,toks:=s.toks+1 }:=by
   refine I.turnNew hf k2 (ρ _) ⟨by show 2<=_;rw[sizeLine_eq];omega,[.int i s.toks,ux],.cons ⟨_,rfl⟩ (.cons rx .nil),?_⟩
   exact⟨_,T2,rfl,0,rfl⟩
  refine⟨.ref s.heap.objs.size,_,I1,rfl,⟨_,rfl,fr,λxs' x' q1 q3=>?_⟩,⟨⟨ux,he2⟩,h1'.extBut sb.extBut n1.symm⟩,λc hc=>?_⟩
  ·rw[I.list_inj q1 hq] at q3
   simp_all
  ·have hn:c≠s.heap.objs.size:=by
    grind
   rw[upd_ne hn]
   exact(hf c hc).1
 done:=by
  intro X hP hw hK hc i pins s σ H E I hf st hg
  subst hP hw hK
  obtain⟨⟨old,he⟩,h1⟩:=st
  obtain⟨xs,hq,hx⟩:=hg
  obtain⟨its,rv,p,_⟩:=I.list hq
  have hl:=rv.length
  refine wpAny_pyNext_enum_end (I.ok.hd hc) he h1 p.isList (by simp_all) λh' k=>⟨rfl,?_⟩
  refine I.turnAll (t':=s.toks) hf λc o hc e=>?_
  simp only[Θ,Y9,or_false,not_or] at hc
  exact k c o hc.2 e
 self:=λ_ _ _ _ _ st h=>by
  obtain⟨⟨old,he⟩,_⟩:=st
  exact wpAny_pyIter_enum he h
section
variable{X:Cx}{elts:List Expr}{x1:Nat}{tpos:Pos}
noncomputable def iEnum(K:ε)(ta:TA):TI:=λσ H R=>ta σ H λvs H1=>∃a,vs=[.ref a]/\(∃xs,SqL K H1 a xs)/\R (Ite K a) H1
noncomputable def iStr(tl:TE):TI:=λσ H R=>tl σ H λx H1=>∃z,x=.str z/\R (Its z) H1
theorem Dz{a:Expr}{ta:TA}{p pos:Pos}(hg:Gl X "enumerate")(hm:X.mg "enumerate" = none)(ha:PA X [a] ta)(hs:starEach [a] X.env=[(false,eval a X.env)]:=by rfl) :
  PI X (.Tuple elts x1 tpos) (.Call (.Name "enumerate" p) [a] [] pos) (iEnum X.K ta):=by
 intro pins s σ H R I h
 refine Call_ (mn I hg hm boot_enumerate (PyProof.Rows.callWith_type1 (thn (ha pos pins s σ H _ I h) λus s1 ⟨vs,H1,I1,r1,q1⟩=>?_) hs rfl))
 obtain⟨l1,e,⟨xs,hx⟩,q⟩:=q1
 subst e
 cases r1 with
 | cons r rr =>
  cases rr
  cases r
  obtain⟨its,rv,pl,_⟩:=I1.list hx
  refine call_enumerate_list pl.isList λh' he h1 sz k=>wpAny_pyIter_enum he ?_
  refine⟨s1.heap.objs.size+1,[s1.heap.objs.size+1,s1.heap.objs.size],_,_,H1,rfl,I1.kept (t':=s1.toks) k,
   zi l1 (s1.heap.objs.size+1) s1.heap.objs.size (by simp),⟨⟨_,he⟩,h1⟩,λc hc=>?_,q⟩
  have hc':s1.heap.objs.size<=c:=by
   grind
  exact I1.fpOk hc' (I1.hok.fresh hc')
theorem pL{P:Program}{w:World}{K:ε}{tg:Expr}(it:Addr)(x:Str)(t:Tok):Turn P w K tg (Its x) [it] it (λi h=>h.IsStrIter it "str_ascii_iterator" x t i) where
 mem:=by simp
 obj:=λi h st b hb=>by
  have e:b=it:=by simp_all
  subst e
  obtain⟨o,e,c,d⟩:=st
  simp_all
 keep:=λi h h' st k=>let ⟨o,ho,r⟩:=st;⟨o,k it (by simp) o ho,r⟩
 item:=by
  intro X hP hw hK hc i pins s σ H E I hf st hg
  obtain⟨f0,f1,f2,f3,f4,f5⟩:=hf it (by simp)
  have hg:i<x.cps.size:=hg
  refine wpAny_pyNext_ascii_item st (c:=x.cps[i]) (by simp [hg]) λh' st' sb=>?_
  have I1:Inv X pins σ H { s with heap:=h',toks:=s.toks+1 }:=I.turned (λb o hb e=>(sb.2 b hb).trans e) f0 f1 f3 f4 f5
  obtain⟨o,e,c1,d1⟩:=id st'
  exact⟨_,rfl,vV e c1 d1 (by decide) ⟨.str ⟨#[x.cps[i]]⟩,H,I1,⟨_,rfl⟩,⟨rfl,x.cps[i],by simp [hg],rfl⟩,st',λb hb=>(hf b hb).1⟩⟩
 done:=by
  intro X hP hw hK hc i pins s σ H E I hf st hg
  obtain⟨f0,f1,f2,f3,f4,f5⟩:=hf it (by simp)
  have hg:x.cps.size<=i:=hg
  exact wpAny_pyNext_ascii_end (I.ok.hd hc) st (by simp_all) λh' eb=>⟨rfl,I.turned (λb o hb e=>eb b o hb e) f0 f1 f3 f4 f5⟩
 self:=λ_ _ _ _ _ st h=>wpAny_pyIter_striter_ascii st h
theorem rK{P:Program}{w:World}{K:ε}{tg:Expr}(it:Addr)(x:Str)(t:Tok):Turn P w K tg (Its x) [it] it (λi h=>h.IsStrIter it "str_iterator" x t i) where
 mem:=by simp
 obj:=λi h st b hb=>by
  have e:b=it:=by simp_all
  subst e
  obtain⟨o,e,c,d⟩:=st
  simp_all
 keep:=λi h h' st k=>let ⟨o,ho,r⟩:=st;⟨o,k it (by simp) o ho,r⟩
 item:=by
  intro X hP hw hK hc i pins s σ H E I hf st hg
  obtain⟨f0,f1,f2,f3,f4,f5⟩:=hf it (by simp)
  have hg:i<x.cps.size:=hg
  refine wpAny_pyNext_wide_item st (c:=x.cps[i]) (by simp [hg]) λh' st' sb=>?_
  have I1:Inv X pins σ H { s with heap:=h',toks:=s.toks+1 }:=I.turned (λb o hb e=>(sb.2 b hb).trans e) f0 f1 f3 f4 f5
  obtain⟨o,e,c1,d1⟩:=id st'
  exact⟨_,rfl,vV e c1 d1 (by decide) ⟨.str ⟨#[x.cps[i]]⟩,H,I1,⟨_,rfl⟩,⟨rfl,x.cps[i],by simp [hg],rfl⟩,st',λb hb=>(hf b hb).1⟩⟩
 done:=by
  intro X hP hw hK hc i pins s σ H E I hf st hg
  obtain⟨f0,f1,f2,f3,f4,f5⟩:=hf it (by simp)
  have hg:x.cps.size<=i:=hg
  exact wpAny_pyNext_wide_end (I.ok.hd hc) st (by simp_all) λh' eb=>⟨rfl,I.turned (λb o hb e=>eb b o hb e) f0 f1 f3 f4 f5⟩
 self:=λ_ _ _ _ _ st h=>wpAny_pyIter_striter_wide st h
theorem pi_str{l:Expr}{tl:TE}{tg:Expr}(hl:PE X l tl):PI X tg l (iStr tl):=by
 intro pins s σ H R I h
 refine thn (hl pins s σ H _ I h) λv s1 ⟨x,H1,I1,r1,q1⟩=>?_
 obtain⟨z,e,q⟩:=q1
 subst e
 obtain⟨t,rfl⟩:=r1
 have fp:∀b∈[s1.heap.objs.size],nI X pins H1 b:=λb hb=>by
  have e:b=s1.heap.objs.size:=by simp_all
  subst e
  exact I1.fpOk (ρ _) (I1.hok.fresh (ρ _))
 cases ha:z.cps.all (· < 128)
 ·exact wpAny_pyIter_wide ha ⟨s1.heap.objs.size,[s1.heap.objs.size],_,_,H1,rfl,I1.kept λb o e=>Heap.get?_push_of_some _ e,rK _ z t,⟨_,Heap.get?_push_size _ rfl,rfl,rfl⟩,fp,q⟩
 ·exact wpAny_pyIter_ascii ha ⟨s1.heap.objs.size,[s1.heap.objs.size],_,_,H1,rfl,I1.kept λb o e=>Heap.get?_push_of_some _ e,pL _ z t,⟨_,Heap.get?_push_size _ rfl,rfl,rfl⟩,fp,q⟩
end
end L2
namespace L2
open PyProof.Rows
noncomputable def bx(X:Cx)(scope:Scope)(cl:List (Str×Addr))(fr:List (Nat×Str))(tn:List Str)(C:Addr)(s3:Shared)(H3:Hp)(fp:List Addr):Cx where
 prog:=X.prog
 w:=X.w
 K:=X.K
 mg:=X.mg
 base:=X.base
 A:=X.A
 N:=tn++fr.map (·.2)
 s₀:=s3
 H₀:=H3
 env:=compEnvC scope cl C X.env
 outer:=X.stack
 stack:=X.stack
 ex:=fp
 fn:=λ_=>false
 calm:=X.calm
 pn:=[]
 xe:=λ_ _=>False
noncomputable def mF(n:Nat)(fr:List (Nat×Str))(σ:St):St:=X2 n none++fr.map λp=>(σ[p.1]?).join
def nP(n:Nat)(fr:List (Nat×Str))(wi:TI)(g:TG)(tc:TT)(te:TE):TE:=λσ H Q=>wi σ H λJ H1=>∀l,H1 l=none->∃W:Nat->Nat->St->List V->Hp->Prop,(∃m,W 0 m (mF n fr σ) [] (upd H1 l (.lst []))) /\
 ∀i m τ xs H2,W i m τ xs H2->H2 l=some (.lst xs)/\((J.stop i H2/\Q (.ref l) H2)\/(J.go i H2/\xs.length<sizeLine/\∀x H3,J.yld i H2 x H3->g x τ H3 λτ' H4=>tc τ' H4 λb H5=>if b=true then te τ' H5 λv H6=>H6 l=some (.lst xs)/\∃m',m'<m/\W (i+1) m' τ' (xs++[v]) (upd H6 l (.lst (xs++[v]))) else ∃m',m'<m/\W (i+1) m' τ' xs H5))
section
variable{X:Cx}
theorem CH{cl:List (Str×Addr)}{fr:List (Nat×Str)}{scope:Scope}{tn:List Str}{C:Addr}{s3:Shared}{H3:Hp}{fp:List Addr}{pins:List (Addr×Obj)}{σ:St}(I:Inv X pins σ H3 s3)(hkind:scope.kind=.function)(hsub:∀y c,cl.lookup y=some c->X.env.cells.lookup y=some c)(hhas:∀y∈(relabel scope X.env).names,(y.2=.cell\/y.2=.free)->∃c,cl.lookup y.1=some c)
  (hC:s3.heap.objs.size<=C) (hf:∀b∈fp,nI X pins H3 b/\∃o,s3.heap.get? b=some o) (hfs:∀b∈fp,b∉frs X.stack) (hbase:∀b∈fp,X.base.get? b=none):(bx X scope cl fr tn C s3 H3 fp).Ok where
 mod:=I.ok.mod
 kind:=hkind
 glob:=I.ok.glob
 blt:=I.ok.blt
 above:=hC
 inj:=λy z c h1 h2=>I.ok.inj y z c (hsub y c h1) (hsub z c h2)
 has:=λy h=>by
  rcases h with h | h
  ·exact hhas _ (PySem.mem_of_lookup h) (.inl rfl)
  ·exact hhas _ (PySem.mem_of_lookup h) (.inr rfl)
 cab:=λy c h=>by cases h
 hd:=I.ok.hd
 frames:=I.ok.frames
 stk:=.inl rfl
 exf:=λb hb=>⟨by
  obtain⟨o,ho⟩:=(hf b hb).2
  exact Y4 (Z8 (Heap.lt_size ho) hC),λy c h=>(hf b hb).1.2.2.2.2.1 y c (hsub y c h)⟩
 bs:=I.bs
 bsz:=X5 I.ok.bsz I.sz
 noex:=λb o e hb=>by
  have e1:X.base.get? b=some o:=e
  rw[hbase b hb] at e1;cases e1
 exfs:=hfs
 funs:=I.stack
 frf:=I.stkFree
theorem sQ{cl:List (Str×Addr)}{fr:List (Nat×Str)}{scope:Scope}{tn:List Str}{C:Addr}{s3 s5:Shared}{H3 H5:Hp}{fp:List Addr}{pins pins5:List (Addr×Obj)}{σ σ5:St}{h':Heap}(I:Inv X pins σ H3 s3)(hf:∀b∈fp,nI X pins H3 b)(hC:s3.heap.objs.size<=C)
  (I5:Inv (bx X scope cl fr tn C s3 H3 fp) pins5 σ5 H5 s5) (hs:Heap.SameBut C s5.heap h'):Inv X pins σ H5 { s5 with heap:=h' }:=by
 have nC:∀{b:Addr} {o:Obj},s3.heap.get? b=some o->b≠C:=λe=>Y4 (Z8 (Heap.lt_size e) hC)
 have u:Un (frs X.stack) fp H3 H5 s3.heap s5.heap:=I5.base
 refine I.call' (ch:=fp) I5.os ⟨λb o e n h1 h2=>?_,λb o e n h1 h2=>?_,u.free,λb o e h2=>?_,u.tups,u.frzs,u.tbls⟩ ?_ I5.bare λb hb=>?_
 ·exact(hs.2 b (nC e)).trans (u.keep b o e n h1 h2)
 ·obtain⟨sl,e1⟩:=u.slot b o e n h1 h2
  exact⟨sl,(hs.2 b (nC e)).trans e1⟩
 ·obtain⟨o',e1⟩:=u.there b o e h2
  exact⟨o',(hs.2 b (nC e)).trans e1⟩
 ·intro a o e
  have hn:H5 C=none:=I5.free
  refine(I5.hok a o e).stay (λb u hb q=>(hs.2 b ?_).trans q) (λ_ q=>q) λ_ _ q=>q
  grind
 ·obtain⟨_,f1,_,f3,f4,f5⟩:=hf b hb
  grind
def PTs(X:Cx)(ifs:List Expr)(t:TT):Prop :=
 ∀(pins:List (Addr×Obj)) (s:Shared) (σ:St) (H:Hp) (Q:Bool->Hp->Prop),Inv X pins σ H s->t σ H Q ->
  wpAny (model X.prog X.w) X.A (forIn ifs true λc r=>if r=true then do let ok <- isTrue c X.env (eval c X.env);pure (ForInStep.yield ok) else pure (ForInStep.yield r)) (TP X pins σ Q) X.xe s
noncomputable def tYes:TT:=λ_ H Q=>Q true H
theorem Dr:PTs X [] tYes:=λpins s σ H Q I h=>wpAny_tests_nil ⟨H,I,h⟩
theorem Dq{c:Expr}{t:TT}(h:PT X c t):PTs X [c] t:=λpins s σ H Q I hq=>wpAny_tests_one (h pins s σ H Q I hq)
theorem sP{cl:List (Str×Addr)}{fr:List (Nat×Str)}{tn:List Str}{elt iter tg:Expr}{ifs:List Expr}{scope:Scope}{pos:Pos}{wi:TI}{g:TG}{tc:TT}{te:TE}(hc:X.calm=true)
  (hkind:scope.kind=.function) (hcell:∀y∈scope.names,y.2≠.cell) (hclos:closureFor scope X.env=pure cl) (hsub:∀y c,cl.lookup y=some c->X.env.cells.lookup y=some c)
  (hhas:∀y∈(relabel scope X.env).names,(y.2=.cell\/y.2=.free)->∃c,cl.lookup y.1=some c) (hfr:∀p∈fr,X.N[p.1]?=some p.2/\X.env.kindOf p.2=some .cell/\(compEnvC scope cl 0 X.env).kindOf p.2=some .cell/\∃c,cl.lookup p.2=some c) (hnames:∀y∈scope.names,y.2=.local->scope.names.lookup y.1=some .local)
  (hi:PI X tg iter wi) (hg:∀C s3 H3 fp,PG (bx X scope cl fr tn C s3 H3 fp) tg g) (hcs:∀C s3 H3 fp,PTs (bx X scope cl fr tn C s3 H3 fp) ifs tc) (he:∀C s3 H3 fp,PE (bx X scope cl fr tn C s3 H3 fp) elt te) (hs:∀x,foldedSetIterable iter X.env x=pure x)
  {qp:Pos} {use:Option (Value->Sem Unit)} {P:Value->Shared->Prop} {pins:List (Addr×Obj)} {s:Shared} {σ:St} {H:Hp} {Q:VK} (I:Inv X pins σ H s) (h:nP tn.length fr wi g tc te σ H Q)
  (fin:∀{D:Addr} {s3 s6:Shared} {H3 H5:Hp} {fp:List Addr} {pins5:List (Addr×Obj)} {σ5:St} {r:Flow},Inv X pins σ H3 s3->(∀b∈fp,nI X pins H3 b)->Inv (bx X scope cl fr tn s3.heap.objs.size s3 H3 fp) pins5 σ5 H5 s6->Q (.ref D) H5 ->
   compPost (model X.prog X.w) X.A X.xe use P (.ref D) s3.heap.objs.size (.ok r) s6) :
  wpAny (model X.prog X.w) X.A (comprehension (.ListComp elt [⟨tg,iter,ifs,0⟩] scope pos) scope X.env qp (newList []) false (eval iter X.env) use) P X.xe s:=by
 refine wpAny_comprehension_free rfl hs hclos hkind hnames (thn (hi pins s σ H _ I h) λv s1 h1=>thn h1 λitv s2 h2=>?_)
 obtain⟨it,fp,tk,J,H2,e,I2,T,st2,f2,R⟩:=h2
 subst e
 have fl:H2 s2.heap.objs.size=none:=I2.hok.fresh (ρ _)
 obtain⟨W,⟨m0,w0⟩,turn⟩:=R s2.heap.objs.size fl
 refine wpAny_newObj_type (wpAny_newFunctionEnv hcell (by intro y hy;simp at hy) (λh4 hns hsb=>?_) hkind)
 have I3:Inv X pins σ (upd H2 s2.heap.objs.size (.lst [])) { s2 with heap:=s2.heap.push { cls:=.type "list",data:=.seq ([]:List Value).toArray } } :=
  I2.laid (t':=s2.toks) (λb o e=>Heap.get?_push_of_some _ e) (ρ _) ⟨X9 _,[],0,.nil,Heap.get?_push_size _ rfl⟩
 have ob:∀b∈fp,∃o,s2.heap.get? b=some o:=λb hb=>let ⟨o,ho,_⟩:=T.obj 0 _ st2 b hb;⟨o,ho⟩
 have f3:∀b∈fp,nI X pins (upd H2 s2.heap.objs.size (.lst [])) b:=λb hb=>by
  obtain⟨g0,g1,g2,g3,g4,g5⟩:=f2 b hb
  obtain⟨o,ho⟩:=ob b hb
  exact⟨by rw[upd_ne (Y4 (Heap.lt_size ho))];exact g0,g1,g2,g3,g4,g5⟩
 generalize hs3:({ s2 with heap:=s2.heap.push { cls:=.type "list",data:=.seq ([]:List Value).toArray } }:Shared)=s3 at I3
 have heap3:s2.heap.push { cls:=.type "list",data:=.seq ([]:List Value).toArray }=s3.heap:=by rw[<-hs3]
 have old3:∀b o,s2.heap.get? b=some o->s3.heap.get? b=some o:=λb o e=>by rw[<-heap3];exact Heap.get?_push_of_some _ e
 have ok3:(bx X scope cl fr tn s3.heap.objs.size s3 (upd H2 s2.heap.objs.size (.lst [])) fp).Ok:=by
  refine CH I3 hkind hsub hhas (ρ _) (λb hb=>⟨f3 b hb,let ⟨o,ho⟩:=ob b hb;⟨o,old3 b o ho⟩⟩) (λb hb z=>?_) λb hb=>?_
  ·obtain⟨_,g1,g2,_⟩:=f2 b hb
   rcases Θ.mp (I2.stkSub b z) with q | q
   ·exact g1 q
   ·exact g2 q
  ·obtain⟨_,_,_,g3,_⟩:=f2 b hb
   rcases g3 with q | q
   ·cases e:X.base.get? b with
    | none=>rfl
    | some o=>exact absurd q (I.ok.noex b o e)
   ·exact Heap.get?_none_of_le (X5 I.ok.bsz q)
 have hns3:h4.Ns s3.heap.objs.size (λy=>([]:List (Str×Value)).reverse.lookup y):=by rw[<-heap3];exact hns
 have keep4:∀b o,s3.heap.get? b=some o->h4.get? b=some o:=λb o e=>by
  have e1:(s2.heap.push { cls:=.type "list",data:=.seq ([]:List Value).toArray }).get? b=some o:=by rw[heap3];exact e
  exact(hsb.2 b (Y4 (Heap.lt_size e1))).trans (Heap.get?_push_of_some _ e1)
 have I4:Inv (bx X scope cl fr tn s3.heap.objs.size s3 (upd H2 s2.heap.objs.size (.lst [])) fp) [] (mF tn.length fr σ) (upd H2 s2.heap.objs.size (.lst [])) { s3 with heap:=h4 }:=by
  refine⟨ok3,rfl,I3.bare,Un.kept keep4,⟨_,hns3,λi y v e1 e2 e3=>?_⟩,(λy c h=>let ⟨v,oc,ho,hd⟩:=I3.cell y c (hsub y c h);⟨v,oc,keep4 _ _ ho,hd⟩),I3.hok.fresh (ρ _),(λy c h=>I3.freeC y c (hsub y c h)),(λp hp=>nomatch hp),I3.hok.kept keep4,by simp [bx,mF]⟩
  have e1:(tn++fr.map (·.2))[i]?=some y:=e1
  have e2:(X2 tn.length none++fr.map λp=>(σ[p.1]?).join)[i]?=some (some v):=e2
  by_cases hlt:i<tn.length
  ·rw[Z0 (by simpa using hlt),List.getElem?_replicate] at e2
   split at e2<;>cases e2
  ·rw[Ψ (by omega)] at e1
   rw[Ψ (by simpa using hlt),U5] at e2
   rw[Z6] at e1 e2
   cases q:fr[i-tn.length]? with
   | none=>rw[q] at e1;cases e1
   | some p =>
    rw[q] at e1 e2
    have e1:p.2=y:=Option.some.inj e1
    have e2:(σ[p.1]?).join=some v:=Option.some.inj e2
    subst e1
    obtain⟨g1,g2,g3,c,g4⟩:=hfr p (Y3 q)
    have e4:σ[p.1]?=some (some v):=by
     cases z:σ[p.1]? with
     | none=>rw[z] at e2;cases e2
     | some w'=>rw[z] at e2;exact congrArg some e2
    obtain⟨m,hn,hl⟩:=I3.loc
    obtain⟨u,ru,lk⟩:=hl p.1 p.2 v g1 e4 (.inr (.inl g2))
    refine⟨u,ru,.inr ⟨.inl g3,c,g4,?_⟩⟩
    rcases lk with ⟨k1,_⟩ | ⟨_,c',k2,k3⟩
    ·rw[g2] at k1;cases k1
    ·rw[hsub _ _ g4] at k2
     cases k2
     obtain⟨oc,ho,hd⟩:=k3
     exact⟨oc,keep4 _ _ ho,hd⟩
 have st4:tk 0 h4:=T.keep 0 _ _ st2 λb hb o e=>keep4 b o (old3 b o e)
 have loop:codeAny (model X.prog X.w) X.A (.compLoop (.ListComp elt [⟨tg,iter,ifs,0⟩] scope pos) 0 (.ref it) (.ref s2.heap.objs.size) (compEnvC scope cl s3.heap.objs.size X.env))
   (compPost (model X.prog X.w) X.A X.xe use P (.ref s2.heap.objs.size) s3.heap.objs.size) { s3 with heap:=h4 }:=by
  refine codeAny_loop rfl (λn s'=>∃i σ' xs H',Inv (bx X scope cl fr tn s3.heap.objs.size s3 (upd H2 s2.heap.objs.size (.lst [])) fp) [] σ' H' s'/\tk i s'.heap/\(∀b∈fp,H' b=none)/\W i n σ' xs H') (λn s' hI=>?_) m0
   ⟨0,_,[],_,I4,st4,λb hb=>(f3 b hb).1,w0⟩
  show wpAny _ _ ((compTurn (.ListComp elt [⟨tg,iter,ifs,0⟩] scope pos) 0 (.ref it) (.ref s2.heap.objs.size) (compEnvC scope cl s3.heap.objs.size X.env)).onRaise (λx=>do noteFrame x _;theTreesLotGoes x)) _ _ s'
  refine wpAny_noted ?_
  rw[compTurn_list]
  obtain⟨i,σ5,xs,H5,I5,st5,fr5,w5⟩:=hI
  have stat:∀{H':Hp},(∀b∈fp,H' b=none)->∀b∈fp,nI (bx X scope cl fr tn s3.heap.objs.size s3 (upd H2 s2.heap.objs.size (.lst [])) fp) [] H' b:=λhn b hb =>
   ⟨hn b hb,(ok3.exf b hb).1,ok3.exfs b hb,.inl hb,(ok3.exf b hb).2,λp hp=>nomatch hp⟩
  obtain⟨hl,alt⟩:=turn i n σ5 xs H5 w5
  rcases alt with ⟨stop,qn⟩ | ⟨go,hz,step⟩
  ·refine wpAny_bind (wpAny_standAt (wpAny_bind (thn (T.done (bx X scope cl fr tn s3.heap.objs.size s3 (upd H2 s2.heap.objs.size (.lst [])) fp) rfl rfl rfl hc i [] s' σ5 H5 _ I5 (stat fr5) st5 stop) λr s6 ⟨hr,I6⟩=>?_)))
   subst hr
   refine wpAny_pure ?_
   exact fin I3 f3 I6 qn
  ·refine wpAny_bind (wpAny_standAt (wpAny_bind (thn (T.item (bx X scope cl fr tn s3.heap.objs.size s3 (upd H2 s2.heap.objs.size (.lst [])) fp) rfl rfl rfl hc i [] s' σ5 H5 _ I5 (stat fr5) st5 go) λr s6 ⟨u,hr,h6⟩=>?_)))
   subst hr
   refine wpAny_bind (thn h6 λ_ s7 ⟨y,H7,I7,r7,y7,st7,fr7⟩=>?_)
   have I7':=I7.pinned (stat fr7) (T.obj _ _ st7)
   have hP:=hg s3.heap.objs.size s3 (upd H2 s2.heap.objs.size (.lst [])) fp _ s7 σ5 H7 y u _ I7' r7 (step y H7 y7)
   refine wpAny_bind (wpAny_mono hP (λ_ s8 ⟨σ8,H8,I8,q8⟩=>?_) (λ_ _ z=>False.elim z))
   refine wpAny_bind (wpAny_mono (hcs s3.heap.objs.size s3 (upd H2 s2.heap.objs.size (.lst [])) fp _ s8 σ8 H8 _ I8 q8) (λb s9 ⟨H9,I9,q9⟩=>?_) (λ_ _ z=>False.elim z))
   have again:∀{σ7:St} {H7:Hp} {s7':Shared} {xs':List V},Inv (bx X scope cl fr tn s3.heap.objs.size s3 (upd H2 s2.heap.objs.size (.lst [])) fp) ([]++qk fp s7.heap) σ7 H7 s7'->(∃m',m'<n/\W (i+1) m' σ7 xs' H7) ->
     ∃m,m<n/\∃i σ' xs H',Inv (bx X scope cl fr tn s3.heap.objs.size s3 (upd H2 s2.heap.objs.size (.lst [])) fp) [] σ' H' s7'/\tk i s7'.heap/\(∀b∈fp,H' b=none)/\W i m σ' xs H':=λ{σ7 H7 s7' xs'} I7 n7=>by
    obtain⟨m',hm,w7⟩:=n7
    refine⟨m',hm,i+1,σ7,xs',H7,I7.unpinned,T.keep _ _ _ st7 λb hb o e=>(I7.pin (b,o) (Y7 _ (Y7 _ (jS hb e)))).1,λb hb=>?_,w7⟩
    obtain⟨o,e,d⟩:=T.obj _ _ st7 b hb
    exact(I7.pin (b,o) (Y7 _ (Y7 _ (jS hb e)))).2.1
   cases b with
   | false =>
    rw[if_neg Ξ] at q9
    exact wpAny_pure ⟨rfl,again I9 q9⟩
   | true =>
    rw[if_pos rfl] at q9
    refine wpAny_bind (wpAny_bind (wpAny_mono (he _ _ _ _ _ s9 σ8 H9 _ I9 q9) (λuv s10 ⟨v,H10,I10,r10,hl10,w10⟩=>?_) λ_ _ z=>z.elim))
    refine wpAny_bind (wpAny_mono (n9 (X:=bx X scope cl fr tn s3.heap.objs.size s3 (upd H2 s2.heap.objs.size (.lst [])) fp) _ s10 _ H10 (.ref s2.heap.objs.size) [v] (.ref s2.heap.objs.size) [uv] (λ_ H'=>H'=upd H10 s2.heap.objs.size (.lst (xs++[v]))) I10 rfl (.cons r10 .nil) ⟨_,xs,v,rfl,rfl,hl10,hz,rfl⟩) (λ_ s11 ⟨v11,H11,I11,r11,q11⟩=>?_) (λ_ _ z=>False.elim z))
    subst q11
    exact wpAny_pure (wpAny_pure ⟨rfl,again I11 w10⟩)
 subst hs3
 exact codeAny_compStart_list loop (T.self _ 0 _ _ _ st4 loop)
theorem vz{cl:List (Str×Addr)}{fr:List (Nat×Str)}{tn:List Str}{elt iter tg:Expr}{ifs:List Expr}{scope:Scope}{pos:Pos}{wi:TI}{g:TG}{tc:TT}{te:TE}(hc:X.calm=true)
  (hkind:scope.kind=.function) (hcell:∀y∈scope.names,y.2≠.cell) (hclos:closureFor scope X.env=pure cl) (hsub:∀y c,cl.lookup y=some c->X.env.cells.lookup y=some c)
  (hhas:∀y∈(relabel scope X.env).names,(y.2=.cell\/y.2=.free)->∃c,cl.lookup y.1=some c) (hfr:∀p∈fr,X.N[p.1]?=some p.2/\X.env.kindOf p.2=some .cell/\(compEnvC scope cl 0 X.env).kindOf p.2=some .cell/\∃c,cl.lookup p.2=some c) (hnames:∀y∈scope.names,y.2=.local->scope.names.lookup y.1=some .local)
  (hi:PI X tg iter wi) (hg:∀C s3 H3 fp,PG (bx X scope cl fr tn C s3 H3 fp) tg g) (hcs:∀C s3 H3 fp,PTs (bx X scope cl fr tn C s3 H3 fp) ifs tc) (he:∀C s3 H3 fp,PE (bx X scope cl fr tn C s3 H3 fp) elt te) (hs:∀x,foldedSetIterable iter X.env x=pure x:=by intro _;rfl) :
  PE X (.ListComp elt [⟨tg,iter,ifs,0⟩] scope pos) (nP tn.length fr wi g tc te):=by
 intro pins s σ H Q I h
 refine sP hc hkind hcell hclos hsub hhas hfr hnames hi hg hcs he hs I h λI3 f3 I6 qn=>?_
 obtain⟨m,hn6,_⟩:=I6.loc
 exact⟨m,hn6,λh' hs'=>⟨.ref _,_,sQ I3 f3 (ρ _) I6 hs',rfl,qn⟩⟩
end
end L2
namespace DL
open PyProof.Rows L2
structure Yl(K:ε)(J:It)(O:List Addr)(H1:Hp)(ds:List D):Prop where
 step:∀(O2:List Addr) (H2:Hp),To O O2 H1 H2->∀(i:Nat) (d:D),ds[i]?=some d->J.go i H2/\∀x H3,J.yld i H2 x H3->aM H2 H3/\Rep K O2 H3 x d
 stop:∀(O2:List Addr) (H2:Hp),To O O2 H1 H2->J.stop ds.length H2
def PDI(X:Cx)(G:XD->Hp->Prop)(tg iter:Expr)(fi:DS->M (List D)):Prop :=
 ∃wi,PI X tg iter wi/\∀{Hr:Hp} (δ:DS) (O:List Addr) (σ:St) (H:Hp) (R:It->Hp->Prop),Ev X.K Hr O H σ δ->ok (GS G Hr) (fi δ) (λds=>∀J H1,aM H H1->Yl X.K J O H1 ds->R J H1)->wi σ H R
section
variable{K:ε}{O:List Addr}{H1:Hp}
theorem CU{a:Addr}{xs:List V}{ds:List D}(hk:∀(O2:List Addr) (H2:Hp),To O O2 H1 H2->SqL K H2 a xs)(rs:Reps K O H1 xs ds):Yl K (Itl K a) O H1 ds:=by
 refine⟨λO2 H2 t i d hd=>?_,λO2 H2 t=>⟨xs,hk O2 H2 t,by rw[rs.length];omega⟩⟩
 obtain⟨v,hv,r⟩:=rs.get hd
 refine⟨⟨xs,v,hk O2 H2 t,hv⟩,λx H3 y=>?_⟩
 obtain⟨rfl,y⟩:=y
 have:=y xs (hk O2 H3 t)
 rw[hv] at this
 cases this
 exact⟨aM.refl _,r.to t⟩
theorem yl_tup{a:Addr}{xs:List V}{ds:List D}(hq:SqT K H1 a xs)(rs:Reps K O H1 xs ds):Yl K (Itt K a) O H1 ds:=by
 refine⟨λO2 H2 t i d hd=>?_,λO2 H2 t=>⟨xs,t.sqT hq,by rw[rs.length];omega⟩⟩
 obtain⟨v,hv,r⟩:=rs.get hd
 refine⟨⟨xs,v,t.sqT hq,hv⟩,λx H3 y=>?_⟩
 obtain⟨rfl,y⟩:=y
 have:=y xs (t.sqT hq)
 rw[hv] at this
 cases this
 exact⟨aM.refl _,r.to t⟩
theorem uL{lo:Int}{n:Nat}:Yl K (Itr lo n) O H1 (fD lo n):=by
 have hl:(fD lo n).length=n:=by unfold fD;simp
 refine⟨λO2 H2 t i d hd=>?_,λO2 H2 t=>by rw[hl];exact ρ _⟩
 have hi:i<n:=by
  grind
 refine⟨hi,λx H3 y=>?_⟩
 obtain⟨rfl,rfl⟩:=y
 unfold fD at hd
 rw[Z6,List.getElem?_range hi] at hd
 cases hd
 exact⟨aM.refl _,.int _⟩
theorem Rep.lstTo{v:V}{ds:List D}(r:Rep K O H1 v (.list ds)):∃a xs,v=.ref a/\SqL K H1 a xs/\(∀(O2:List Addr) (H2:Hp),To O O2 H1 H2->SqL K H2 a xs)/\Reps K O H1 xs ds:=by
 cases r with
 | lst h n rs=>exact⟨_,_,rfl,.inl h,λO2 H2 t=>.inl (t.l _ _ n h).2,rs⟩
 | lstK h rs=>exact⟨_,_,rfl,.inr h,λ_ _ _=>.inr h,rs⟩
noncomputable def fv(n:Nat):List D->List D
 | []=>[]
 | x::xs=>.tuple [.int (n:Int),x]::fv (n+1) xs
theorem oi(n:Nat)(xs:List D):(fv n xs).length=xs.length:=by
 induction xs generalizing n with
 | nil=>rfl
 | cons x xs ih=>show(fv (n+1) xs).length+1=_;simp_all
theorem lL{xs:List D}{n i:Nat}{d:D}(h:(fv n xs)[i]?=some d):∃x,xs[i]?=some x/\d=.tuple [.int ((n+i:Nat):Int),x]:=by
 induction xs generalizing n i with
 | nil=>cases h
 | cons x xs ih =>
  cases i with
  | zero=>cases h;simp
  | succ i =>
   obtain⟨y,hy,e⟩:=ih h
   grind
theorem CV{a:Addr}{xs:List V}{ds:List D}(hk:∀(O2:List Addr) (H2:Hp),To O O2 H1 H2->SqL K H2 a xs)(rs:Reps K O H1 xs ds):Yl K (Ite K a) O H1 (fv 0 ds):=by
 refine⟨λO2 H2 t i d hd=>?_,λO2 H2 t=>⟨xs,hk O2 H2 t,?_⟩⟩
 ·obtain⟨x,hx,rfl⟩:=lL hd
  obtain⟨v,hv,r⟩:=rs.get hx
  refine⟨⟨xs,v,hk O2 H2 t,hv⟩,λz H3 q=>?_⟩
  obtain⟨T,rfl,hT,q⟩:=q
  have e:=q xs v (hk O2 H2 t) hv
  subst e
  rw[Nat.zero_add]
  exact⟨bu hT,jo hT (.cons (.int _) (.cons (r.to t) .nil))⟩
 ·rw[oi,rs.length]
  omega
noncomputable def ff(z:Str):List D:=z.cps.toList.map λc=>.str ⟨#[c]⟩
theorem yl_str{z:Str}:Yl K (Its z) O H1 (ff z):=by
 have hl:(ff z).length=z.length:=by unfold ff;rw[ι,Array.length_toList];rfl
 refine⟨λO2 H2 t i d hd=>?_,λO2 H2 t=>by rw[hl];exact ρ _⟩
 have hi:i<z.length:=by
  grind
 refine⟨hi,λx H3 y=>?_⟩
 obtain⟨rfl,c,hc,rfl⟩:=y
 unfold ff at hd
 rw[Z6,Array.getElem?_toList,hc] at hd
 cases hd
 exact⟨aM.refl _,.str _⟩
end
section
variable{X:Cx}{G:XD->Hp->Prop}{tg iter a b:Expr}{f:DS->M D}{fa:DS->M (List D)}{pos p:Pos}{elts:List Expr}{x1:Nat}{tpos:Pos}
noncomputable def CA(f:DS->M D):DS->M (List D):=λδ=>(f δ).thn λd=>M.lift (seqD d)
theorem DG(h:PD X G iter f):PDI X G tg iter (CA f):=by
 obtain⟨t,q,h⟩:=h
 refine⟨_,pi_seq q,λδ O σ H R E k=>?_⟩
 refine h δ O σ H _ E (au (ay k) λd z v H1 s1 r=>?_)
 obtain⟨ds,hd,z⟩:=cq z
 cases d with
 | list es =>
  obtain⟨a,xs,rfl,hq,hk,rs⟩:=r.lstTo
  exact⟨a,rfl,.inl ⟨⟨xs,hq⟩,z _ H1 s1 (CU hk rs)⟩⟩
 | tuple es =>
  obtain⟨a,xs,rfl,hq,rs⟩:=r.tup_inv
  exact⟨a,rfl,.inr ⟨⟨xs,hq⟩,z _ H1 s1 (yl_tup hq rs)⟩⟩
 | _=>cases hd
noncomputable def uz(rng:List D->Option (List D))(fa:DS->M (List D)):DS->M (List D):=λδ=>(fa δ).thn λds=>M.lift (rng ds)
theorem vE(hgl:Gl X "range")(hm:X.mg "range" = none)(ha:PDA X G [a] fa)(hs1:starEach [a] X.env=[(false,eval a X.env)]:=by rfl):PDI X G tg (.Call (.Name "range" p) [a] [] pos) (uz zu fa):=by
 obtain⟨_,ta,pa,ha⟩:=ha
 refine⟨_,zy hgl hm pa hs1,λδ O σ H R E k=>?_⟩
 refine ha δ O σ H _ E (au (ay k) λds z vs H1 s1 rs=>?_)
 obtain⟨xs,hd,z⟩:=cq z
 unfold zu at hd
 split at hd
 ·rename_i j
  by_cases hz:b62 j=true
  ·rw[if_pos hz] at hd
   cases hd
   obtain⟨v,rfl,r⟩:=eS rs
   obtain⟨z1,z2⟩:=xO hz
   exact⟨j,by rw[r.int_inv],z1,z2,z _ H1 s1 uL⟩
  simp_all
 simp_all
theorem vD(hgl:Gl X "range")(hm:X.mg "range" = none)(ha:PDA X G [a,b] fa)(hs1:starEach [a,b] X.env=[(false,eval a X.env),(false,eval b X.env)]:=by rfl)(hs2:starEach [b] X.env=[(false,eval b X.env)]:=by rfl) :
  PDI X G tg (.Call (.Name "range" p) [a,b] [] pos) (uz wQ fa):=by
 obtain⟨_,ta,pa,ha⟩:=ha
 refine⟨_,zx hgl hm pa hs1 hs2,λδ O σ H R E k=>?_⟩
 refine ha δ O σ H _ E (au (ay k) λds z vs H1 s1 rs=>?_)
 obtain⟨xs,hd,z⟩:=cq z
 unfold wQ at hd
 split at hd
 ·rename_i i j
  by_cases hz:(b62 i&&b62 j)=true
  ·rw[if_pos hz] at hd
   cases hd
   obtain⟨v,v',rfl,r,r'⟩:=vo rs
   obtain⟨hz1,hz2⟩:=X4.mp hz
   obtain⟨z1,z2⟩:=xO hz1
   obtain⟨z3,z4⟩:=xO hz2
   exact⟨i,j,by rw[r.int_inv,r'.int_inv],⟨z1,z2,z3,z4⟩,z _ H1 s1 uL⟩
  simp_all
 simp_all
noncomputable def nv(fa:DS->M (List D)):DS->M (List D):=λδ=>(fa δ).thn λds=>match ds with
 | [.list xs]=>M.ret (fv 0 xs)
 | _=>none
theorem kH(hgl:Gl X "enumerate")(hm:X.mg "enumerate" = none)(ha:PDA X G [a] fa)(hs1:starEach [a] X.env=[(false,eval a X.env)]:=by rfl) :
  PDI X G (.Tuple elts x1 tpos) (.Call (.Name "enumerate" p) [a] [] pos) (nv fa):=by
 obtain⟨_,ta,pa,ha⟩:=ha
 refine⟨_,Dz hgl hm pa hs1,λδ O σ H R E k=>?_⟩
 refine ha δ O σ H _ E (au (ay k) λds z vs H1 s1 rs=>?_)
 match ds,z with
 | [.list xs],z =>
  obtain⟨v,rfl,r⟩:=eS rs
  obtain⟨a1,us,rfl,hq,hk,r1⟩:=r.lstTo
  exact⟨a1,rfl,⟨us,hq⟩,z _ H1 s1 (CV hk r1)⟩
noncomputable def xF(f:DS->M D):DS->M (List D):=λδ=>(f δ).thn λd=>match d with
 | .str z=>M.ret (ff z)
 | _=>none
theorem DF(h:PD X G iter f):PDI X G tg iter (xF f):=by
 obtain⟨t,q,h⟩:=h
 refine⟨_,pi_str q,λδ O σ H R E k=>?_⟩
 refine h δ O σ H _ E (au (ay k) λd z v H1 s1 r=>?_)
 match d,z,r with
 | .str w,z,r=>exact⟨w,r.str_inv,z _ H1 s1 yl_str⟩
noncomputable def ir(fi:DS->M (List D))(t:D->DS->Option DS)(g:DS->M Out):DS->M Out:=λδ=>(fi δ).thn λds=>jv (dG t g) ds δ
theorem fG{body:List Stmt}{t:D->DS->Option DS}{fi:DS->M (List D)}{gs:DS->M Out}(hp:PassesOwn (model X.prog X.w) X.A X.env X.xe)(hc:X.calm=true)(hi:PDI X G tg iter fi)(hg:PDG X tg t)(hb:nH X G body gs)
  (hs:∀x,foldedSetIterable iter X.env x=pure x:=by intro _;rfl):PDS X G (.For tg iter body [] pos) (ir fi t gs):=by
 obtain⟨wi,pi,hi⟩:=hi
 obtain⟨tgt,pt,hg⟩:=hg
 obtain⟨tb,pb,hb⟩:=hb
 refine⟨_,AY hp hc pi pt pb hs,@λHr R0 P0 H0 δ O σ H Dn E k=>?_⟩
 refine hi δ O σ H _ E.ev (au (ay k) λds z J H1 s1 Y=>?_)
 have E1:=E.same s1
 have z1:= au z λo q=>Fin.outer E1 q
 refine⟨λi m σ2 H2=>m=ds.length-i/\i<=ds.length/\∃δ2 O2,EI X.K Hr R0 (Ch O R0) H1 O2 H2 σ2 δ2/\ok (GS G Hr) (jv (dG t gs) (ds.drop i) δ2) (Fin X.K Hr R0 (Ch O R0) H1 Dn),⟨_,rfl,X9 _,δ,O,E1.inner,z1⟩,?_⟩
 rintro i m σ2 H2 ⟨rfl,hi,δ2,O2,E2,k2⟩
 have T:=E1.to E2
 by_cases hlt:i<ds.length
 ·right
  have hd:= Y1 hlt
  obtain⟨go,yl⟩:=Y.step O2 H2 T i _ hd
  refine⟨go,λσ' H'=>∃δ2 O2,EI X.K Hr R0 (Ch O R0) H1 O2 H' σ' δ2/\ok (GS G Hr) (jv (dG t gs) (ds.drop (i+1)) δ2) (Fin X.K Hr R0 (Ch O R0) H1 Dn),λσ' H' h=>⟨_,by omega,rfl,hlt,h⟩,λx H3 y=>?_⟩
  obtain⟨s3,rx⟩:=yl x H3 y
  rw[rb hd] at k2
  have k3:=ay (show ok (GS G Hr) ((dG t gs ds[i] δ2).thn _) _ from k2)
  obtain⟨δ3,h3,k4⟩:=cq (ay (show ok (GS G Hr) ((M.lift (t ds[i] δ2)).thn gs) _ from k3))
  refine hg R0 (Ch O R0) H1 δ2 δ3 ds[i] x O2 σ2 H3 _ (E2.same s3) rx h3 λσ4 H4 E4 _=>?_
  refine hb R0 (Ch O R0) H1 δ3 O2 σ4 H4 _ E4 (au k4 λo z=>?_)
  cases o with
  | nx δ5=>exact λO5 σ5 H5 E5=>⟨δ5,O5,E5,z⟩
  | ct δ5=>exact λO5 σ5 H5 E5=>⟨δ5,O5,E5,z⟩
  | bk δ5=>assumption
  | rt d=>exact z
 ·left
  have e:i=ds.length:=by omega
  subst e
  rw[List.drop_length] at k2
  exact⟨Y.stop O2 H2 T,k2 O2 σ2 H2 E2⟩
noncomputable def fA(t:D->DS->Option DS)(c:DS->M Bool)(f:DS->M D):List D->DS->M (List D)
 | [],_=>M.ret []
 | d::ds,δ=>(M.lift (t d δ)).thn λδ'=>(c δ').thn λb=>if b=true then (f δ').thn λy=>(fA t c f ds δ').thn λys=>M.ret (y::ys) else fA t c f ds δ'
noncomputable def lW:DS->M Bool:=λ_=>M.ret true
noncomputable def nX{α:Type}(f:DS->M α):DS->M α:=λδ=>noX (f δ)
noncomputable def eB(n:Nat)(js:List Nat)(t:D->DS->Option DS)(fi:DS->M (List D))(c:DS->M Bool)(f:DS->M D):DS->M D:=λδ=>(fi δ).thn λds=>if bi ds.length then (fA t (nX c) (nX f) ds (X2 n .un++js.map (pU δ))).thn λys=>M.ret (.list ys) else none
def xS(X:Cx)(ifs:List Expr)(f:DS->M Bool):Prop :=
 ∃t,PTs X ifs t/\∀{Hr:Hp} (δ:DS) (O:List Addr) (σ:St) (H:Hp) (Q:Bool->Hp->Prop),Ev X.K Hr O H σ δ->ok (λ_=>False) (f δ) (λb=>∀H',aM H H'->Q b H')->t σ H Q
theorem ij:xS X [] lW:=⟨_,Dr,λδ O σ H Q E k=>k H (aM.refl H)⟩
theorem Bo{α:Type}{Hr:Hp}{r:M α}{k:α->Prop}(h:ok (λ_=>False) r k):ok (GS (λ_ _=>False) Hr) r k:=mV h
theorem vB{c:Expr}{fb:DS->M Bool}(h:PDT X (λ_ _=>False) c fb):xS X [c] fb:=by
 obtain⟨t,q,h⟩:=h
 exact⟨_,Dq q,λδ O σ H Q E k=>h δ O σ H Q E (Bo k)⟩
end
end DL
namespace DL
open PyProof.Rows L2
noncomputable def gD(K:ε)(t:D->DS->Option DS):TG:=λv σ H Q=>∃Hr R0 P0 H0 δ δ' d O,EI K Hr R0 P0 H0 O H σ δ/\Rep K O H v d/\t d δ=some δ'/\∀σ' H',EI K Hr R0 P0 H0 O H' σ' δ'->aM H H'->Q σ' H'
theorem PDG.can{X:Cx}{e:Expr}{t:D->DS->Option DS}(h:PDG X e t):PG X e (gD X.K t):=by
 obtain⟨g,p,h⟩:=h
 intro pins s σ H v u Q I r hw
 obtain⟨Hr,R0,P0,H0,δ,δ',d,O,E,rd,ht,k⟩:=hw
 exact p pins s σ H v u Q I r (h R0 P0 H0 δ δ' d v O σ H Q E rd ht k)
noncomputable def cD(K:ε)(f:DS->M Bool):TT:=λσ H Q=>∃Hr δ O,Ev K Hr O H σ δ/\ok (λ_=>False) (f δ) (λb=>∀H',aM H H'->Q b H')
theorem xS.can{X:Cx}{ifs:List Expr}{f:DS->M Bool}(h:xS X ifs f):PTs X ifs (cD X.K f):=by
 obtain⟨t,p,h⟩:=h
 intro pins s σ H Q I hw
 obtain⟨Hr,δ,O,E,k⟩:=hw
 exact p pins s σ H Q I (h δ O σ H Q E k)
section
variable{K:ε}{O:List Addr}{H1 H H':Hp}{l:Addr}{τ:St}{δ:DS}
abbrev EC(K:ε)(O:List Addr)(H1:Hp)(l:Addr)(H:Hp)(τ:St)(δ:DS):Prop:=EI K (λ_=>none) (l::O) (λb=>b=l) H1 (l::O) H τ δ
theorem EC.put{xs ys:List V}(E:EC K O H1 l H τ δ)(hl:H l=some (.lst xs)):EC K O H1 l (upd H l (.lst ys)) τ δ:=by
 have ts:To (l::O) (l::O) H (upd H l (.lst ys)):=To.set hl υ
 refine⟨⟨(λ_ _ z=>nomatch z),λa ha=>?_,E.ev.len,λi s hs=>?_,E.ev.dis⟩,E.omr,λb o n h=>?_,E.om,E.nr1,E.sub⟩
 ·by_cases e:a=l
  ·subst e;exact .lst aN
  ·exact(E.ev.oo a ha).upd_ne e
 ·have q:=E.ev.at_ i s hs
  cases s with
  | un=>trivial
  | ex a=>exact q
  | vl d =>
   obtain⟨v,h1,r⟩:=q
   exact⟨v,h1,r.to ts⟩
  | ow ds =>
   obtain⟨a,us,h1,h2,h3,r⟩:=q
   exact absurd h2 (E.nr i ds a hs h1)
  | od es =>
   obtain⟨a,us,h1,h2,h3,r⟩:=q
   exact absurd h2 (E.nr1 i _ a hs trivial h1)
 ·rw[upd_ne n]
  exact E.keep b o n h
theorem C6{Hr:Hp}{σ:St}{δ:DS}{fr:List (Nat×Str)}(E:Ev K Hr O H σ δ)(n:Nat)(hl:H l=none):EC K O H l (upd H l (.lst [])) (mF n fr σ) (X2 n .un++(fr.map (·.1)).map (pU δ)):=by
 have get:∀(i:Nat) (s:Sl),(X2 n Sl.un++(fr.map (·.1)).map (pU δ))[i]?=some s->s=.un\/∃d v,s=.vl d/\(mF n fr σ)[i]?=some (some v)/\Rep K O H v d:=λi s h=>by
  by_cases hi:i<n
  ·grind
  ·rw[Ψ (by simp_all),U5,Z6,Z6] at h
   cases q:fr[i-n]? with
   | none=>simp_all
   | some p =>
    rw[q] at h
    have h:= Option.some.inj h
    unfold pU at h
    split at h
    ·rename_i d hd
     subst h
     obtain⟨v,hv,r⟩:=E.val hd
     refine .inr ⟨d,v,rfl,?_,r⟩
     unfold mF
     grind
    simp_all
 have to:To O (l::O) H (upd H l (.lst [])):=To.own hl
 refine⟨⟨(λ_ _ z=>nomatch z),λa ha=>?_,by simp [mF],λi s hs=>?_,λi j a ds es hij h1=>?_⟩,λa ha=>.inl ha,λb o nb h=>by rw[upd_ne nb];exact h,λa ha=>.inl ha,λi ds a h1 ho=>?_,λa ha=>ha⟩
 ·rcases Θ.mp ha with rfl | ha
  ·exact .lst aN
  ·exact(E.oo a ha).new hl
 ·rcases get i s hs with rfl | ⟨d,v,rfl,hv,r⟩
  ·trivial
  ·exact⟨v,hv,r.to to⟩
 ·grind
 ·rcases get i _ h1 with z | ⟨_,_,z,_⟩<;>(cases z;exact ho.elim)
end
section
variable{X:Cx}{G:XD->Hp->Prop}{fi:DS->M (List D)}{c:DS->M Bool}{f:DS->M D}{t:D->DS->Option DS}
theorem ok_nX{α:Type}{g:XD->Prop}{f:DS->M α}{δ:DS}{k:α->Prop}(h:ok g (nX f δ) k):ok (λ_=>False) (f δ) k:=nZ h
def NewL(K:ε)(O:List Addr)(H:Hp)(k:V->Hp->Prop)(d:D):Prop:=∀ds,d=.list ds->∀l xs H',aM H H'->H l=none->H' l=some (.lst xs)->Reps K (l::O) H' xs ds->k (.ref l) H'
theorem oQ{fr:List (Nat×Str)}{tn:List Str}{wi:TI}(hi:∀{Hr:Hp} (δ:DS) (O:List Addr) (σ:St) (H:Hp) (R:It->Hp->Prop),Ev X.K Hr O H σ δ->ok (GS G Hr) (fi δ) (λds=>∀J H1,aM H H1->Yl X.K J O H1 ds->R J H1)->wi σ H R)
  {Hr:Hp} (δ:DS) (O:List Addr) (σ:St) (H:Hp) (Q:VK) (E:Ev X.K Hr O H σ δ) (k:ok (GS G Hr) (eB tn.length (fr.map (·.1)) t fi c f δ) (NewL X.K O H Q)) :
  nP tn.length fr wi (gD X.K t) (cD X.K c) (tD X.K (λ_ _=>False) f) σ H Q:=by
 refine hi δ O σ H _ E (au (ay k) λds z J H1 s1 Y=>?_)
 by_cases hsz:bi ds.length=true
 case neg =>
  rw[if_neg hsz] at z
  exact z.elim
 rw[if_pos hsz] at z
 intro l hl
 have E1:=E.same s1
 have hl0:H l=none:=by
  cases q:H l with
  | none=>rfl
  | some o=>rw[s1 l o q] at hl;cases hl
 have kk:=au (ay z) λys (q:NewL X.K O H Q (.list ys))=>(show ∀xs H2,Kp l H1 H2->H2 l=some (.lst xs)->Reps X.K (l::O) H2 xs ys->Q (.ref l) H2 from
  λxs H2 kp h2 rx=>q ys rfl l xs H2 (s1.trans (kp.same hl)) hl0 h2 rx)
 refine⟨λi m τ xs H2=>m=ds.length-i/\i<=ds.length/\xs.length<=i/\H2 l=some (.lst xs)/\∃δc ys,EC X.K O H1 l H2 τ δc/\Reps X.K (l::O) H2 xs ys /\
  ok (GS G Hr) (fA t (nX c) (nX f) (ds.drop i) δc) (λrest=>∀xs H3,Kp l H1 H3->H3 l=some (.lst xs)->Reps X.K (l::O) H3 xs (ys++rest)->Q (.ref l) H3),
  ⟨_,rfl,X9 _,ρ _,aN,_,[],C6 E1 tn.length hl,.nil,kk⟩,?_⟩
 rintro i m τ xs H2 ⟨rfl,hi,hx,h2,δc,ys,Ec,ry,kc⟩
 have kp:Kp l H1 H2:=λb o hb e=>Ec.keep b o hb e
 refine⟨h2,?_⟩
 have T:To O (l::O) H1 H2:=kp.to hl
 by_cases hlt:i<ds.length
 ·right
  have hd:= Y1 hlt
  obtain⟨go,yl⟩:=Y.step (l::O) H2 T i _ hd
  refine⟨go,Nat.lt_of_le_of_lt hx (Z8 hlt (bQ hsz)),λx H3 y=>?_⟩
  obtain⟨s3,rx⟩:=yl x H3 y
  rw[rb hd] at kc
  obtain⟨δ',ht,kc⟩:=cq (ay (show ok (GS G Hr) ((M.lift (t ds[i] δc)).thn _) _ from kc))
  refine⟨_,_,_,_,δc,δ',ds[i],l::O,Ec.same s3,rx,ht,λτ' H4 E4 s4=>?_⟩
  refine⟨_,δ',l::O,E4.ev,au (ok_nX (ay kc)) λb zb H5 s5=>?_⟩
  have E5:=E4.same s5
  have s25:=(s3.trans s4).trans s5
  dsimp only
  cases b with
  | false =>
   exact⟨_,by omega,rfl,hlt,by omega,s25 _ _ h2,δ',ys,E5,ry.same s25,zb⟩
  | true =>
   refine⟨_,δ',l::O,E5.ev,Bo (au (ok_nX (ay zb)) λy kz v H6 s6 rv=>?_)⟩
   have h6:= s6 _ _ (s25 _ _ h2)
   have ts:To (l::O) (l::O) H6 (upd H6 l (.lst (xs++[v]))):=To.set h6 υ
   refine⟨h6,ds.length-(i+1),by omega,rfl,hlt,by simp_all,aN,δ',ys++[y],EC.put (E5.same s6) h6,(((ry.same s25).same s6).to ts).append (.cons (rv.to ts) .nil),?_⟩
   exact au (ay kz) λrest q xs7 H7 kp7 h7 r7=>q xs7 H7 kp7 h7 (by simp_all)
 ·left
  have e:i=ds.length:=by omega
  subst e
  rw[List.drop_length] at kc
  refine⟨Y.stop (l::O) H2 T,kc xs H2 kp h2 ?_⟩
  simp_all
theorem rp{fr:List (Nat×Str)}{tn:List Str}{wi:TI}(hi:∀{Hr:Hp} (δ:DS) (O:List Addr) (σ:St) (H:Hp) (R:It->Hp->Prop),Ev X.K Hr O H σ δ->ok (GS G Hr) (fi δ) (λds=>∀J H1,aM H H1->Yl X.K J O H1 ds->R J H1)->wi σ H R)
  {Hr:Hp} (δ:DS) (O:List Addr) (σ:St) (H:Hp) (Q:VK) (E:Ev X.K Hr O H σ δ) (k:ok (GS G Hr) (eB tn.length (fr.map (·.1)) t fi c f δ) (λd=>∀v H',aM H H'->Rep X.K O H' v d->Q v H')) :
  nP tn.length fr wi (gD X.K t) (cD X.K c) (tD X.K (λ_ _=>False) f) σ H Q :=
 oQ hi δ O σ H Q E (au k λd q ds e l xs H' s hl hx rx=>q _ _ s (e▸.lst (.inl hx) (nin E.oo hl) (rx.to (.less λb hb=>χ _ hb))))
theorem ik{cl:List (Str×Addr)}{fr:List (Nat×Str)}{tn:List Str}{elt iter tg:Expr}{ifs:List Expr}{scope:Scope}{pos:Pos}(hc:X.calm=true)
  (hkind:scope.kind=.function) (hcell:∀y∈scope.names,y.2≠.cell) (hclos:closureFor scope X.env=pure cl) (hsub:∀y c,cl.lookup y=some c->X.env.cells.lookup y=some c)
  (hhas:∀y∈(relabel scope X.env).names,(y.2=.cell\/y.2=.free)->∃c,cl.lookup y.1=some c) (hfr:∀p∈fr,X.N[p.1]?=some p.2/\X.env.kindOf p.2=some .cell/\(compEnvC scope cl 0 X.env).kindOf p.2=some .cell/\∃c,cl.lookup p.2=some c) (hnames:∀y∈scope.names,y.2=.local->scope.names.lookup y.1=some .local)
  (hi:PDI X G tg iter fi) (hg:∀C s3 H3 fp,PDG (bx X scope cl fr tn C s3 H3 fp) tg t) (hcs:∀C s3 H3 fp,xS (bx X scope cl fr tn C s3 H3 fp) ifs c) (he:∀C s3 H3 fp,PD (bx X scope cl fr tn C s3 H3 fp) (λ_ _=>False) elt f) (hs:∀x,foldedSetIterable iter X.env x=pure x:=by intro _;rfl) :
  PD X G (.ListComp elt [⟨tg,iter,ifs,0⟩] scope pos) (eB tn.length (fr.map (·.1)) t fi c f):=by
 obtain⟨wi,pi,hi⟩:=hi
 refine⟨_,vz hc hkind hcell hclos hsub hhas hfr hnames pi (λC s3 H3 fp=>(hg C s3 H3 fp).can) (λC s3 H3 fp=>(hcs C s3 H3 fp).can) (λC s3 H3 fp=>(he C s3 H3 fp).can) hs,λδ O σ H Q E k=>rp hi δ O σ H Q E k⟩
end
section
variable{δ δ':DS}{fi:DS->M (List D)}{c:DS->M Bool}{f:DS->M D}{t:D->DS->Option DS}{fa:DS->M (List D)}{g:DS->M D}{x y d:D}{ds ys xs:List D}{n:Nat}{js:List Nat}{gs gt:DS->M Out}{r:M Out}{z:Str}
theorem eT(h1:fi δ=M.ret ds)(hz:bi ds.length=true)(h3:fA t (nX c) (nX f) ds (X2 n .un++js.map (pU δ))=M.ret ys):eB n js t fi c f δ=M.ret (.list ys):=by
 unfold eB;rw[h1,aQ,if_pos hz,h3];rfl
theorem eo(h1:t d δ=some δ')(h2:f δ'=M.ret y)(h3:fA t (nX lW) (nX f) ds δ'=M.ret ys):fA t (nX lW) (nX f) (d::ds) δ=M.ret (y::ys):=by
 show(M.lift (t d δ)).thn _=_
 rw[h1,lz,aQ]
 show(M.ret true).thn _=_
 show(noX (f δ')).thn _=_
 rw[h2]
 rw[h3]
 rfl
theorem v7{h:D->D}(Q:DS->Prop):∀(ds:List D) (δ:DS),Q δ->(∀d∈ds,∀δ,Q δ->∃δ',t d δ=some δ'/\f δ'=M.ret (h d)/\Q δ')->fA t (nX lW) (nX f) ds δ=M.ret (ds.map h)
 | [],_,_,_=>rfl
 | d::ds,δ,q,hs=>by
  obtain⟨δ',h1,h2,q'⟩:=hs d υ δ q
  exact eo h1 h2 (v7 Q ds δ' q' λe he=>hs e (χ _ he))
theorem pC{rng:List D->Option (List D)}(h1:fa δ=M.ret xs)(h2:rng xs=some ds):uz rng fa δ=M.ret ds:=by unfold uz;rw[h1,aQ,h2];rfl
theorem kW(h1:fa δ=M.ret [.list xs]):nv fa δ=M.ret (fv 0 xs):=by unfold nv;rw[h1];rfl
theorem e7(h1:fi δ=M.ret ds){r:M Out}(h3:jv (dG t gs) ds δ=r):ir fi t gs δ=r:=by unfold ir;rw[h1,aQ];exact h3
end
end DL
namespace DL
open PyProof.Rows L2
section
variable{X:Cx}{G:XD->Hp->Prop}{tg iter:Expr}{f:DS->M D}
theorem PI.or{w1 w2:TI}(h1:PI X tg iter w1)(h2:PI X tg iter w2):PI X tg iter (λσ H R=>w1 σ H R\/w2 σ H R):=by
 intro pins s σ H R I h
 rcases h with h | h
 ·exact h1 pins s σ H R I h
 ·exact h2 pins s σ H R I h
noncomputable def anyD:D->Option (List D)
 | .list ds=>some ds
 | .tuple ds=>some ds
 | .str z=>some (ff z)
 | _=>none
noncomputable def jl(f:DS->M D):DS->M (List D):=λδ=>(f δ).thn λd=>M.lift (anyD d)
theorem fF(h:PD X G iter f):PDI X G tg iter (jl f):=by
 obtain⟨w1,p1,h1⟩:=DG h
 obtain⟨w2,p2,h2⟩:=DF h
 refine⟨_,PI.or p1 p2,λδ O σ H R E k=>?_⟩
 have d1:∀d,f δ=some (.ok d)->(∀z,d≠.str z)->CA f δ=jl f δ:=λd e n=>by
  unfold CA jl
  rw[e]
  cases d with
  | str z=>simp_all
  | _=>rfl
 match e:f δ with
 | none=>unfold jl at k;rw[e] at k;exact k.elim
 | some (.error x) =>
  refine .inl (h1 δ O σ H R E ?_)
  have e1:jl f δ=CA f δ:=by unfold jl CA;rw[e];rfl
  simp_all
 | some (.ok d) =>
  match d,e with
  | .str z,e =>
   refine .inr (h2 δ O σ H R E ?_)
   have e1:jl f δ=xF f δ:=by unfold jl xF;rw[e];rfl
   simp_all
  | .none,e=>grind
  | .bool b,e=>grind
  | .int b,e=>grind
  | .list b,e=>grind
  | .tuple b,e=>grind
  | .dict b,e=>grind
theorem gR{δ:DS}{x:D}{ds:List D}(h1:f δ=M.ret x)(h2:anyD x=some ds):jl f δ=M.ret ds:=by unfold jl;rw[h1,aQ,h2];rfl
end
end DL
namespace DL
open PyProof.Rows L2
section
variable{X:Cx}{G:XD->Hp->Prop}{a b c e:Expr}{es:List Expr}{f:DS->M D}{fa:DS->M (List D)}{pos pos':Pos}{sts:List Stmt}{gs:DS->M Out}
variable{K:ε}{Hr:Hp}{R0:List Addr}{P0:Addr->Prop}{H0 H H':Hp}{O:List Addr}{σ:St}{δ:DS}
theorem EI.newL{i:Nat}{l:Addr}{xs:List V}{ds:List D}(E:EI K Hr R0 P0 H0 O H σ δ)(hl:H l=none)(rx:Reps K O H xs ds):EI K Hr R0 P0 H0 (l::O) (upd H l (.lst xs)) (σ.set i (some (.ref l))) (δ.set i (.ow ds)):=by
 have nO:= nin E.ev.oo hl
 have tO:To O (l::O) H (upd H l (.lst xs)):=To.own hl
 refine⟨⟨λb o h=>by have q:=E.ev.root b o h;rw[upd_ne (bp q hl)];exact q,λa ha=>?_,by rw[Y5,Y5];exact E.ev.len,λj s h=>?_,λj k a ds es hjk h1 h2 h3 h4=>?_⟩,λa ha=>?_,λb o n h=>?_,λa ha=>?_,λj ds a h1 ho h2=>?_,λa ha=>χ _ (E.sub a ha)⟩
 ·rcases Θ.mp ha with rfl | ha
  ·exact .lst aN
  ·exact(E.ev.oo a ha).new hl
 ·rw[bM] at h ⊢
  by_cases hij:i=j
  ·rw[if_pos hij] at h ⊢
   by_cases hz:i<δ.length
   ·rw[if_pos hz] at h
    rw[if_pos (by rw[E.ev.len];exact hz)]
    cases h
    exact⟨l,xs,rfl,υ,aN,rx.to tO⟩
   simp_all
  ·rw[if_neg hij] at h ⊢
   exact(E.ev.at_ j s h).to tO (B6 hl) λa xs h1 h2 _ _=>⟨χ _ h1,by rw[upd_ne (bp h2 hl)];exact h2⟩
 ·rw[bM] at h1 h2 h3 h4
  by_cases hij:i=j
  ·rw[if_pos hij] at h1 h3
   have ha:a=l:=by
    simp_all
   have hik:¬i=k:=λz=>hjk (hij.symm.trans z)
   rw[if_neg hik] at h2 h4
   obtain⟨l',xs,q1,q2,q3,_⟩:=E.ev.at_ k _ h2
   simp_all
  ·rw[if_neg hij] at h1 h3
   by_cases hik:i=k
   ·rw[if_pos hik] at h4
    have ha:a=l:=by
     simp_all
    obtain⟨l',xs,q1,q2,q3,_⟩:=E.ev.at_ j _ h1
    simp_all
   ·rw[if_neg hik] at h2 h4
    exact E.ev.dis j k a ds es hjk h1 h2 h3 h4
 ·rcases Θ.mp ha with rfl | ha
  ·refine .inr ?_
   cases q:Hr a with
   | none=>rfl
   | some o =>
    rw[E.ev.root a o q] at hl
    cases hl
  ·exact E.omr a ha
 ·have q:=E.keep b o n h
  rw[upd_ne (bp q hl)]
  exact q
 ·rcases Θ.mp ha with rfl | ha
  ·by_cases hp:P0 a
   ·simp_all
   ·refine .inr (.inr ?_)
    cases q:H0 a with
    | none=>rfl
    | some o =>
     rw[E.keep a o hp q] at hl
     cases hl
  ·exact E.om a ha
 ·rw[bM] at h1 h2
  by_cases hij:i=j
  ·rw[if_pos hij] at h2
   have ha:a=l:=by
    simp_all
   rw[ha]
   exact λz=>nO (E.sub l z)
  ·rw[if_neg hij] at h1 h2
   exact E.nr1 j ds a h1 ho h2
def PDN(X:Cx)(G:XD->Hp->Prop)(e:Expr)(f:DS->M (List D)):Prop :=
 ∃t,PE X e t/\∀{Hr:Hp} (δ:DS) (O:List Addr) (σ:St) (H:Hp) (Q:VK),Ev X.K Hr O H σ δ->ok (GS G Hr) (f δ) (λds=>∀l xs H1,aM H H1->H1 l=none->Reps X.K O H1 xs ds->Q (.ref l) (upd H1 l (.lst xs)))->t σ H Q
noncomputable def jt(fa:DS->M (List D)):DS->M (List D):=λδ=>(fa δ).thn λds=>if bi ds.length then M.ret ds else none
theorem cV(h:PDA X G es fa):PDN X G (.List es pos) (jt fa):=by
 obtain⟨_,t,p,h⟩:=h
 refine⟨_,A8 p,λδ O σ H Q E k=>?_⟩
 refine h δ O σ H _ E (au (ay k) λds z vs H1 s1 rs=>?_)
 by_cases hz:bi ds.length=true
 ·rw[if_pos hz] at z
  exact⟨by rw[rs.length];exact bQ hz,λp hp=>z p vs H1 s1 hp rs⟩
 ·rw[if_neg hz] at z
  exact z.elim
noncomputable def kh(i:Nat)(f:DS->M (List D)):DS->M Out:=λδ=>(f δ).thn λds=>M.ret (.nx (δ.set i (.ow ds)))
theorem gY{i:Nat}{x:Str}{f:DS->M (List D)}(hN:X.N.Nodup)(hi:X.N[i]?=some x)(hx:Loc X.env.scope x)(he:PDN X G e f)(hs:swapsWith e (some (.Name x pos')) pos.line X.env=pure false:=by rfl)(hf:X.fn x=true\/X.env.scope.names.lookup x=some .local:=by first | exact .inl rfl | exact .inr rfl | assumption) :
  PDS X G (.Assign [.Name x pos'] e pos) (kh i f):=by
 obtain⟨t,p,he⟩:=he
 refine⟨_,wT hN hi hx p hs hf,λR0 P0 H0 δ O σ H Dn E k=>?_⟩
 exact he δ O σ H _ E.ev (au (ay k) λds z l xs H1 s1 hl rx=>z (l::O) _ _ ((E.same s1).newL hl rx))
mutual
noncomputable def dW:D->Bool
 | .tuple ds=>bj ds
 | .list _=>false
 | .dict _=>false
 | _=>true
noncomputable def bj:List D->Bool
 | []=>true
 | d::ds=>dW d&&bj ds
end
mutual
theorem Rep.flat{O':List Addr}:∀{v:V} {d:D},dW d=true->Rep K O H v d->Rep K O' H v d
 | _,_,_,.non=>.non
 | _,_,_,.bl b=>.bl b
 | _,_,_,.int i=>.int i
 | _,_,_,.str x=>.str x
 | _,_,h,.tup q r=>.tup q (Reps.flat (by simpa only[dW] using h) r)
 | _,_,h,.lst _ _ _=>by simp [dW] at h
 | _,_,h,.lstK _ _=>by simp [dW] at h
 | _,_,h,.dct _ _ _ _=>by simp [dW] at h
 | _,_,h,.ins _ _ _ _ _=>by simp [dW,gP] at h
theorem Reps.flat{O':List Addr}:∀{vs:List V} {ds:List D},bj ds=true->Reps K O H vs ds->Reps K O' H vs ds
 | _,_,_,.nil=>.nil
 | _,_,h,.cons r rs=>by
  simp only[bj,Y0] at h
  exact .cons (Rep.flat h.1 r) (Reps.flat h.2 rs)
end
theorem Ev.frz{i:Nat}(E:Ev K Hr O H σ δ):∃O',Ev K Hr O' H σ (DL.frz i δ):=by
 cases q:δ[i]? with
 | none=>exact⟨O,by unfold DL.frz;simp_all⟩
 | some s =>
  cases s with
  | un=>exact⟨O,by unfold DL.frz;simp_all⟩
  | vl d=>exact⟨O,by unfold DL.frz;simp_all⟩
  | ex a=>exact⟨O,by unfold DL.frz;simp_all⟩
  | od es=>exact⟨O,by unfold DL.frz;simp_all⟩
  | ow ds =>
   have e:DL.frz i δ=δ.set i (.vl (.list ds)):=by unfold DL.frz;rw[q]
   rw[e]
   obtain⟨l,xs,h1,h2,h3,r⟩:=E.at_ i _ q
   have hi:= (ω.mp q).1
   have tl:To O (O.filter (· ≠ l)) H H:=.less λb hb=>(Y8.mp hb).1
   refine⟨O.filter (· ≠ l),E.root,λa ha=>E.oo a (Y8.mp ha).1,by rw[Y5];exact E.len,λj s h=>?_,λj k a es es' hjk k1 k2 k3 k4=>?_⟩
   ·rw[bM] at h
    by_cases hij:i=j
    ·rw[if_pos hij,if_pos hi] at h
     cases h
     rw[<-hij]
     exact⟨.ref l,h1,.lst (.inl h3) (λz=>by simp_all) (r.to tl)⟩
    ·rw[if_neg hij] at h
     refine(E.at_ j s h).to tl (λa kvs g1 g2=>⟨Y8.mpr ⟨g1,by grind⟩,g2⟩) λa ys g1 g2 g3 g4=>⟨?_,g2⟩
     obtain⟨es,rfl⟩:=g4
     refine Y8.mpr ⟨g1,?_⟩
     have hne:a≠l:=λz=>by
      subst z
      exact E.dis i j a ds es hij q h h1 g3
     simp_all
   ·rw[bM] at k1 k2
    by_cases hij:i=j
    ·simp_all
    ·by_cases hik:i=k
     ·simp_all
     ·rw[if_neg hij] at k1
      rw[if_neg hik] at k2
      exact E.dis j k a es es' hjk k1 k2 k3 k4
noncomputable def xG(i:Nat)(f:DS->M Bool):DS->M Bool:=λδ=>f (frz i δ)
theorem Bf{fb:DS->M Bool}(i:Nat)(h:PDT X G e fb):PDT X G e (xG i fb):=by
 obtain⟨t,p,h⟩:=h
 refine⟨t,p,λδ O σ H Q E k=>?_⟩
 obtain⟨O',E'⟩:=E.frz
 exact h _ O' σ H Q E' k
end
section
variable{δ:DS}{f:DS->M D}{fb:DS->M Bool}{fn:DS->M (List D)}{d:D}{b:Bool}{ds:List D}{fa:DS->M (List D)}{i:Nat}
theorem Cl(h:fb (frz i δ)=M.ret b):xG i fb δ=M.ret b:=h
theorem hG(h:fn δ=M.ret ds):kh i fn δ=M.ret (.nx (δ.set i (.ow ds))):=by unfold kh;rw[h];rfl
theorem dL(h:fa δ=M.ret ds)(hz:bi ds.length=true):jt fa δ=M.ret ds:=by unfold jt;rw[h,aQ,if_pos hz]
end
end DL
namespace L2
open PyProof.Rows
section
variable{X:Cx}
theorem BI:MtR X "str.zfill" (λx xs H Q=>∃z i,x=.str z/\xs=[.int i]/\PadOk i=true/\Q (.str (Txt.zfill z i)) H):=by
 intro pins s σ H x xs v us Q I rx rs h
 obtain⟨z,i,rfl,rfl,hp,q⟩:=h
 obtain⟨t,rfl⟩:=rx
 obtain⟨u,rfl,t2,rfl⟩:=gU rs
 exact SC.zfill hp λt' k=>⟨.str _,H,I.tok k,⟨t',rfl⟩,q⟩
theorem tX:MtR X "str.partition" (λx xs H Q=>∃z y,x=.str z/\xs=[.str y]/\(y.length==0)=false/\z.length<=sizeLine /\
  ∀p,H p=none->Q (.ref p) (upd H p (.tup [.str (Txt.partition z y).1,.str (Txt.partition z y).2.1,.str (Txt.partition z y).2.2]))):=by
 intro pins s σ H x xs v us Q I rx rs h
 obtain⟨z,y,rfl,rfl,hy,hz,q⟩:=h
 obtain⟨t,rfl⟩:=rx
 obtain⟨u,rfl,t2,rfl⟩:=gU rs
 refine call_meets PySem.F.slot_str_partition (typeIs_str _ _ _) PySem.F.entry_str_partition (PySem.F.args_str_partition_2 _ _) (meets_str_partition z y t t2 hy hz) ?_
 have fin:∀(a b c:Str) (ta tb tc:Tok) (k:Nat),(Txt.partition z y)=(a,b,c)->EP X pins σ Q (.ref s.heap.objs.size) { s with heap:=s.heap.push { cls:=.type "tuple",data:=.seq [.str a ta,.str b tb,.str c tc].toArray },toks:=k }:=λa b c ta tb tc k e=>by
  rw[e] at q
  refine⟨.ref s.heap.objs.size,_,I.laid (o:=.tup [.str a,.str b,.str c]) (λb o e=>Heap.get?_push_of_some _ e) (ρ _) ⟨by show 3<=_;rw[sizeLine_eq];omega,_,.cons ⟨ta,rfl⟩ (.cons ⟨tb,rfl⟩ (.cons ⟨tc,rfl⟩ .nil)),⟨_,Heap.get?_push_size _ rfl,rfl,0,rfl⟩⟩,rfl,q _ I.fresh⟩
 have e0:Txt.partition z y=Txt.partition z y:=rfl
 conv at e0=>rhs;unfold Txt.partition
 grind
theorem rW:∀{ts:List Str} {us:List Value},bD (ts.map V.str) us->∃l:List (Str×Tok),us=strValues l/\l.map (·.1)=ts
 | [],_,.nil=>⟨[],rfl,rfl⟩
 | t::ts,_,.cons r rs=>by
  obtain⟨l,rfl,e⟩:=rW rs
  obtain⟨k,rfl⟩:=r
  exact⟨(t,k)::l,rfl,by simp_all⟩
theorem jF:∀(l:List (Str×Tok)),bD ((l.map (·.1)).map V.str) (strValues l)
 | []=>.nil
 | (x,t)::l=>.cons ⟨t,rfl⟩ (jF l)
theorem Eb:MtR X "str.join" (λx xs H Q=>∃z p ts,x=.str z/\xs=[.ref p]/\SqL X.K H p (ts.map V.str)/\JoinOk z ts=true/\Q (.str (Txt.join z ts)) H):=by
 intro pins s σ H x xs v us Q I rx rs h
 obtain⟨z,p,ts,rfl,rfl,hq,hj,q⟩:=h
 obtain⟨t,rfl⟩:=rx
 obtain⟨u,rfl,r1⟩:=gU rs
 cases r1
 obtain⟨its,rv,pl,_⟩:=I.list hq
 obtain⟨l,rfl,e⟩:=rW rv
 exact SC.join pl.isList e hj λt' k=>⟨.str _,H,I.tok k,⟨t',rfl⟩,q⟩
theorem BJ:MtR X "str.split" (λx xs H Q=>∃z y,x=.str z/\xs=[.str y]/\(y.length==0)=false/\z.length<=sizeLine/\(Txt.split z y).length<=sizeLine/\(Builtin.Str.partsBetween z (Builtin.Str.occurrences z y 0 z.length (z.length+1)) y.length).length<=sizeLine /\
  ∀p,H p=none->Q (.ref p) (upd H p (.lst ((Txt.split z y).map V.str)))):=by
 intro pins s σ H x xs v us Q I rx rs h
 obtain⟨z,y,rfl,rfl,hy,hz,hl,hz2,q⟩:=h
 obtain⟨t,rfl⟩:=rx
 obtain⟨u,rfl,t2,rfl⟩:=gU rs
 have fin:∀(l:List (Str×Tok)) (k:Nat),l.map (·.1)=Txt.split z y->EP X pins σ Q (.ref s.heap.objs.size) { s with heap:=s.heap.push { cls:=.type "list",data:=.seq (strValues l).toArray },toks:=k }:=λl k e=>by
  rw[<-e] at q hl
  refine⟨.ref s.heap.objs.size,_,I.laid (o:=.lst ((l.map (·.1)).map V.str)) (λb o e=>Heap.get?_push_of_some _ e) (ρ _) ⟨by simp_all,_,0,jF l,Heap.get?_push_size _ rfl⟩,rfl,q _ I.fresh⟩
 cases h1:(decide (z.length<y.length)||decide (Builtin.Str.strKind z<Builtin.Str.strKind y))
 ·cases hf:(Builtin.Str.occurrences z y 0 z.length (z.length+1)).isEmpty
  ·refine call_meets PySem.F.slot_str_split (typeIs_str _ _ _) PySem.F.entry_str_split (PySem.F.args_str_split_2 _ _) (meets_str_split_sep z y t t2 h1 hy hf hz hz2) ?_
   rw[strsFrom_eq]
   exact fin (numbered s.toks _) _ ((numbered_texts _ _).trans ((if_neg (ne_true_of_eq_false h1)).trans (if_neg (ne_true_of_eq_false hf))).symm)
  ·exact call_meets PySem.F.slot_str_split (typeIs_str _ _ _) PySem.F.entry_str_split (PySem.F.args_str_split_2 _ _) (meets_str_split_not_found z y t t2 h1 hy hf)
    (fin [(z,t)] _ ((if_neg (ne_true_of_eq_false h1)).trans (if_pos hf)).symm)
 ·exact call_meets PySem.F.slot_str_split (typeIs_str _ _ _) PySem.F.entry_str_split (PySem.F.args_str_split_2 _ _) (meets_str_split_cannot_occur z y t t2 h1)
   (fin [(z,t)] _ (if_pos h1).symm)
theorem rS:eZ X (.type "int") (λxs H Q=>∃z n,xs=[.str z]/\PySem.intText? z=some n/\z.length<=640/\Q (.int n) H):=by
 intro pins s σ H xs us Q I r h
 obtain⟨z,n,rfl,hn,hl,q⟩:=h
 obtain⟨u,rfl,t,rfl⟩:=gU r
 exact PySem.W.KIN.call_text hn hl ⟨.int n,H,I.tok _,⟨_,rfl⟩,q⟩
end
end L2
namespace L2
open PyProof.Rows
section
variable{X:Cx}
theorem zE:OpR X (compareOp .LtE) (λx y H Q=>∃i j,x=.str i/\y=.str j/\Q (.bl (!decide (j.cps.toList<i.cps.toList))) H):=by
 intro pins s σ H x y v u Q I rx ry h
 obtain⟨i,j,rfl,rfl,q⟩:=h
 obtain⟨t,rfl⟩:=rx
 obtain⟨t',rfl⟩:=ry
 exact PySem.P.le_str (xz I q rfl)
theorem sl_str:SlR X (λx lo hi H Q=>∃z,x=.str z/\z.length<=sizeLine/\Q (.str (Txt.slice z lo hi)) H):=by
 intro pins s σ H x v vl vu lo hi sl Q I rx hs pl pu h
 obtain⟨z,rfl,hz,q⟩:=h
 obtain⟨t,rfl⟩:=rx
 refine⟨"str",_,PySem.F.slot_str_getitem.lookup,typeIs_str _ _ _,?_⟩
 obtain⟨l,rfl,rfl⟩:∃l:Option (Int×Tok),vl=partValue l/\lo=l.map (·.1):=by
  cases pl with
  | none=>exact⟨none,rfl,rfl⟩
  | int i t=>exact⟨some (i,t),rfl,rfl⟩
 obtain⟨u,rfl,rfl⟩:∃u:Option (Int×Tok),vu=partValue u/\hi=u.map (·.1):=by
  cases pu with
  | none=>exact⟨none,rfl,rfl⟩
  | int i t=>exact⟨some (i,t),rfl,rfl⟩
 refine wpAny_getItem_str_slice (st:=none) ?_ rfl (post_val_or_str ⟨X5 (Txt.slice_le z _ _) hz,λt' k=>⟨.str _,H,I.tok k,⟨t',rfl⟩,q⟩⟩)
 assumption
end
end L2
namespace DL
open PyProof.Rows L2
section
variable{X:Cx}{G:XD->Hp->Prop}{a b c e o:Expr}{es:List Expr}{f g k:DS->M D}{fa:DS->M (List D)}{pos apos cpos:Pos}
def DMt(X:Cx)(id:String)(h:Str->List D->Option D):Prop :=
 ∃r,MtR X id r/\∀(O:List Addr) (H:Hp) (z:Str) (xs:List D) (d:D) (vs:List V) (Q:VK),(∀l∈O,Mu H l)->Reps X.K O H vs xs->h z xs=some d->(∀v' H',aM H H'->Rep X.K O H' v' d->Q v' H')->r (.str z) vs H Q
noncomputable def eV(h:Str->List D->Option D)(f:DS->M D)(fa:DS->M (List D)):DS->M D:=λδ=>(f δ).thn λd=>match d with
 | .str z=>(fa δ).thn λxs=>M.lift (h z xs)
 | _=>none
theorem cW{id:String}{name:Str}{h:Str->List D->Option D}(slot:Slot "str" name id)(hty:typeOf (.builtin id)=pure (.type "method_descriptor"))(hm:DMt X id h)(ho:PD X G o f)(ha:PDA X G (e::es) fa)
  (hbase:attributeBase o name X.env (eval o X.env)=eval o X.env:=by rfl)
  (hfew:((backTo cpos (starEach (e::es) X.env)).all (λx=>!x.1)&&(backToKw cpos (keywordEach [] X.env)).all (λx=>x.1.isSome)
   && decide ((e::es).length+([]:List Keyword).length+(if ([]:List Keyword).isEmpty then 0 else 1)<30))=true:=by rfl)
  (hline:(apos.endLine==cpos.line)=true:=by rfl) (hs:starEach (e::es) X.env=(false,eval e X.env)::starEach es X.env:=by rfl) (hplain:(backTo cpos (starEach es X.env)).any (·.1)=false:=by rfl) :
  PD X G (.Call (.Attribute o name apos) (e::es) [] cpos) (eV h f fa):=by
 obtain⟨r,hr,hm⟩:=hm
 obtain⟨t,p,ho⟩:=ho
 obtain⟨_,u,q,ha⟩:=ha
 refine⟨_,vA PySem.F.plainAttrs_str slot hty hr p q hbase hfew hline hs hplain,λδ O σ H Q E k=>?_⟩
 refine ho δ O σ H _ E (au (ay k) λd z v H1 s1 rd=>?_)
 match d,z,rd with
 | .str w,z,rd =>
  rw[rd.str_inv]
  refine⟨rfl,ha δ O σ H1 _ (E.same s1) (au (ay z) λxs zz vs H2 s2 rs=>?_)⟩
  obtain⟨y,hy,zz⟩:=cq zz
  exact hm O H2 w xs y vs Q (E.same (s1.trans s2)).oo rs hy λv' H3 s3 r3=>zz v' H3 ((s1.trans s2).trans s3) r3
noncomputable def jK(z:Str):List D->Option D
 | [.int i]=>if PadOk i then some (.str (Txt.zfill z i)) else none
 | _=>none
theorem lM:DMt X "str.zfill" jK:=by
 refine⟨_,BI,λO H z xs d vs Q oo rs e k=>?_⟩
 unfold jK at e
 split at e
 ·rename_i i
  by_cases hp:PadOk i=true
  ·rw[if_pos hp] at e
   cases e
   obtain⟨v,rfl,r⟩:=eS rs
   exact⟨z,i,rfl,by rw[r.int_inv],hp,k _ H (aM.refl H) (.str _)⟩
  simp_all
 simp_all
noncomputable def dh(z:Str):List D->Option D
 | [.str y]=>if ((y.length==0)==false&&bi z.length)=true then some (.tuple [.str (Txt.partition z y).1,.str (Txt.partition z y).2.1,.str (Txt.partition z y).2.2]) else none
 | _=>none
theorem gw:DMt X "str.partition" dh:=by
 refine⟨_,tX,λO H z xs d vs Q oo rs e k=>?_⟩
 unfold dh at e
 split at e
 ·rename_i y
  by_cases hp:((y.length==0)==false&&bi z.length)=true
  ·rw[if_pos hp] at e
   cases e
   obtain⟨h1,h2⟩:=X4.mp hp
   obtain⟨v,rfl,r⟩:=eS rs
   exact⟨z,y,rfl,by rw[r.str_inv],by simp_all,bQ h2,λp hp=>k _ _ (bu hp) (jo hp (.cons (.str _) (.cons (.str _) (.cons (.str _) .nil))))⟩
  simp_all
 simp_all
noncomputable def i0:List D->Option (List Str)
 | []=>some []
 | .str z::r=>(i0 r).map (z :: ·)
 | _=>none
theorem pP:∀{ds:List D} {ts:List Str},i0 ds=some ts->ds=ts.map X8
 | [],ts,h=>by cases h;rfl
 | .str z::r,ts,h=>by
  have h:(i0 r).map (z :: ·)=some ts:=h
  cases e:i0 r with
  | none=>simp_all
  | some cs=>rw[e] at h;cases h;rw[pP e];rfl
theorem sf{K:ε}{O:List Addr}{H:Hp}:∀{ts:List Str} {vs:List V},Reps K O H vs (ts.map X8)->vs=ts.map V.str
 | [],_,.nil=>rfl
 | t::ts,_,.cons r rs=>by rw[r.str_inv,sf rs];rfl
theorem jM{K:ε}{O:List Addr}{H:Hp}:∀(ts:List Str),Reps K O H (ts.map V.str) (ts.map X8)
 | []=>.nil
 | t::ts=>.cons (.str t) (jM ts)
noncomputable def oB(z:Str):List D->Option D
 | [.list ds]=>match i0 ds with
  | some ts=>if JoinOk z ts then some (.str (Txt.join z ts)) else none
  | none=>none
 | _=>none
theorem nk:DMt X "str.join" oB:=by
 refine⟨_,Eb,λO H z xs d vs Q oo rs e k=>?_⟩
 unfold oB at e
 split at e
 ·split at e
  ·rename_i ts hts
   by_cases hp:JoinOk z ts=true
   ·rw[if_pos hp] at e
    cases e
    obtain⟨v,rfl,r⟩:=eS rs
    obtain⟨p,us,rfl,h1,rx⟩:=r.lst_inv
    rw[pP hts] at rx
    rw[sf rx] at h1
    exact⟨z,p,ts,rfl,rfl,h1,hp,k _ H (aM.refl H) (.str _)⟩
   simp_all
  simp_all
 simp_all
noncomputable def mM(z y:Str):Bool:=(y.length==0)==false&&bi z.length&&bi (Txt.split z y).length&&bi (Builtin.Str.partsBetween z (Builtin.Str.occurrences z y 0 z.length (z.length+1)) y.length).length
noncomputable def mf(z:Str):List D->Option D
 | [.str y]=>if mM z y then some (.list ((Txt.split z y).map X8)) else none
 | _=>none
theorem lN:DMt X "str.split" mf:=by
 refine⟨_,BJ,λO H z xs d vs Q oo rs e k=>?_⟩
 unfold mf at e
 split at e
 ·rename_i y
  by_cases hp:mM z y=true
  ·rw[if_pos hp] at e
   cases e
   obtain⟨hp,h4⟩:=X4.mp hp
   obtain⟨hp,h3⟩:=X4.mp hp
   obtain⟨h1,h2⟩:=X4.mp hp
   obtain⟨v,rfl,r⟩:=eS rs
   exact⟨z,y,rfl,by rw[r.str_inv],by simp_all,bQ h2,bQ h3,bQ h4,λp hp=>k _ _ (bu hp) (ie oo hp (jM _))⟩
  simp_all
 simp_all
noncomputable def iP:List D->Option D
 | [.str z]=>match PySem.intText? z with
  | some n=>if z.length<=640 then some (.int n) else none
  | none=>none
 | ds=>oInt ds
theorem et:km X (.type "int") iP:=by
 refine⟨_,rS.or Ak,λO H ds d vs Q oo rs e k=>?_⟩
 unfold iP at e
 split at e
 ·rename_i z
  split at e
  ·rename_i n hn
   by_cases hl:z.length<=640
   ·rw[if_pos hl] at e
    cases e
    obtain⟨v,rfl,r⟩:=eS rs
    exact .inl ⟨z,n,by rw[r.str_inv],hn,hl,k _ H (aM.refl H) (.int _)⟩
   simp_all
  simp_all
 ·unfold oInt at e
  split at e
  ·cases e
   obtain⟨v,rfl,r⟩:=eS rs
   exact .inr (.inl ⟨_,by rw[r.int_inv],k _ H (aM.refl H) (.int _)⟩)
  ·cases e
   obtain⟨v,rfl,r⟩:=eS rs
   exact .inr (.inr ⟨_,by rw[r.bool_inv],k _ H (aM.refl H) (.int _)⟩)
  simp_all
noncomputable def d0:D->D->Option D
 | .int i,.int j=>some (.bool (decide (i<=j)))
 | .str i,.str j=>some (.bool (!decide (j.cps.toList<i.cps.toList)))
 | _,_=>none
theorem cv:DOp X (compareOp .LtE) d0:=by
 refine⟨_,op_le.or zE,λO H x y d v u Q oo rx ry e k=>?_⟩
 unfold d0 at e
 split at e
 ·cases e
  exact .inl ⟨_,_,rx.int_inv,ry.int_inv,k _ H (aM.refl H) (.bl _)⟩
 ·cases e
  exact .inr ⟨_,_,rx.str_inv,ry.str_inv,k _ H (aM.refl H) (.bl _)⟩
 simp_all
noncomputable def Bv:D->D->Option D
 | .str i,.str j=>some (.bool (!(Builtin.Str.occurrences j i 0 j.length 1).isEmpty))
 | _,_=>none
theorem EJ:DOp X (compareOp .In) Bv:=by
 refine⟨_,zF,λO H x y d v u Q oo rx ry e k=>?_⟩
 unfold Bv at e
 split at e
 ·cases e
  exact⟨_,_,rx.str_inv,ry.str_inv,k _ H (aM.refl H) (.bl _)⟩
 simp_all
noncomputable def fU(h h':D->D->Option D)(f g k:DS->M D):DS->M D:=λδ=>(f δ).thn λx=>(g δ).thn λy=>(M.lift (h x y)).thn λz=>match z with
 | .bool true=>(k δ).thn λw=>M.lift (h' y w)
 | .bool false=>M.ret (.bool false)
 | _=>none
theorem sR{h h':D->D->Option D}{r r':R2}{ta tb tc:TE}
  (ho:∀(O:List Addr) (H:Hp) (x y d:D) (v u:V) (Q:VK),(∀l∈O,Mu H l)->Rep X.K O H v x->Rep X.K O H u y->h x y=some d->(∀v' H',aM H H'->Rep X.K O H' v' d->Q v' H')->r v u H Q)
  (ho':∀(O:List Addr) (H:Hp) (x y d:D) (v u:V) (Q:VK),(∀l∈O,Mu H l)->Rep X.K O H v x->Rep X.K O H u y->h' x y=some d->(∀v' H',aM H H'->Rep X.K O H' v' d->Q v' H')->r' v u H Q)
  (ha:∀{Hr:Hp} (δ:DS) (O:List Addr) (σ:St) (H:Hp) (Q:VK),Ev X.K Hr O H σ δ->ok (GS G Hr) (f δ) (λd=>∀v H',aM H H'->Rep X.K O H' v d->Q v H')->ta σ H Q)
  (hb:∀{Hr:Hp} (δ:DS) (O:List Addr) (σ:St) (H:Hp) (Q:VK),Ev X.K Hr O H σ δ->ok (GS G Hr) (g δ) (λd=>∀v H',aM H H'->Rep X.K O H' v d->Q v H')->tb σ H Q)
  (hc:∀{Hr:Hp} (δ:DS) (O:List Addr) (σ:St) (H:Hp) (Q:VK),Ev X.K Hr O H σ δ->ok (GS G Hr) (k δ) (λd=>∀v H',aM H H'->Rep X.K O H' v d->Q v H')->tc σ H Q)
  {Hr:Hp} (δ:DS) (O:List Addr) (σ:St) (H:Hp) (Q:VK) (E:Ev X.K Hr O H σ δ) (q:ok (GS G Hr) (fU h h' f g k δ) (λd=>∀v H',aM H H'->Rep X.K O H' v d->Q v H')):wH r r' ta tb tc σ H Q:=by
 refine ha δ O σ H _ E (au (ay q) λx kx v H1 s1 rx=>?_)
 refine hb δ O σ H1 _ (E.same s1) (au (ay kx) λy ky u H2 s2 ry=>?_)
 obtain⟨d,hd,kd⟩:=cq (ay ky)
 have s12:=s1.trans s2
 refine ho O H2 x y d v u _ (E.same s12).oo (rx.same s2) ry hd λv' H3 s3 r3=>?_
 match d,kd,r3 with
 | .bool true,kd,r3 =>
  refine⟨true,r3.bool_inv,?_⟩
  refine hc δ O σ H3 _ (E.same (s12.trans s3)) (au (ay kd) λw kw v2 H4 s4 rw'=>?_)
  obtain⟨d2,hd2,kd2⟩:=cq kw
  exact ho' O H4 y w d2 u v2 Q (E.same ((s12.trans s3).trans s4)).oo ((ry.same s3).same s4) rw' hd2 λv3 H5 s5 r5=>kd2 v3 H5 (((s12.trans s3).trans s4).trans s5) r5
 | .bool false,kd,r3 =>
  refine⟨false,r3.bool_inv,?_⟩
  exact kd _ H3 (s12.trans s3) (.bl false)
theorem kJ{op op':CmpOp}{h h':D->D->Option D}(ho:DOp X (compareOp op) h)(ho':DOp X (compareOp op') h')(ha:PD X G a f)(hb:PD X G b g)(hc:PD X G c k)(hm:lastMarks [op,op'] [b,c]=false:=by with_unfolding_all rfl) :
  PD X G (.Compare a [op,op'] [b,c] pos) (fU h h' f g k):=by
 obtain⟨r,hr,ho⟩:=ho
 obtain⟨r',hr',ho'⟩:=ho'
 obtain⟨ta,pa,ha⟩:=ha
 obtain⟨tb,pb,hb⟩:=hb
 obtain⟨tc,pc,hc⟩:=hc
 exact⟨_,Be hr hr' pa pb pc hm,sR ho ho' ha hb hc⟩
theorem sj{op op':CmpOp}{h h':D->D->Option D}(ho:DOp X (compareOp op) h)(ho':DOp X (compareOp op') h')(ha:PD X G a f)(hb:PD X G b g)(hc:PD X G c k)(hm:lastMarks [op,op'] [b,c]=false:=by with_unfolding_all rfl) :
  PDT X G (.Compare a [op,op'] [b,c] pos) (dB (fU h h' f g k)):=by
 obtain⟨r,hr,ho⟩:=ho
 obtain⟨r',hr',ho'⟩:=ho'
 obtain⟨ta,pa,ha⟩:=ha
 obtain⟨tb,pb,hb⟩:=hb
 obtain⟨tc,pc,hc⟩:=hc
 refine⟨_,AV hr hr' pa pb pc hm,λδ O σ H Q E q=>?_⟩
 refine sR ho ho' ha hb hc δ O σ H _ E (au (qx q) λd z v H' s r=>?_)
 obtain⟨b,rfl,z⟩:=z
 exact⟨b,r.bool_inv,z H' s⟩
variable{lo hi:Option Expr}{fl fh:DS->M (Option Int)}{p2:Pos}
noncomputable def Bx(lo hi:Option Int):D->Option D
 | .str z=>if bi z.length then some (.str (Txt.slice z lo hi)) else none
 | d=>oCut lo hi d
noncomputable def sJ(f:DS->M D)(fl fh:DS->M (Option Int)):DS->M D:=λδ=>(f δ).thn λx=>(fl δ).thn λl=>(fh δ).thn λu=>M.lift (Bx l u x)
theorem tP(he:PD X G e f)(hl:PDO X G lo fl)(hh:PDO X G hi fh):PD X G (.Subscript e (.Slice lo hi none p2) pos) (sJ f fl fh):=by
 obtain⟨t,p,he⟩:=he
 obtain⟨tl,pl,hl⟩:=hl
 obtain⟨th,ph,hh⟩:=hh
 refine⟨_,A6 (sl_str.or (C7.or sl_tup)) p pl ph,λδ O σ H Q E k=>?_⟩
 refine he δ O σ H _ E (au (ay k) λd z v H1 s1 r=>?_)
 refine hl δ O σ H1 _ (E.same s1) (au (ay z) λl z H2 s2=>?_)
 refine hh δ O σ H2 _ (E.same (s1.trans s2)) (au (ay z) λu z H3 s3=>?_)
 obtain⟨y,hy,z⟩:=cq z
 have r3:=(r.same s2).same s3
 have s03:=(s1.trans s2).trans s3
 have E3:=E.same s03
 cases d with
 | str w =>
  have hy:(if bi w.length=true then some (X8 (Txt.slice w l u)) else none)=some y:=hy
  by_cases hw:bi w.length=true
  ·rw[if_pos hw] at hy
   cases hy
   exact .inl ⟨w,r3.str_inv,bQ hw,z _ _ s03 (.str _)⟩
  simp_all
 | list ds =>
  obtain⟨a,xs,rfl,h1,rs⟩:=r3.lst_inv
  exact .inr (.inl ⟨a,xs,rfl,h1,λp hp=>z _ _ (s03.trans (bu hp)) (ie E3.oo hp (rs.cut l u))⟩)
 | tuple ds =>
  have hy:(if HT.sIx ds.length 0 l=0/\HT.sIx ds.length ds.length u=ds.length then none else some (W1 (ox ds l u)))=some y:=hy
  by_cases hw:HT.sIx ds.length 0 l=0/\HT.sIx ds.length ds.length u=ds.length
  ·simp_all
  ·rw[if_neg hw] at hy
   cases hy
   obtain⟨a,xs,rfl,h1,rs⟩:=r3.tup_inv
   exact .inr (.inr ⟨a,xs,rfl,h1,by rw[rs.length];exact hw,λp hp=>z _ _ (s03.trans (bu hp)) (jo hp (rs.cut l u))⟩)
 | _=>cases hy
theorem Bi{x z:Str}{t:Tok}(hg:Gl X x)(hm:X.mg x=some (.str z t))(hd:(x==("__debug__" : Str))=false:=by decide):PD X G (.Name x pos) (dC (.str z)) :=
 ⟨_,lx (v:=.str z) hg hm ⟨t,rfl⟩ hd,λ_ _ _ H Q _ k=>k _ H (aM.refl H) (.str z)⟩
theorem Bj{x:Str}{i:Int}{t:Tok}(hg:Gl X x)(hm:X.mg x=some (.int i t))(hd:(x==("__debug__" : Str))=false:=by decide):PD X G (.Name x pos) (dC (.int i)) :=
 ⟨_,lx (v:=.int i) hg hm ⟨t,rfl⟩ hd,λ_ _ _ H Q _ k=>k _ H (aM.refl H) (.int i)⟩
end
end DL
namespace L2
open PyProof.Rows
section
variable{X:Cx}
theorem AZ{y:Str}{py spos:Pos}{iy:Nat}{cl:List (Str×Addr)}{fr:List (Nat×Str)}{tn:List Str}{elt iter tg:Expr}{ifs:List Expr}{scope:Scope}{pos:Pos}{wi:TI}{g:TG}{tc:TT}{te:TE}(hc:X.calm=true)
  (hkind:scope.kind=.function) (hcell:∀y∈scope.names,y.2≠.cell) (hclos:closureFor scope X.env=pure cl) (hsub:∀y c,cl.lookup y=some c->X.env.cells.lookup y=some c)
  (hhas:∀y∈(relabel scope X.env).names,(y.2=.cell\/y.2=.free)->∃c,cl.lookup y.1=some c) (hfr:∀p∈fr,X.N[p.1]?=some p.2/\X.env.kindOf p.2=some .cell/\(compEnvC scope cl 0 X.env).kindOf p.2=some .cell/\∃c,cl.lookup p.2=some c) (hnames:∀y∈scope.names,y.2=.local->scope.names.lookup y.1=some .local)
  (hi:PI X tg iter wi) (hg:∀C s3 H3 fp,PG (bx X scope cl fr tn C s3 H3 fp) tg g) (hcs:∀C s3 H3 fp,PTs (bx X scope cl fr tn C s3 H3 fp) ifs tc) (he:∀C s3 H3 fp,PE (bx X scope cl fr tn C s3 H3 fp) elt te) (hs:∀x,foldedSetIterable iter X.env x=pure x:=by intro _;rfl)  (hsw:swapsWith (.ListComp elt [⟨tg,iter,ifs,0⟩] scope pos) (some (.Name y py)) spos.line X.env=pure true:=by rfl)
  (hN:X.N.Nodup) (hiy:X.N[iy]?=some y) (hly:Loc X.env.scope y) (hfy:X.fn y=true\/X.env.scope.names.lookup y=some .local:=by first | exact .inl rfl | exact .inr rfl | assumption) :
  PS X (.Assign [.Name y py] (.ListComp elt [⟨tg,iter,ifs,0⟩] scope pos) spos) (λDn σ H=>nP tn.length fr wi g tc te σ H λv H1=>Dn.nx (σ.set iy (some v)) H1):=by
 intro pins s σ H Dn I h
 rw[exec_Assign_Name_used _ _ _ _ hsw]
 refine wpAny_bind (wpAny_standAt (wpAny_bind ?_))
 refine wpAny_bind (wpAny_mono (sP hc hkind hcell hclos hsub hhas hfr hnames hi hg hcs he hs I h λ{D s3 s6 H3 H5 fp pins5 σ5 r} I3 f3 I6 qn=>?_) (λ_ s' hq=>wpAny_pure (wpAny_pure hq)) λ_ _ e=>e)
 obtain⟨m,hn6,_⟩:=I6.loc
 have I6':= sQ I3 f3 (ρ _) I6 ⟨rfl,λ_ _=>rfl⟩
 have ab:∀{b:Addr} {o:Obj},s3.heap.get? b=some o->b≠s3.heap.objs.size:=λe=>Y4 (Heap.lt_size e)
 have nL:X.env.locals≠s3.heap.objs.size:=by
  obtain⟨_,⟨o,_,_,ho,_⟩,_⟩:=I3.loc
  simp_all
 have nC:∀z c,X.env.cells.lookup z=some c->c≠s3.heap.objs.size:=λz c e=>by
  obtain⟨w',oc,ho,_⟩:=I3.cell z c e
  simp_all
 refine wpAny_assign_Name (rY (v:=.ref D) I6' hN hiy hly rfl (λs7 I7 hs7=>?_) hfy)
 obtain⟨a,sb,ha⟩:=hs7
 have hna:s3.heap.objs.size≠a:=by
  grind
 refine⟨m,hn6.sameBut sb hna,λh' hs'=>⟨σ.set iy (some (.ref D)),H5,?_,qn⟩⟩
 have hfr:= I6.free
 exact I7.turned (λb o hb e=>(hs'.2 b hb).trans e) hfr nL.symm (.inr (X5 I3.ok.above (Nat.le_of_lt I3.lt))) nC λp hp=>ab (I3.pin p hp).1
end
end L2
namespace DL
open PyProof.Rows L2
section
variable{X:Cx}{G:XD->Hp->Prop}{fi:DS->M (List D)}{c:DS->M Bool}{f:DS->M D}{t:D->DS->Option DS}
theorem wZ{y:Str}{py spos:Pos}{iy:Nat}{cl:List (Str×Addr)}{fr:List (Nat×Str)}{tn:List Str}{elt iter tg:Expr}{ifs:List Expr}{scope:Scope}{pos:Pos}(hc:X.calm=true)
  (hkind:scope.kind=.function) (hcell:∀y∈scope.names,y.2≠.cell) (hclos:closureFor scope X.env=pure cl) (hsub:∀y c,cl.lookup y=some c->X.env.cells.lookup y=some c)
  (hhas:∀y∈(relabel scope X.env).names,(y.2=.cell\/y.2=.free)->∃c,cl.lookup y.1=some c) (hfr:∀p∈fr,X.N[p.1]?=some p.2/\X.env.kindOf p.2=some .cell/\(compEnvC scope cl 0 X.env).kindOf p.2=some .cell/\∃c,cl.lookup p.2=some c) (hnames:∀y∈scope.names,y.2=.local->scope.names.lookup y.1=some .local)
  (hi:PDI X G tg iter fi) (hg:∀C s3 H3 fp,PDG (bx X scope cl fr tn C s3 H3 fp) tg t) (hcs:∀C s3 H3 fp,xS (bx X scope cl fr tn C s3 H3 fp) ifs c) (he:∀C s3 H3 fp,PD (bx X scope cl fr tn C s3 H3 fp) (λ_ _=>False) elt f)
  (hN:X.N.Nodup) (hiy:X.N[iy]?=some y) (hly:Loc X.env.scope y) (hs:∀x,foldedSetIterable iter X.env x=pure x:=by intro _;rfl)
  (hsw:swapsWith (.ListComp elt [⟨tg,iter,ifs,0⟩] scope pos) (some (.Name y py)) spos.line X.env=pure true:=by rfl) (hfy:X.fn y=true\/X.env.scope.names.lookup y=some .local:=by first | exact .inl rfl | exact .inr rfl | assumption) :
  PDS X G (.Assign [.Name y py] (.ListComp elt [⟨tg,iter,ifs,0⟩] scope pos) spos) (cM (eB tn.length (fr.map (·.1)) t fi c f) (tgN iy)):=by
 obtain⟨wi,pi,hi⟩:=hi
 refine⟨_,AZ (g:=gD X.K t) (tc:=cD X.K c) (te:=tD X.K (λ_ _=>False) f) hc hkind hcell hclos hsub hhas hfr hnames pi (λC s3 H3 fp=>(hg C s3 H3 fp).can) (λC s3 H3 fp=>(hcs C s3 H3 fp).can) (λC s3 H3 fp=>(he C s3 H3 fp).can) hs hsw hN hiy hly hfy,λR0 P0 H0 δ O σ H Dn E k=>?_⟩
 refine rp hi δ O σ H _ E.ev (au (ay k) λd z v H1 s1 r=>?_)
 obtain⟨δ',hd,z⟩:=cq (ay z)
 cases hd
 exact z O _ H1 ((E.same s1).set r)
end
end DL
namespace L2
open PyProof.Rows
section
variable{prog:Program}{w:World}{A:Around}{E:Value->Shared->Prop}{s:Shared}
end
section
variable{X:Cx}
end
end L2
namespace DL
open PyProof.Rows L2
section
variable{X:Cx}
end
end DL
namespace L2
open PyProof.Rows
section
variable{X:Cx}
end
end L2
namespace DL
open PyProof.Rows L2
section
variable{X:Cx}
end
end DL
namespace L2
open PyProof.Rows
section
variable{X:Cx}
theorem nA:eZ X (.builtin "sorted") (λxs H Q=>∃(p:Addr) (is:List Int),xs=[.ref p]/\SqL X.K H p (is.map V.int)/\is.length<64/\∀l,H l=none->Q (.ref l) (upd H l (.lst ((Z9 is).map V.int)))):=by
 intro pins s σ H xs us Q I r h
 obtain⟨l,is,rfl,hq,h64,q⟩:=h
 obtain⟨u,rfl,rx⟩:=gU r
 cases rx
 obtain⟨its,rv,pl,hz⟩:=I.list hq
 have hlen:=rv.length
 rw[ι] at hlen
 refine sorted_ints pl.isList (xt rv) (by omega) λout ns' a1 a2 a3=>?_
 obtain⟨e,he⟩:=sortedAll_at s.heap its out
 have en:=PySem.W.eq_sortI a2 a3
 have hl2:= a2.length_eq
 refine⟨.ref (s.heap.objs.size+1),_,I.laid (λ_ _=>sortedAll_old) (U4 _) (show eQ X.prog X.w _ _ _ (.lst ((Z9 is).map V.int)) from⟨by simp_all,out.toList,e,by rw[<-en];exact nM a1,by omega⟩),rfl,q _ (I.hok.fresh (U4 _))⟩
end
end L2
namespace DL
open PyProof.Rows L2
section
variable{X:Cx}
theorem jN{K:ε}{O:List Addr}{H:Hp}:∀(ts:List Int),Reps K O H (ts.map V.int) (ts.map η)
 | []=>.nil
 | t::ts=>.cons (.int t) (jN ts)
noncomputable def jQ:List D->Option D
 | [.list ds]=>match gO ds with
  | some is=>if is.length<64 then some (.list ((Z9 is).map η)) else none
  | none=>none
 | _=>none
theorem uw:km X (.builtin "sorted") jQ:=by
 refine⟨_,nA,λO H ds d vs Q oo rs e k=>?_⟩
 unfold jQ at e
 split at e
 ·split at e
  ·rename_i is he
   by_cases h64:is.length<64
   ·rw[if_pos h64] at e
    cases e
    obtain⟨v,rfl,r⟩:=eS rs
    obtain⟨p,xs,rfl,h1,rx⟩:=r.lst_inv
    rw[mq he] at rx
    rw[nY rx] at h1
    exact⟨p,is,rfl,h1,h64,λl hl=>k _ _ (bu hl) (ie oo hl (jN _))⟩
   simp_all
  simp_all
 simp_all
end
end DL
namespace DL
open PyProof.Rows L2
def oS(K:ε)(H:Hp)(k:V->Hp->Prop)(d:D):Prop:=∃ds,d=.list ds/\bj ds=true/\∀l xs H',aM H H'->H l=none->H' l=some (.lst xs)->Reps K [] H' xs ds->k (.ref l) H'
def PDF(X:Cx)(G:XD->Hp->Prop)(e:Expr)(f:DS->M D):Prop :=
 ∃t,PE X e t/\∀{Hr:Hp} (δ:DS) (O:List Addr) (σ:St) (H:Hp) (Q:VK),Ev X.K Hr O H σ δ->ok (GS G Hr) (f δ) (oS X.K H Q)->t σ H Q
def FinF(K:ε)(Hr:Hp)(R0:List Addr)(H0:Hp)(Dn:Ends):Out->Prop
 | .rt d=>oS K H0 Dn.rt d
 | _=>False
def nG(X:Cx)(G:XD->Hp->Prop)(st:List Stmt)(g:DS->M Out):Prop :=
 ∃t,PSs X st t/\∀{Hr:Hp} (R0:List Addr) (H0:Hp) (δ:DS) (O:List Addr) (σ:St) (H:Hp) (Dn:Ends),EI X.K Hr R0 (λ_=>False) H0 O H σ δ->ok (GS G Hr) (g δ) (FinF X.K Hr R0 H0 Dn)->t Dn σ H
section
variable{X:Cx}{G:XD->Hp->Prop}{e:Expr}{es:List Expr}{f:DS->M D}{fa:DS->M (List D)}{gt:DS->M Out}{sts:List Stmt}{pos:Pos}
theorem kG(he:PDF X G e f):nG X G [.Return (some e) pos] (ce f):=by
 obtain⟨t,p,he⟩:=he
 refine⟨_,o7 (qi p),λR0 H0 δ O σ H Dn E k=>?_⟩
 refine he δ O σ H _ E.ev (au (ay k) λd z=>?_)
 obtain⟨ds,rfl,hf,z⟩:=(show oS X.K H0 Dn.rt d from z)
 refine⟨ds,rfl,hf,λl xs H' s hl hx rx=>z l xs H' (λb o h=>s _ _ (E.keep b o (λw=>w) h)) ?_ hx rx⟩
 cases q:H0 l with
 | none=>rfl
 | some o =>
  rw[E.keep l o (λw=>w) q] at hl
  cases hl
theorem wt{c:DS->M Bool}{fi:DS->M (List D)}{t:D->DS->Option DS}{fr:List (Nat×Str)}{tn:List Str}{wi:TI}(hi:∀{Hr:Hp} (δ:DS) (O:List Addr) (σ:St) (H:Hp) (R:It->Hp->Prop),Ev X.K Hr O H σ δ->ok (GS G Hr) (fi δ) (λds=>∀J H1,aM H H1->Yl X.K J O H1 ds->R J H1)->wi σ H R)
  {Hr:Hp} (δ:DS) (O:List Addr) (σ:St) (H:Hp) (Q:VK) (E:Ev X.K Hr O H σ δ) (k:ok (GS G Hr) (eB tn.length (fr.map (·.1)) t fi c f δ) (oS X.K H Q)) :
  nP tn.length fr wi (gD X.K t) (cD X.K c) (tD X.K (λ_ _=>False) f) σ H Q :=
 oQ hi δ O σ H Q E (au k λd q ds e l xs H' s hl hx rx=>by
  obtain⟨ds',e',hf,q⟩:=q
  subst e
  cases e'
  exact q l xs H' s hl hx (rx.flat hf))
theorem zB{c:DS->M Bool}{fi:DS->M (List D)}{t:D->DS->Option DS}{cl:List (Str×Addr)}{fr:List (Nat×Str)}{tn:List Str}{elt iter tg:Expr}{ifs:List Expr}{scope:Scope}{pos:Pos}(hc:X.calm=true)
  (hkind:scope.kind=.function) (hcell:∀y∈scope.names,y.2≠.cell) (hclos:closureFor scope X.env=pure cl) (hsub:∀y c,cl.lookup y=some c->X.env.cells.lookup y=some c)
  (hhas:∀y∈(relabel scope X.env).names,(y.2=.cell\/y.2=.free)->∃c,cl.lookup y.1=some c) (hfr:∀p∈fr,X.N[p.1]?=some p.2/\X.env.kindOf p.2=some .cell/\(compEnvC scope cl 0 X.env).kindOf p.2=some .cell/\∃c,cl.lookup p.2=some c) (hnames:∀y∈scope.names,y.2=.local->scope.names.lookup y.1=some .local)
  (hi:PDI X G tg iter fi) (hg:∀C s3 H3 fp,PDG (bx X scope cl fr tn C s3 H3 fp) tg t) (hcs:∀C s3 H3 fp,xS (bx X scope cl fr tn C s3 H3 fp) ifs c) (he:∀C s3 H3 fp,PD (bx X scope cl fr tn C s3 H3 fp) (λ_ _=>False) elt f) (hs:∀x,foldedSetIterable iter X.env x=pure x:=by intro _;rfl) :
  PDF X G (.ListComp elt [⟨tg,iter,ifs,0⟩] scope pos) (eB tn.length (fr.map (·.1)) t fi c f):=by
 obtain⟨wi,pi,hi⟩:=hi
 refine⟨_,vz hc hkind hcell hclos hsub hhas hfr hnames pi (λC s3 H3 fp=>(hg C s3 H3 fp).can) (λC s3 H3 fp=>(hcs C s3 H3 fp).can) (λC s3 H3 fp=>(he C s3 H3 fp).can) hs,λδ O σ H Q E k=>wt hi δ O σ H Q E k⟩
end
noncomputable def spDF(K:ε)(n:Nat)(F:List D->M D):Sp:=λvs H Q _=>∃O ds,vs.length=n/\(∀l∈O,Mu H l)/\Reps K O H vs ds/\ok (λ_=>False) (F ds) (oS K H Q)
structure DefF(P:Program)(w:World)(K:ε)(mg:Str->Option Value)(base:Heap)(k:Nat)(x:Str)(n:Nat)(F:List D->M D):Prop where
 ex:∃(f:Addr) (fd:FuncData) (ps:List Str),FnOk P w K mg base CX0 k f fd ps (spDF K n F)/\mg x=some (.ref f)/\ξ K (.ref f)=true/\eR K fd ps []
section
variable{X:Cx}{G:XD->Hp->Prop}{e:Expr}{es:List Expr}{f:DS->M D}{fa:DS->M (List D)}{pos:Pos}
theorem kI{k n:Nat}{x:Str}{p:Pos}{F:List D->M D}(h:DefF X.prog X.w X.K X.mg X.base k x n F)(hr:Room k X.A)(hg:Gl X x)(hn:(e::es).length=n)(ha:PDA X G (e::es) fa)
  (hdb:(x==("__debug__" : Str))=false:=by decide) (he:starEach (e::es) X.env=(false,eval e X.env)::starEach es X.env:=by rfl) (hpl:(backTo pos (starEach es X.env)).any (·.1)=false:=by rfl) :
  PDF X G (.Call (.Name x p) (e::es) [] pos) (aH (λds=>noX (F ds)) fa):=by
 obtain⟨f,fd,ps,F1,hm,hk,hb⟩:=h.ex
 obtain⟨hl,t,pa,ha⟩:=ha
 refine⟨_,o8 F1 hr hg hm hk hb .nil qu pa hdb he hpl,λδ O σ H Q E k=>?_⟩
 have k1:=ay k
 refine ha δ O σ H _ E ?_
 cases e1:fa δ with
 | none=>rw[e1] at k1;assumption
 | some r =>
  rw[e1] at k1
  cases r with
  | error x=>exact k1
  | ok ds =>
   refine λvs H1 s1 rs=>?_
   refine⟨O,ds,?_,(E.same s1).oo,?_,au (nZ k1) λd z=>?_⟩
   ·rw[Z7,rs.length,hl δ ds e1]
    exact hn
   ·simp_all
   ·obtain⟨ds',rfl,hf,z⟩:=z
    refine⟨ds',rfl,hf,λl xs H' s hl hx rx=>z l xs H' (s1.trans s) ?_ hx rx⟩
    cases q:H l with
    | none=>rfl
    | some o=>rw[s1 l o q] at hl;cases hl
end
section
variable{P:Program}{w:World}{K:ε}{mg:Str->Option Value}{base:Heap}
theorem Ey{x qual:Str}{st:Stmt}{f:Addr}{fd:FuncData}{N ps:List Str}{k:Nat}{g:DS->M Out}(F0:Fun K x qual st f fd)(S:FnScope N ps (aj st))
  (hbody:∀(cdv:Value) (A:Around) (outer:List Env) (s:Shared) (H:Hp) (E:XK),Room k (A.deeper (envOfC qual (aj st) s.heap.objs.size f cdv)) ->
   nG (mE CX0 P w K mg base N qual (aj st) f cdv A outer s H E).nox (λ_ _=>False) (ax st) g):FnOk P w K mg base CX0 (k+1) f fd ps (spDF K ps.length (run N.length g)):=by
 refine F0.ok S (λvs H Q E h=>?_) (λcdv A outer s H vs Q E hr h=>?_)
 ·obtain⟨O,ds,hl,_⟩:=h
  exact hl
 ·obtain⟨O,ds,hl,oo,r,q⟩:=h
  obtain⟨t,p,hB⟩:=hbody cdv A outer s H E hr
  refine⟨t,p,hB O H (e9 N.length ds) O (L2.start N vs) H _ ⟨qU N oo r,λl hl=>.inl hl,λb o _ h=>h,λl hl=>.inl hl,λi es l h1 ho h2=>?_,λl hl=>hl⟩ (au (mV (ay q)) λo z=>?_)⟩
  ·exact(pR h1 ho).elim
  ·cases o with
   | rt d=>exact z
   | nx δ =>
    obtain⟨ds',e,_⟩:=(show oS K H Q .none from z)
    cases e
   | bk δ=>assumption
   | ct δ=>assumption
theorem nu{x qual:Str}{st:Stmt}{f:Addr}{fd:FuncData}{N ps:List Str}{k:Nat}{g:DS->M Out}(F0:Fun K x qual st f fd)(S:FnScope N ps (aj st))(hm:mg x=some (.ref f))(hb:eR K fd ps [])
  (hbody:∀(cdv:Value) (A:Around) (outer:List Env) (s:Shared) (H:Hp) (E:XK),Room k (A.deeper (envOfC qual (aj st) s.heap.objs.size f cdv)) ->
   nG (mE CX0 P w K mg base N qual (aj st) f cdv A outer s H E).nox (λ_ _=>False) (ax st) g):DefF P w K mg base (k+1) x ps.length (run N.length g) :=
 ⟨f,fd,ps,Ey F0 S hbody,hm,F0.kp,hb⟩
end
end DL
namespace L2
open PyProof.Rows
section
variable{X:Cx}
end
end L2
namespace DL
open PyProof.Rows L2
section
variable{X:Cx}
noncomputable def qj:D->Option V
 | .none=>some .non
 | .bool b=>some (.bl b)
 | .int i=>some (.int i)
 | .str x=>some (.str x)
 | _=>none
noncomputable def iO:List D->Option (List V)
 | []=>some []
 | d::ds=>match qj d,iO ds with
  | some v,some vs=>some (v::vs)
  | _,_=>none
theorem mi{K:ε}{O:List Addr}{H:Hp}{d:D}{v u:V}(h:qj d=some v)(r:Rep K O H u d):u=v/\lZ v=true:=by
 cases r<;>cases h<;>exact⟨rfl,rfl⟩
theorem kF{K:ε}{O:List Addr}{H:Hp}:∀{ds:List D} {vs us:List V},iO ds=some vs->Reps K O H us ds->us=vs/\vs.all lZ=true
 | [],vs,_,h,.nil=>by cases h;simp
 | d::ds,vs,_,h,.cons r rs=>by
  simp only[iO] at h
  split at h
  ·rename_i v ws e1 e2
   cases h
   obtain⟨rfl,f1⟩:=mi e1 r
   obtain⟨rfl,f2⟩:=kF e2 rs
   simp_all
  simp_all
noncomputable def mX(neg:Bool):D->D->Option D
 | x,.list ds=>match qj x,iO ds with
  | some v,some vs=>some (.bool (if neg then !inV v vs else inV v vs))
  | _,_=>none
 | x,.tuple ds=>match qj x,iO ds with
  | some v,some vs=>some (.bool (if neg then !inV v vs else inV v vs))
  | _,_=>none
 | _,_=>none
theorem vI{neg:Bool}{O:List Addr}{H:Hp}{x y d:D}{v u:V}{Q:VK}(rx:Rep X.K O H v x)(ry:Rep X.K O H u y)(e:mX neg x y=some d)(k:∀v' H',aM H H'->Rep X.K O H' v' d->Q v' H'):rIn X.K neg v u H Q:=by
 unfold mX at e
 split at e
 ·split at e
  ·rename_i e1 e2
   cases e
   obtain⟨rfl,f1⟩:=mi e1 rx
   obtain⟨p,xs,rfl,h1,rs⟩:=ry.lst_inv
   obtain⟨rfl,f2⟩:=kF e2 rs
   exact⟨p,_,rfl,.inl h1,f1,f2,k _ H (aM.refl H) (.bl _)⟩
  simp_all
 ·split at e
  ·rename_i e1 e2
   cases e
   obtain⟨rfl,f1⟩:=mi e1 rx
   obtain⟨p,xs,rfl,h1,rs⟩:=ry.tup_inv
   obtain⟨rfl,f2⟩:=kF e2 rs
   exact⟨p,_,rfl,.inr h1,f1,f2,k _ H (aM.refl H) (.bl _)⟩
  simp_all
 simp_all
theorem yW:DOp X (compareOp .In) (mX false):=⟨_,zG,λO H x y d v u Q oo rx ry e k=>vI rx ry e k⟩
theorem my:DOp X (compareOp .NotIn) (mX true):=⟨_,tQ,λO H x y d v u Q oo rx ry e k=>vI rx ry e k⟩
end
section
variable{X:Cx}{G:XD->Hp->Prop}{e:Expr}{es:List Expr}{f:DS->M D}{fa:DS->M (List D)}{gs gt:DS->M Out}{st:Stmt}{sts:List Stmt}{pos:Pos}
noncomputable def sG(i:Nat):DS->M Out:=λδ=>match δ[i]? with
 | some (.ow ds)=>if bj ds=true then M.ret (.rt (.list ds)) else none
 | _=>none
theorem EI.sames{K:ε}{Hr H0 H:Hp}{R0 O:List Addr}{σ:St}{δ:DS}(E:EI K Hr R0 (λ_=>False) H0 O H σ δ):aM H0 H:=λb o h=>E.keep b o (λw=>w) h
theorem sk{i:Nat}(he:PE X e (uT i)):nG X G [.Return (some e) pos] (sG i):=by
 refine⟨_,o7 (qi he),λR0 H0 δ O σ H Dn E k=>?_⟩
 unfold sG at k
 split at k
 ·rename_i ds hd
  by_cases hf:bj ds=true
  ·rw[if_pos hf] at k
   obtain⟨l,xs,q1,q2,q3,q4⟩:=E.ev.at_ i _ hd
   obtain⟨ds',e1,hf',k⟩:=(show oS X.K H0 Dn.rt (.list ds) from k)
   cases e1
   have hl:H0 l=none:=by
    rcases E.om l q2 with h | h | h
    ·exact absurd h (E.nr i ds l hd q1)
    all_goals simp_all
   exact⟨.ref l,q1,k l xs H E.sames hl q3 (q4.flat hf)⟩
  ·rw[if_neg hf] at k
   exact k.elim
 ·exact k.elim
noncomputable def gC(g h:DS->M Out):DS->M Out:=λδ=>(g δ).thn λo=>match o with
 | .nx δ'=>h δ'
 | _=>none
theorem cn(h1:PDS X G st gs)(h2:nG X G sts gt):nG X G (st::sts) (gC gs gt):=by
 obtain⟨t,p,h1⟩:=h1
 obtain⟨u,q,h2⟩:=h2
 refine⟨_,mS p q,λR0 H0 δ O σ H Dn E k=>?_⟩
 refine h1 R0 _ H0 δ O σ H _ E (au (ay k) λo z=>?_)
 cases o with
 | nx δ'=>exact λO' σ' H' E'=>h2 R0 H0 δ' O' σ' H' Dn E' z
 | rt d=>exact z.elim
 | bk δ'=>exact z.elim
 | ct δ'=>exact z.elim
theorem cY{r:M Out}{δ δ':DS}(h1:gs δ=M.ret (.nx δ'))(h2:gt δ'=r):gC gs gt δ=r:=by unfold gC;rw[h1];exact h2
theorem yN{i:Nat}{δ:DS}{ds:List D}(h:δ[i]?=some (.ow ds))(hf:bj ds=true):sG i δ=M.ret (.rt (.list ds)):=by unfold sG;simp_all
noncomputable def nF(f:DS->M D):DS->M (List D):=λδ=>(f δ).thn λd=>match d with
 | .list ds=>if bj ds=true then M.ret ds else none
 | _=>none
theorem yQ{δ:DS}{ds:List D}(h:f δ=M.ret (.list ds))(hf:bj ds=true):nF f δ=M.ret ds:=by
 unfold nF
 rw[h]
 show(if bj ds=true then _ else _)=_
 simp_all
mutual
theorem Rep.flatTo{K:ε}{O O':List Addr}{H H':Hp}(t:∀b xs,Rd H b (.tup xs)->Rd H' b (.tup xs)):∀{v:V} {d:D},dW d=true->Rep K O H v d->Rep K O' H' v d
 | _,_,_,.non=>.non
 | _,_,_,.bl b=>.bl b
 | _,_,_,.int i=>.int i
 | _,_,_,.str x=>.str x
 | _,_,h,.tup q r=>.tup (by rcases q with q | q;exact .inl (t _ _ q);exact .inr q) (Reps.flatTo t (by simpa only[dW] using h) r)
 | _,_,h,.lst _ _ _=>by simp [dW] at h
 | _,_,h,.lstK _ _=>by simp [dW] at h
 | _,_,h,.dct _ _ _ _=>by simp [dW] at h
 | _,_,h,.ins _ _ _ _ _=>by simp [dW,gP] at h
theorem Reps.flatTo{K:ε}{O O':List Addr}{H H':Hp}(t:∀b xs,Rd H b (.tup xs)->Rd H' b (.tup xs)):∀{vs:List V} {ds:List D},bj ds=true->Reps K O H vs ds->Reps K O' H' vs ds
 | _,_,_,.nil=>.nil
 | _,_,h,.cons r rs=>by
  simp only[bj,Y0] at h
  exact .cons (Rep.flatTo t h.1 r) (Reps.flatTo t h.2 rs)
end
theorem pd(h:PDF X G e f):PDN X G e (nF f):=by
 obtain⟨t,p,h⟩:=h
 refine⟨t,p,λδ O σ H Q E k=>?_⟩
 refine h _ O σ H Q E (au (ay k) λd z=>?_)
 match d,z with
 | .list ds,z =>
  by_cases hf:bj ds=true
  ·have z:ok _ (if bj ds=true then M.ret ds else none) _:=z
   rw[if_pos hf] at z
   refine⟨ds,rfl,hf,λl xs H' s hl hx rx=>?_⟩
   have z:=z l xs (λb=>if b=l then none else H' b) (λb o hb=>?_) (if_pos rfl) (rx.flatTo (λb ys q=>?_) hf)
   ·have e1:upd (λb=>if b=l then none else H' b) l (.lst xs)=H':=by
     funext b
     by_cases hb:b=l
     ·subst hb;rw[aN,hx]
     ·rw[upd_ne hb];simp_all
    simp_all
   ·have hb':= bp hb hl
    show(if b=l then none else H' b)=_
    rw[if_neg hb']
    exact s b o hb
   ·have hb:b≠l:=by
     rintro rfl
     rcases q with q | ⟨u,q⟩<;>rw[hx] at q<;>cases q
    rcases q with q | ⟨u,q⟩
    ·exact .inl (by simp_all)
    ·exact .inr ⟨u,by simp_all⟩
  ·have z:ok _ (if bj ds=true then M.ret ds else none) _:=z
   rw[if_neg hf] at z
   exact z.elim
end
end DL
namespace DL
open PyProof.Rows L2
section
variable{X:Cx}{G:XD->Hp->Prop}{c e:Expr}{fb:DS->M Bool}{f:DS->M D}{gs gt:DS->M Out}{st1 body sts:List Stmt}{st:Stmt}{pos:Pos}
end
end DL
namespace L2
open PyProof.Rows
section
variable{X:Cx}
end
end L2
namespace DL
open PyProof.Rows L2
theorem EI.put{K:ε}{Hr:Hp}{R0:List Addr}{P0:Addr->Prop}{H0 H:Hp}{O:List Addr}{σ:St}{δ:DS}{i:Nat}{l:Addr}{xs ys:List V}{ds ds':List D}(E:EI K Hr R0 P0 H0 O H σ δ)(hd:δ[i]?=some (.ow ds))(hσ:σ[i]?=some (some (.ref l)))(hl:H l=some (.lst xs))(ry:Reps K O H ys ds') :
  EI K Hr R0 P0 H0 O (upd H l (.lst ys)) σ (δ.set i (.ow ds')):=by
 obtain⟨l',xs',q1,lO,q3,_⟩:=E.ev.at_ i _ hd
 rw[hσ] at q1
 cases q1
 have tO:To O O H (upd H l (.lst ys)):=To.set hl lO
 refine⟨⟨λb o h=>?_,λa ha=>?_,by rw[Y5];exact E.ev.len,λj s h=>?_,λj k a es es' hjk h1 h2 h3=>?_⟩,E.omr,λb o n h=>?_,E.om,λj es a h1 ho h2=>?_,E.sub⟩
 ·have q:=E.ev.root b o h
  have hne:b≠l:=λz=>by
   subst z
   rcases E.omr b lO with w | w
   ·exact E.nr i ds b hd hσ w
   simp_all
  rw[upd_ne hne]
  exact q
 ·by_cases hb:a=l
  ·rw[hb];exact .lst aN
  ·exact(E.ev.oo a ha).upd_ne hb
 ·rw[bM] at h
  by_cases hij:i=j
  ·rw[if_pos hij] at h
   split at h
   ·cases h
    rw[<-hij,hσ]
    exact⟨l,_,rfl,lO,aN,ry.to tO⟩
   simp_all
  ·rw[if_neg hij] at h
   refine(E.ev.at_ j s h).to tO (B5 hl) λa ys h1 h2 h3 h4=>⟨h1,?_⟩
   obtain⟨es,rfl⟩:=h4
   have hne:a≠l:=λz=>by
    subst z
    exact E.ev.dis i j a ds es hij hd h hσ h3
   rw[upd_ne hne]
   exact h2
 ·have old:∀(j:Nat) (es:List D),(δ.set i (.ow ds'))[j]?=some (.ow es)->∃es',δ[j]?=some (.ow es'):=λj es h=>by
   grind
  obtain⟨e1,h1⟩:=old j es h1
  obtain⟨e2,h2⟩:=old k es' h2
  exact E.ev.dis j k a e1 e2 hjk h1 h2 h3
 ·have q:=E.keep b o n h
  have hne:b≠l:=λz=>by
   subst z
   rcases E.om b lO with w | w | w
   ·exact E.nr i ds b hd hσ w
   all_goals simp_all
  rw[upd_ne hne]
  exact q
 ·rw[bM] at h1
  by_cases hij:i=j
  ·exact E.nr i ds a hd (by simp_all)
  ·rw[if_neg hij] at h1
   exact E.nr1 j es a h1 ho h2
section
variable{X:Cx}{G:XD->Hp->Prop}{a b c e ix:Expr}{es:List Expr}{f g fi:DS->M D}{fa:DS->M (List D)}{fn:DS->M (List D)}{pos tpos:Pos}
noncomputable def CB(fn:DS->M (List D)):DS->M D:=λδ=>(fn δ).thn λds=>M.ret (.list ds)
theorem Bg(h:PDN X G e fn):PD X G e (CB fn):=by
 obtain⟨t,p,h⟩:=h
 refine⟨t,p,λδ O σ H Q E k=>?_⟩
 refine h δ O σ H Q E (au (ay k) λds z l xs H1 s1 hl rx=>?_)
 exact z (.ref l) _ (s1.trans (bu hl)) (ie (E.same s1).oo hl rx)
theorem Ci{δ:DS}{ds:List D}(h:fn δ=M.ret ds):CB fn δ=M.ret (.list ds):=by unfold CB;rw[h];rfl
noncomputable def Ea(i:Nat)(fn:DS->M (List D)):DS->M (List D):=λδ=>(fn (frz i δ)).thn λds=>if bj ds=true then M.ret ds else none
theorem DE(i:Nat)(h:PDN X G e fn):PDN X G e (Ea i fn):=by
 obtain⟨t,p,h⟩:=h
 refine⟨t,p,λδ O σ H Q E k=>?_⟩
 obtain⟨O',E'⟩:=E.frz
 refine h _ O' σ H Q E' (au (ay k) λds z l xs H1 s1 hl rx=>?_)
 by_cases hf:bj ds=true
 ·rw[if_pos hf] at z
  exact z l xs H1 s1 hl (rx.flat hf)
 ·rw[if_neg hf] at z
  exact z.elim
theorem ED{i:Nat}{δ:DS}{ds:List D}(h:fn (frz i δ)=M.ret ds)(hf:bj ds=true):Ea i fn δ=M.ret ds:=by unfold Ea;rw[h,aQ,if_pos hf]
noncomputable def BH(f g:DS->M D):DS->M (List D):=λδ=>(f δ).thn λx=>(g δ).thn λy=>match x,y with
 | .list xs,.list ys=>if bi (xs.length+ys.length) then M.ret (xs++ys) else none
 | _,_=>none
theorem yr(ha:PD X G a f)(hb:PD X G b g):PDN X G (.BinOp a .Add b pos) (BH f g):=by
 obtain⟨ta,pa,ha⟩:=ha
 obtain⟨tb,pb,hb⟩:=hb
 refine⟨_,pe_op yt pa pb,λδ O σ H Q E k=>?_⟩
 refine ha δ O σ H _ E (au (ay k) λx z v H1 s1 rx=>?_)
 refine hb δ O σ H1 _ (E.same s1) (au (ay z) λy z u H2 s2 ry=>?_)
 match x,y,z,rx,ry with
 | .list xs,.list ys,z,rx,ry =>
  obtain⟨p,vs,rfl,h1,r1⟩:=(rx.same s2).lst_inv
  obtain⟨q,ws,rfl,h2,r2⟩:=ry.lst_inv
  by_cases hz:bi (xs.length+ys.length)=true
  ·have z:ok _ (if bi (xs.length+ys.length)=true then M.ret (xs++ys) else none) _:=z
   rw[if_pos hz] at z
   exact⟨p,q,vs,ws,rfl,rfl,h1,h2,by rw[r1.length,r2.length];exact bQ hz,λl hl=>z l _ H2 (s1.trans s2) hl (r1.append r2)⟩
  ·have z:ok _ (if bi (xs.length+ys.length)=true then M.ret (xs++ys) else none) _:=z
   rw[if_neg hz] at z
   exact z.elim
theorem yR{δ:DS}{xs ys:List D}(h1:f δ=M.ret (.list xs))(h2:g δ=M.ret (.list ys))(hz:bi (xs.length+ys.length)=true):BH f g δ=M.ret (xs++ys):=by
 unfold BH;rw[h1,aQ,h2];show(if _ then _ else _)=_;simp_all
end
end DL
namespace L2
open PyProof.Rows
end L2
namespace DL
open PyProof.Rows L2
section
variable{X:Cx}
end
end DL
namespace DL
open PyProof.Rows L2
section
variable{X:Cx}
noncomputable def DY:List D->Option D
 | [.str x]=>if x.length=1 then some (.int ((x.cps.getD 0 0:Nat):Int)) else none
 | _=>none
theorem Aa:km X (.builtin "ord") DY:=by
 refine⟨_,CI,λO H ds d vs Q oo rs e k=>?_⟩
 unfold DY at e
 split at e
 ·rename_i x
  by_cases h:x.length=1
  ·rw[if_pos h] at e
   cases e
   obtain⟨v,rfl,r⟩:=eS rs
   exact⟨x,by rw[r.str_inv],h,k _ H (aM.refl H) (.int _)⟩
  ·rw[if_neg h] at e;cases e
 ·cases e
end
end DL
namespace L2
open PyProof.Rows
section
variable{pr:Program}{wo:World}{Ar:Around}{Er:Value->Shared->Prop}{st:Shared}
end
section
variable{X:Cx}{x y:Str}{p p' pos pos':Pos}{e:Expr}{t:TA}{id T U:String}{r:List V->Hp->VK->Prop}
end
end L2
namespace DL
open PyProof.Rows L2
section
variable{X:Cx}{G:XD->Hp->Prop}{e:Expr}{fa:DS->M (List D)}{pos pos' p p':Pos}{x y:Str}{id T U:String}
end
end DL
namespace DL
open PyProof.Rows L2
section
variable{X:Cx}{G:XD->Hp->Prop}{e:Expr}{f:DS->M D}{pos pos':Pos}
end
end DL
namespace L2
open PyProof.Rows
section
variable{pr:Program}{wo:World}{Ar:Around}{R:Result->Shared->Prop}{T:Addr}{fp wr:List Addr}{n:Nat}{P:Nat->Value->Prop}{St:Nat->Heap->Prop}
end
section
variable{pr:Program}{wo:World}{Ar:Around}{Er:Value->Shared->Prop}{st:Shared}
end
section
variable{X:Cx}{x:Str}{p pos kpos:Pos}{e d:Expr}{t:TA}{tk:TE}
end
end L2
namespace DL
open PyProof.Rows L2
section
variable{X:Cx}{G:XD->Hp->Prop}{e d:Expr}{fa:DS->M (List D)}{g:DS->M D}{pos p kpos:Pos}{x:Str}
end
end DL
namespace DL
open PyProof.Rows L2
section
variable{X:Cx}
end
end DL
namespace L2
open PyProof.Rows
section
variable{κ:Type}[DecidableEq κ]
noncomputable def iZ(kvs:List (κ×V))(k:κ):Option V:=(kvs.find? λkv=>decide (kv.1=k)).map (·.2)
noncomputable def ig(kvs:List (κ×V))(k:κ)(v:V):List (κ×V) :=
 if (kvs.any λkv=>decide (kv.1=k))=true then kvs.map (λkv=>if kv.1=k then (kv.1,v) else kv) else kvs++[(k,v)]
theorem mI{p:κ×V}{r:List (κ×V)}{k:κ}(e:p.1=k):iZ (p::r) k=some p.2:=by simp [iZ,W5,e]
theorem kB{p:κ×V}{r:List (κ×V)}{k:κ}(e:¬p.1=k):iZ (p::r) k=iZ r k:=by simp [iZ,W5,e]
theorem uQ(k:κ):∀kvs:List (κ×V),(kvs.any λkv=>decide (kv.1=k))=(iZ kvs k).isSome
 | []=>rfl
 | p::r=>by
  rw[List.any_cons]
  by_cases e:p.1=k
  ·simp only[mI e,decide_eq_true e,Bool.true_or,Option.isSome_some]
  ·rw[kB e,decide_eq_false e,Bool.false_or];exact uQ k r
theorem kR(kvs:List (κ×V))(k:κ)(v:V):(ig kvs k v).length<=kvs.length+1:=by
 unfold ig
 grind
theorem kt.isSome_eq{o:Option V}{u:Option Value}(r:kt o u):o.isSome=u.isSome:=by
 cases o with
 | none=>cases u with
  | none=>rfl
  | some _=>exact(show False from r).elim
 | some _=>cases u with
  | none=>exact(show False from r).elim
  | some _=>rfl
theorem kt.getD{o:Option V}{u:Option Value}{d:V}{d':Value}(r:kt o u)(rd:bW d d'):bW (o.getD d) (u.getD d'):=by
 cases o with
 | none=>cases u with
  | none=>exact rd
  | some _=>exact(show False from r).elim
 | some _=>cases u with
  | none=>exact(show False from r).elim
  | some _=>exact r
theorem KV.val{kvs:List (κ×V)}{vs:List (κ×Value)}(r:KV kvs vs)(k:κ):kt (iZ kvs k) (valueAt vs k):=by
 induction r with
 | nil=>exact True.intro
 | @cons p q ps qs h t ih =>
  obtain⟨h1,h2⟩:=h
  by_cases e:p.1=k
  ·have e':= h1.symm.trans e
   have b:valueAt (q::qs) k=some q.2:=by simp [valueAt,W5,e']
   rw[mI e,b];exact h2
  ·have e':¬q.1=k:=λz=>e (h1.trans z)
   have b:valueAt (q::qs) k=valueAt qs k:=by simp [valueAt,W5,e']
   rw[kB e,b];exact ih
theorem KV.any{kvs:List (κ×V)}{vs:List (κ×Value)}(r:KV kvs vs)(k:κ):(kvs.any λkv=>decide (kv.1=k))=vs.any λkv=>decide (kv.1=k):=by
 induction r with
 | nil=>rfl
 | cons h t ih=>simp_all
theorem KV.repl{kvs:List (κ×V)}{vs:List (κ×Value)}(r:KV kvs vs)(k:κ){y:V}{u:Value}(ry:bW y u) :
  KV (kvs.map λkv=>if kv.1=k then (kv.1,y) else kv) (vs.map λkv=>if kv.1=k then (kv.1,u) else kv):=by
 induction r with
 | nil=>exact .nil
 | @cons p q ps qs h t ih =>
  rw[Δ,Δ]
  refine .cons ?_ ih
  grind
theorem KV.put{kvs:List (κ×V)}{vs:List (κ×Value)}(r:KV kvs vs)(k:κ){y:V}{u:Value}(ry:bW y u):KV (ig kvs k y) (stored vs k u):=by
 unfold ig stored
 rw[r.any k]
 by_cases e:(vs.any λkv=>decide (kv.1=k))=true
 ·rw[if_pos e,if_pos e];exact r.repl k ry
 ·rw[if_neg e,if_neg e];exact Paired.snoc r ⟨rfl,ry⟩
theorem KV.length{kvs:List (κ×V)}{vs:List (κ×Value)}(r:KV kvs vs):kvs.length=vs.length:=Paired.length r
end
theorem oJ{P:Program}{w:World}{k:Key}{u:Value}(r:bW (kV k) u):(ci P w).is k u=true:=by
 cases k with
 | inl i=>obtain⟨t,e⟩:=(show ∃t,u=Value.int i t from r);subst e;exact vN P w i t
 | inr x=>obtain⟨t,e⟩:=(show ∃t,u=Value.str x t from r);subst e;exact kN P w x t
theorem sA{P:Program}{w:World}:∀{ks:List Key} {us:List Value},bD (ks.map kV) us->ItemsAre (ci P w) ks us
 | [],_,r=>by cases r;exact .nil
 | k::ks,_,r=>by
  cases r with
  | cons h t=>exact .cons (oJ h) (sA t)
abbrev KT(H:Hp):List (List Key×V)->List (List Key×Addr×Value)->Prop:=Paired λp q=>p.1=q.1/\H q.2.1=some (.tup (p.1.map kV))/\bW p.2 q.2.2
theorem KT.val{H:Hp}{kvs:List (List Key×V)}{xs:List (List Key×Addr×Value)}(r:KT H kvs xs)(k:List Key):kt (iZ kvs k) ((atKey xs k).map (·.2)):=by
 induction r with
 | nil=>exact True.intro
 | @cons p q ps qs h t ih =>
  obtain⟨h1,_,h2⟩:=h
  by_cases e:p.1=k
  ·have e':= h1.symm.trans e
   have b:atKey (q::qs) k=some q.2:=by simp [atKey,W5,e']
   rw[mI e,b];exact h2
  ·have e':¬q.1=k:=λz=>e (h1.trans z)
   have b:atKey (q::qs) k=atKey qs k:=by simp [atKey,W5,e']
   rw[kB e,b];exact ih
theorem KT.repl{H:Hp}{kvs:List (List Key×V)}{xs:List (List Key×Addr×Value)}(r:KT H kvs xs)(k:List Key){y:V}{u:Value}(ry:bW y u) :
  KT H (kvs.map λkv=>if kv.1=k then (kv.1,y) else kv) (xs.map (putAt k u)):=by
 induction r with
 | nil=>exact .nil
 | @cons p q ps qs h t ih =>
  rw[Δ,Δ]
  refine .cons ?_ ih
  obtain⟨h1,h2,h3⟩:=h
  unfold putAt
  grind
theorem KT.put{H:Hp}{kvs:List (List Key×V)}{xs:List (List Key×Addr×Value)}(r:KT H kvs xs)(k:List Key){b:Addr}{y:V}{u:Value}(hb:H b=some (.tup (k.map kV)))(ry:bW y u) :
  KT H (ig kvs k y) (storedH xs k b u):=by
 have e:(kvs.any λkv=>decide (kv.1=k))=(atKey xs k).isSome:=by
  rw[uQ,(r.val k).isSome_eq,Option.isSome_map]
 unfold ig storedH
 rw[e]
 by_cases q:(atKey xs k).isSome=true
 ·rw[if_pos q,if_pos q];exact r.repl k ry
 ·rw[if_neg q,if_neg q];exact Paired.snoc r ⟨rfl,hb,ry⟩
theorem KT.keeps{H H':Hp}{kvs:List (List Key×V)}{xs:List (List Key×Addr×Value)}(r:KT H kvs xs)(ht:∀b ys,H b=some (.tup ys)->H' b=some (.tup ys)):KT H' kvs xs :=
 Paired.mapP r λ_ _ z=>⟨z.1,ht _ _ z.2.1,z.2.2⟩
section
variable{P:Program}{w:World}{H:Hp}{h:Heap}{a:Addr}
theorem rd_of{u:HO}(ok:HOk P w H h)(e:Rd H a u):eQ P w H h a u:=e.ok ok
theorem yX{kvs:List (Key×V)}(ok:HOk P w H h)(e:Rd H a (.dK kvs)):kvs.length<=sizeLine/\(a==sysModules)=false/\∃vs,KV kvs vs/\h.DictOf (ci P w) a vs :=
 show eQ P w H h a (.dK kvs) from rd_of ok e
theorem dk_of{kvs:List (Key×V)}(ok:HOk P w H h)(e:H a=some (.dK kvs)):kvs.length<=sizeLine/\(a==sysModules)=false/\∃vs,KV kvs vs/\h.DictOf (ci P w) a vs:=yX ok (.inl e)
theorem ud{ks:List Key}(ok:HOk P w H h)(e:H a=some (.tup (ks.map kV))):(tupleKind (ci P w)).is h ks a:=by
 obtain⟨_,its,r,o,h1,h2,n,h3⟩:=(show eQ P w H h a (.tup (ks.map kV)) from ok a _ e)
 exact⟨o,its.toArray,n,h1,h2,h3,by simpa using sA r⟩
theorem yU{kvs:List (List Key×V)}(ok:HOk P w H h)(e:Rd H a (.dT kvs)):kvs.length<=sizeLine/\(a==sysModules)=false /\
  ∃xs,KT H kvs xs/\h.DictOfH (tupleKind (ci P w)) a xs:=by
 obtain⟨z,y,xs,r,o,es,ep,h1,h2,h3,h4,h5⟩:=(show eQ P w H h a (.dT kvs) from rd_of ok e)
 refine⟨z,y,xs,r,o,es,ep,h1,h2,h3,h4,λx hx=>?_,h5⟩
 have all:∀{l:List (List Key×V)} {m:List (List Key×Addr×Value)},KT H l m->∀x∈m,(tupleKind (ci P w)).is h x.1 x.2.1:=by
  intro l m q
  induction q with
  | nil=>simp
  | @cons p q ps qs hq t ih =>
   intro x hx
   rcases Θ.mp hx with e | hx
   ·subst e
    exact ud ok (by simp_all)
   grind
 grind
theorem dt_of{kvs:List (List Key×V)}(ok:HOk P w H h)(e:H a=some (.dT kvs)):kvs.length<=sizeLine/\(a==sysModules)=false /\
  ∃xs,KT H kvs xs/\h.DictOfH (tupleKind (ci P w)) a xs:=yU ok (.inl e)
end
def xV(H:Hp)(a:Addr)(y:V)(r:Option V):Prop :=
 (∃kvs k,Rd H a (.dK kvs)/\y=kV k/\r=iZ kvs k)\/∃kvs k b,Rd H a (.dT kvs)/\y=.ref b/\H b=some (.tup (k.map kV))/\r=iZ kvs k
def DPut(H:Hp)(a:Addr)(y v:V)(H':Hp):Prop :=
 (∃kvs k,H a=some (.dK kvs)/\y=kV k/\kvs.length<sizeLine/\H'=upd H a (.dK (ig kvs k v))) \/
 ∃kvs k b,H a=some (.dT kvs)/\y=.ref b/\H b=some (.tup (k.map kV))/\kvs.length<sizeLine/\H'=upd H a (.dT (ig kvs k v))
section
variable{X:Cx}{pins:List (Addr×Obj)}{σ:St}{H:Hp}{s:Shared}{a:Addr}{y v:V}{u r:Value}{o:Option V}{A:Around}{E:Value->Shared->Prop}
theorem Inv.big(I:Inv X pins σ H s):sysModules<s.heap.objs.size:=by
 have h:= (I.mod.glob.keeps I.bk).lt
 exact Nat.lt_trans (by decide) h
theorem Ad{Q:Value->Shared->Prop}(hu:A.units+1<cLine)(I:Inv X pins σ H s)(g:xV H a y (some v))(ry:bW y u)(h:∀w' s',Inv X pins σ H s'->bW v w'->Q w' s') :
  wpAny (model X.prog X.w) A (getItem (.ref a) u) Q E s:=by
 rcases g with ⟨kvs,k,e,ey,l⟩ | ⟨kvs,k,b,e,ey,eb,l⟩
 ·subst ey
  obtain⟨z,hd,vs,rel,dd⟩:=yX I.hok e
  obtain⟨w',hw,rw'⟩:=kt.some_of (by rw[l];exact rel.val k)
  exact wpAny_getItem_of (oJ ry) dd.mapOf hw (h w' _ (I.tok _) rw')
 ·subst ey
  cases (show u=Value.ref b from ry)
  obtain⟨z,hd,xs,rel,dd⟩:=yU I.hok e
  obtain⟨w',hw,rw'⟩:=kt.some_of (by rw[l];exact rel.val k)
  obtain⟨p,hp,hp2⟩:=Option.map_eq_some_iff.mp hw
  refine wpAny_getItem_heap (tupleKind_room_in1 hu) (ud I.hok eb) dd hp ?_
  rw[hp2]
  exact h w' _ (I.tok _) rw'
theorem EM{Q:Value->Shared->Prop}(hu:A.units+1<cLine)(I:Inv X pins σ H s)(g:xV H a y o)(ry:bW y u)(h:∀s',Inv X pins σ H s'->Q (.bool (!o.isSome)) s') :
  wpAny (model X.prog X.w) A (compareOp .NotIn u (.ref a)) Q E s:=by
 rcases g with ⟨kvs,k,e,ey,l⟩ | ⟨kvs,k,b,e,ey,eb,l⟩
 ·subst ey
  obtain⟨z,hd,vs,rel,dd⟩:=yX I.hok e
  refine wpAny_notIn_of (oJ ry) hd dd.mapOf ?_
  rw[<-(rel.val k).isSome_eq,<-l]
  exact h _ (I.tok _)
 ·subst ey
  cases (show u=Value.ref b from ry)
  obtain⟨z,hd,xs,rel,dd⟩:=yU I.hok e
  refine wpAny_notIn_heap (tupleKind_room_in1 hu) (ud I.hok eb) hd dd ?_
  have q:=(rel.val k).isSome_eq
  rw[Option.isSome_map] at q
  rw[<-q,<-l]
  exact h _ (I.tok _)
theorem uy{h':Heap}{t':Nat}{ob:HO}(I:Inv X pins σ H s)(mu:Mut (H a))(hs:Heap.SameBut a s.heap h')(he:∃q,h'.get? a=some q)(new:eQ X.prog X.w (upd H a ob) h' a ob) :
  Inv X pins σ (upd H a ob) { s with heap:=h',toks:=t' } :=
 I.write (x:=a) (e:=a) mu (.inl rfl) (λb q hb z=>(hs.2 b hb).trans z) he new
theorem xD{P:Program}{w:World}{H':Hp}{h':Heap}{kvs:List (Key×V)}{vs:List (Key×Value)}(z:kvs.length<=sizeLine)(hd:(a==sysModules)=false)(rel:KV kvs vs)(dd:h'.DictOf (ci P w) a vs) :
  eQ P w H' h' a (.dK kvs):=⟨z,hd,vs,rel,dd⟩
theorem Ac{H':Hp}{Q:Unit->Shared->Prop}(hu:A.units+1<cLine)(I:Inv X pins σ H s)(g:DPut H a y v H')(ry:bW y u)(rv:bW v r)(h:∀s',Inv X pins σ H' s'->Q () s') :
  wpAny (model X.prog X.w) A (setItem (.ref a) u r) Q E s:=by
 rcases g with ⟨kvs,k,e,ey,l,eH⟩ | ⟨kvs,k,b,e,ey,eb,l,eH⟩
 ·subst ey eH
  obtain⟨z,hd,vs,rel,dd⟩:=dk_of I.hok e
  have hz:vs.length<=sizeLine:=by rw[<-rel.length];exact z
  have hl:(ig kvs k v).length<=sizeLine:=by have:=kR kvs k v;omega
  refine wpAny_setItem_pairs (oJ ry) dd λh' dd' hs=>h _ ?_
  have he:∃q,h'.get? a=some q:=let ⟨q,_,_,hq,_⟩:=dd';⟨q,hq⟩
  exact uy I (by rw[e];exact True.intro) hs he (xD hl hd (rel.put k rv) dd')
 ·subst ey eH
  cases (show u=Value.ref b from ry)
  obtain⟨z,hd,xs,rel,dd⟩:=dt_of I.hok e
  have hz:xs.length<=sizeLine:=by rw[<-Paired.length rel];exact z
  have hl:(ig kvs k v).length<=sizeLine:=by have:=kR kvs k v;omega
  refine wpAny_setItem_heap (tupleKind_room_in1 hu) (ud I.hok eb) dd λh' dd' hs=>h _ ?_
  obtain⟨q,es,ep,hq,h2,h3,h4,_,h5⟩:=dd'
  refine uy I (by rw[e];exact True.intro) hs ⟨q,hq⟩ ⟨hl,hd,_,(rel.put k eb rv).keeps λc ys ec=>?_,q,es,ep,hq,h2,h3,h4,h5⟩
  rw[upd_ne (BC ec e (λz=>nomatch z))]
  exact ec
end
section
variable{X:Cx}{pins:List (Addr×Obj)}{σ:St}{H:Hp}{s:Shared}{a:Addr}{kvs:List (Key×V)}{k:Key}{u:Value}{A:Around}{E:Value->Shared->Prop}
end
def CQ(i:Expr):Prop:=∀ov iv,subscripted i false ov iv=operate [ov,iv] (getItem ov iv)
theorem yc{prog:Program}{w:World}{A:Around}{E:Value->Shared->Prop}{s:Shared}{env:Env}{value slice:Expr}{pos:Pos}{T id:String}{Q:Value->Shared->Prop}
  (hl:typeLookup (.type T) "__getitem__" = pure (some (.builtin id))) (hs:CQ slice)
  (h:wpAny (model prog w) A (eval value env) (λo s₁=>wpAny (model prog w) A (eval slice env) (λi s₂=>s₂.TypeIs o T/\wpAny (model prog w) A (getItem o i) Q E s₂) E s₁) E s) :
  wpAny (model prog w) A (eval (.Subscript value slice pos) env) Q E s:=by
 refine Subscript_ (wpAny_mono h (λo s₁ h₁=>wpAny_mono h₁ (λi s₂ h₂=>?_) λ_ _ x=>x) λ_ _ x=>x)
 obtain⟨hT,h₂⟩:=h₂
 refine wpAny_bind ?_
 refine wpAny_bind (wpAny_specialOf hT hl ?_)
 have fin:wpAny (model prog w) A (subscripted slice false o i) (λr s₃=>wpAny (model prog w) A (letTemporaryGo value o r >>= λ_=>pure r) Q E s₃) E s₂:=by
  rw[hs o i]
  exact wpAny_operating (wpAny_mono h₂ (λr s₃ h₃=>wpAny_bind (wpAny_letTemporaryGo (wpAny_pure h₃))) λ_ _ x=>x)
 first
  | exact wpAny_pure (wpAny_bind fin)
  | exact wpAny_bind (wpAny_pure (wpAny_bind fin))
  | exact wpAny_bind fin
theorem wj{X:Cx}{pins:List (Addr×Obj)}{σ:St}{H:Hp}{s:Shared}{a:Addr}{y:V}{o:Option V}(I:Inv X pins σ H s)(g:xV H a y o):s.TypeIs (.ref a) "dict" := by
 rcases g with ⟨kvs,k,e,_,_⟩ | ⟨kvs,k,b,e,_,_,_⟩
 ·obtain⟨_,_,vs,_,dd⟩:=yX I.hok e
  exact dd.typeIs
 ·obtain⟨_,_,xs,_,dd⟩:=yU I.hok e
  exact dd.typeIs
noncomputable def tDGet(td ty:TE):TE:=λσ H Q=>td σ H λx H1=>ty σ H1 λy H2=>∃a v,x=.ref a/\xV H2 a y (some v)/\Q v H2
noncomputable def sDPut(td ty tv:TE):TS:=λD σ H=>tv σ H λv H1=>td σ H1 λx H2=>ty σ H2 λy H3=>∃a H4,x=.ref a/\DPut H3 a y v H4/\D.nx σ H4
section
variable{X:Cx}{o i e value:Expr}{pos pos' tpos:Pos}{td ty tv:TE}
theorem DC(hu:X.A.units+1<cLine)(ho:PE X o td)(hi:PE X i ty)(hs:CQ i):PE X (.Subscript o i pos) (tDGet td ty):=by
 intro pins s σ H Q I h
 refine yc PySem.F.slot_dict_getitem.lookup hs (thn (ho pins s σ H _ I h) λu s1 ⟨x,H1,I1,rx,q1⟩=>thn (hi pins s1 σ H1 _ I1 q1) λiv s2 ⟨y,H2,I2,ry,a,v,ex,g,q2⟩=>?_)
 subst ex
 obtain rfl:u=Value.ref a:=rx
 exact⟨wj I2 g,Ad hu I2 g ry λw' s3 I3 rw'=>⟨v,H2,I3,rw',q2⟩⟩
theorem Du(hu:X.A.units+1<cLine)(ho:PE X o td)(hi:PE X i ty)(hv:PE X value tv)(hs:swapsWith value (some (.Subscript o i pos')) pos.line X.env=pure false) :
  PS X (.Assign [.Subscript o i pos'] value pos) (sDPut td ty tv):=by
 intro pins s σ H D I h
 refine wpAny_Assign_Subscript (thn (hv pins s σ H _ I h) λr s1 ⟨v,H1,I1,rv,q1⟩=>thn (ho pins s1 σ H1 _ I1 q1) λu s2 ⟨x,H2,I2,rx,q2⟩=>thn (hi pins s2 σ H2 _ I2 q2) λiv s3 ⟨y,H3,I3,ry,a,H4,ex,g,q3⟩=>?_) hs
 subst ex
 obtain rfl:u=Value.ref a:=rx
 exact Ac hu I3 g ry rv λs4 I4=>⟨σ,H4,I4,q3⟩
end
theorem wf{P:Program}{w:World}{H:Hp}(h:Heap)(hb:sysModules<h.objs.size):eQ P w H (h.push { cls:=.type "dict",data:=.dict #[] }) h.objs.size (.dK []) :=
 ⟨X9 _,beq_eq_false_iff_ne.mpr (Ne.symm (Y4 hb)),[],.nil,Heap.DictOf.new h⟩
noncomputable def tDNewK:TE:=λ_ H Q=>∀p,H p=none->Q (.ref p) (upd H p (.dK []))
section
variable{X:Cx}{pos:Pos}
theorem Bd:PE X (.Dict [] [] pos) tDNewK:=λpins s σ H Q I h =>
 wpAny_Dict_empty ⟨.ref s.heap.objs.size,_,I.laid (a:=s.heap.objs.size) (o:=.dK []) (t':=s.toks) (λ_ _ q=>Heap.get?_push_of_some _ q) (ρ _) (wf s.heap I.big),rfl,h _ (I.hok.fresh (ρ _))⟩
end
def tj:List (TE×TE)->St->Hp->(List (V×V)->Hp->Prop)->Prop
 | [],_,H,Q=>Q [] H
 | (tk,tv)::r,σ,H,Q=>tk σ H λx H1=>tv σ H1 λy H2=>tj r σ H2 λps H3=>Q ((x,y)::ps) H3
abbrev VV:List (V×V)->List (Value×Value)->Prop:=Paired λp q=>bW p.1 q.1/\bW p.2 q.2
def PPs(X:Cx)(pos:Pos)(keys:List (Option Expr))(values:List Expr)(trs:List (TE×TE)):Prop :=
 ∀(pins:List (Addr×Obj)) (s:Shared) (σ:St) (H:Hp) (Q:List (V×V)->Hp->Prop),Inv X pins σ H s->tj trs σ H Q ->
  wpAny (model X.prog X.w) X.A (evalPairs (pairTrees keys values X.env pos)) (λvs s'=>∃ps H',Inv X pins σ H' s'/\VV ps vs/\Q ps H') X.xe s
theorem Dw{X:Cx}{pos:Pos}:PPs X pos [] [] []:=λpins s σ H Q I h=>pairTrees_nil_walk ⟨[],H,I,.nil,h⟩
theorem A2{X:Cx}{pos:Pos}{k v:Expr}{ks:List (Option Expr)}{vs:List Expr}{tk tv:TE}{trs:List (TE×TE)}(hk:PE X k tk)(hv:PE X v tv)(hr:PPs X pos ks vs trs) :
  PPs X pos (some k::ks) (v::vs) ((tk,tv)::trs):=λpins s σ H Q I h =>
 pairTrees_cons_walk (thn (hk pins s σ H _ I h) λu s1 ⟨x,H1,I1,rx,q1⟩=>thn (hv pins s1 σ H1 _ I1 q1) λw2 s2 ⟨y,H2,I2,ry,q2⟩ =>
  thn (hr pins s2 σ H2 _ I2 q2) λws s3 ⟨ps,H3,I3,rel,q3⟩=>⟨(x,y)::ps,H3,I3,.cons ⟨rx,ry⟩ rel,q3⟩)
noncomputable def jd(kvs more:List (Key×V)):List (Key×V):=more.foldl (λacc kv=>ig acc kv.1 kv.2) kvs
theorem KV.merge:∀{more:List (Key×V)} {rs:List (Key×Value)} {kvs:List (Key×V)} {vs:List (Key×Value)},KV more rs->KV kvs vs->KV (jd kvs more) (merged vs rs):=by
 intro more rs kvs vs r
 induction r generalizing kvs vs with
 | nil=>intro q;exact q
 | @cons p q ps qs h t ih =>
  intro r0
  have e:KV (ig kvs p.1 p.2) (stored vs q.1 q.2):=by
   have:=r0.put p.1 h.2
   simp_all
  exact ih e
theorem lY:∀(more kvs:List (Key×V)),(jd kvs more).length<=kvs.length+more.length
 | [],kvs=>by show kvs.length<=kvs.length+0;omega
 | p::r,kvs=>by
  have h1:=lY r (ig kvs p.1 p.2)
  have h2:=kR kvs p.1 p.2
  show(jd (ig kvs p.1 p.2) r).length<=_
  grind
theorem rE{P:Program}{w:World}:∀{kvs:List (Key×V)} {ws:List (Value×Value)},VV (kvs.map λkv=>(kV kv.1,kv.2)) ws->∃rs,Carries (ci P w) ws rs/\KV kvs rs
 | [],_,r=>by cases r;exact⟨[],True.intro,.nil⟩
 | p::kvs,_,r=>by
  cases r with
  | @cons a b as bs h t =>
   obtain⟨rs,c,q⟩:=rE t
   obtain⟨b1,b2⟩:=b
   exact⟨(p.1,b2)::rs,⟨oJ h.1,rfl,c⟩,.cons ⟨rfl,h.2⟩ q⟩
noncomputable def tDisp(trs:List (TE×TE)):TE:=λσ H Q=>∀p,H p=none->tj trs σ (upd H p (.dK [])) λps H2=>H2 p=some (.dK [])/\∃kvs:List (Key×V),ps=kvs.map (λkv=>(kV kv.1,kv.2))/\kvs.length<=15/\Q (.ref p) (upd H2 p (.dK (jd [] kvs)))
theorem DB{X:Cx}{pos:Pos}{keys:List (Option Expr)}{values:List Expr}{trs:List (TE×TE)}(h:PPs X pos keys values trs)(hall:keys.all (·.isSome)=true)(hl:keys.length=values.length)(h0:keys≠[])
  (h15:keys.length<=15):PE X (.Dict keys values pos) (tDisp trs):=by
 intro pins s σ H Q I q
 have hn:=I.hok.fresh (ρ s.heap.objs.size)
 have I1:=I.laid (t':=s.toks) (λ_ _ q=>Heap.get?_push_of_some _ q) (ρ _) (wf s.heap I.big)
 refine wpAny_Dict_walk (knd:=ci X.prog X.w) hall hl h0 h15 (thn (h pins _ σ _ _ I1 (q _ hn)) λws s2 ⟨ps,H2,I2,rel,e,kvs,ep,lk,q2⟩=>?_)
 subst ep
 obtain⟨rs,c,rk⟩:=rE rel
 obtain⟨z,hd,vs0,r0,dd⟩:=dk_of I2.hok e
 cases r0
 refine⟨rs,c,dd,λh' dd' hs=>⟨.ref s.heap.objs.size,_,?_,rfl,q2⟩⟩
 have hz:(jd [] kvs).length<=sizeLine:=by
  have h1:=lY kvs []
  rw[X1] at h1
  rw[sizeLine_eq];omega
 have he:∃q,h'.get? s.heap.objs.size=some q:=let ⟨q,_,_,hq,_⟩:=dd';⟨q,hq⟩
 exact uy I2 (by rw[e];exact True.intro) hs he (xD hz hd (rk.merge .nil) dd')
structure M1(X:Cx)(o:Expr)(m:Str)(apos:Pos)(e:Expr)(cpos:Pos):Prop where
 base:attributeBase o m X.env (eval o X.env)=eval o X.env
 few:((backTo cpos (starEach [e] X.env)).all (λx=>!x.1)&&(backToKw cpos (keywordEach [] X.env)).all (λx=>x.1.isSome)
  && decide (([e]:List Expr).length+([]:List Keyword).length+(if ([]:List Keyword).isEmpty then 0 else 1)<30))=true
 line:(apos.endLine==cpos.line)=true
 trees:backTo cpos (starEach [e] X.env)=[(false,eval e X.env)]
section
variable{X:Cx}{pins:List (Addr×Obj)}{σ:St}{H:Hp}{s:Shared}{a:Addr}{y d:V}{u r:Value}{o:Option V}{A:Around}{E:Value->Shared->Prop}
end
section
variable{X:Cx}{o e f:Expr}{apos cpos:Pos}{td ty tx:TE}
end
section
variable{X:Cx}{pins:List (Addr×Obj)}{σ:St}{H:Hp}{s:Shared}{a:Addr}{kvs:List (Key×V)}{A:Around}{E:Value->Shared->Prop}
end
section
variable{X:Cx}{pins:List (Addr×Obj)}{σ:St}{H:Hp}{s:Shared}{a:Addr}{y:V}{u:Value}{A:Around}{E:Value->Shared->Prop}
end
end L2
namespace DL
open PyProof.Rows L2
noncomputable def cN:D->Option Key
 | .int i=>some (.inl i)
 | .str x=>some (.inr x)
 | _=>none
theorem qJ(k:Key):cN (il k)=some k:=by cases k<;>rfl
theorem og{d:D}{k:Key}(h:cN d=some k):d=il k:=by
 cases d<;>cases h<;>rfl
noncomputable def fC(es:List (Key×D))(k:Key):Option D:=(es.find? λe=>decide (e.1=k)).map (·.2)
noncomputable def zv(es:List (Key×D))(k:Key)(d:D):List (Key×D) :=
 if (es.any λe=>decide (e.1=k))=true then es.map (λe=>if e.1=k then (e.1,d) else e) else es++[(k,d)]
noncomputable def bT:D->D->Option D
 | .dict X,y=>match cN y with
  | some k=>(X.find? λe=>decide (cN e.1=some k)).map (·.2)
  | none=>none
 | _,_=>none
section
variable{K:ε}{O:List Addr}{H:Hp}
theorem mH:∀{kvs:List (Key×V)} {es:List (Key×D)} {k:Key} {d:D},kvs.map (·.1)=es.map (·.1)->Reps K O H (kvs.map (·.2)) (es.map (·.2))->fC es k=some d->∃v,iZ kvs k=some v/\Rep K O H v d
 | [],[],_,_,_,_,h=>by cases h
 | [],_::_,_,_,hk,_,_=>by cases hk
 | _::_,[],_,_,hk,_,_=>by cases hk
 | p::kvs,e::es,k,d,hk,r,h=>by
  simp only[Δ,List.cons.injEq] at hk
  cases r with
  | cons r1 rs =>
   by_cases c:e.1=k
   ·have h2:e.2=d:=by
     have:fC (e::es) k=some e.2:=by simp [fC,W5,c]
     simp_all
    rw[<-h2]
    exact⟨p.2,mI (by simp_all),r1⟩
   ·have:fC (e::es) k=fC es k:=by simp [fC,W5,c]
    rw[this] at h
    obtain⟨v,h1,h2⟩:=mH hk.2 rs h
    exact⟨v,by rw[kB (by simp_all)];exact h1,h2⟩
theorem rH{α β:Type}:∀{l:List (Key×α)} {m:List (Key×β)} (k:Key),l.map (·.1)=m.map (·.1)->(l.any λe=>decide (e.1=k))=m.any λe=>decide (e.1=k)
 | [],[],_,_=>rfl
 | [],_::_,_,h=>by cases h
 | _::_,[],_,h=>by cases h
 | p::l,q::m,k,h=>by
  simp only[Δ,List.cons.injEq] at h
  rw[List.any_cons,List.any_cons,h.1,rH k h.2]
theorem Dp{kvs:List (Key×V)}{es:List (Key×D)}{k:Key}{v:V}{d:D}(hk:kvs.map (·.1)=es.map (·.1))(r:Reps K O H (kvs.map (·.2)) (es.map (·.2)))(rv:Rep K O H v d) :
  (ig kvs k v).map (·.1)=(zv es k d).map (·.1)/\Reps K O H ((ig kvs k v).map (·.2)) ((zv es k d).map (·.2)):=by
 unfold ig zv
 rw[rH k hk]
 by_cases c:(es.any λe=>decide (e.1=k))=true
 ·rw[if_pos c,if_pos c]
  clear c
  induction kvs generalizing es with
  | nil =>
   simp_all
  | cons p kvs ih =>
   cases es with
   | nil=>cases hk
   | cons e es =>
    simp only[Δ,List.cons.injEq] at hk
    cases r with
    | cons r1 rs =>
     obtain⟨i1,i2⟩:=ih hk.2 rs
     simp only[Δ]
     by_cases c:e.1=k
     ·have c':p.1=k:=by simp_all
      rw[if_pos c,if_pos c']
      exact⟨by simp_all,.cons rv i2⟩
     ·have c':¬p.1=k:=by simp_all
      rw[if_neg c,if_neg c']
      exact⟨by simp_all,.cons r1 i2⟩
 ·rw[if_neg c,if_neg c]
  refine⟨by simp_all,?_⟩
  rw[Z3,Z3]
  exact r.append (.cons rv .nil)
theorem Cc{v y:V}{x yd d:D}(hx:Rep K O H v x)(hy:Rep K O H y yd)(h:bT x yd=some d):∃a w,v=.ref a/\xV H a y (some w)/\Rep K O H w d:=by
 match x,hx,h with
 | .dict X,hx,h =>
  have hi:mY (.dict X)=true:=by
   match X,h with
   | [],_=>rfl
   | [(.none,z)],h =>
    have h:(match cN yd with | some k=>(([((PyData.none,z):D×D)].find? λe=>decide (cN e.1=some k)).map (·.2)) | none=>none)=some d:=h
    cases hk:cN yd with
    | none=>simp_all
    | some k=>rw[hk] at h;cases h
   | [(.int _,_)],_=>rfl
   | [(.bool _,_)],_=>rfl
   | [(.str _,_)],_=>rfl
   | [(.list _,_)],_=>rfl
   | [(.tuple _,_)],_=>rfl
   | [(.dict _,_)],_=>rfl
   | _::_::_,_=>simp [mY]
  obtain⟨a,kvs,es,rfl,rfl,hr,hn,hk,r⟩:=hx.dct_inv hi
  have h:(match cN yd with | some k=>((es.map λe=>(il e.1,e.2)).find? λe=>decide (cN e.1=some k)).map (·.2) | none=>none)=some d:=h
  cases hkk:cN yd with
  | none=>simp_all
  | some k =>
   rw[hkk] at h
   have h:((es.map λe=>(il e.1,e.2)).find? λe=>decide (cN e.1=some k)).map (·.2)=some d:=h
   have hv:fC es k=some d:=by
    rw[<-h]
    rw[List.find?_map]
    simp only[Option.map_map]
    have:((λe:D×D=>decide (cN e.1=some k))∘λe:Key×D=>(il e.1,e.2))=λe:Key×D=>decide (e.1=k):=by
     funext e
     show decide (cN (il e.1)=some k)=_
     rw[qJ]
     simp
    rw[this]
    rfl
   obtain⟨w,h1,h2⟩:=mH hk r hv
   have ey:y=kV k:=by
    rw[og hkk] at hy
    cases k with
    | inl i=>exact hy.int_inv
    | inr s=>exact hy.str_inv
   exact⟨a,w,rfl,.inl ⟨kvs,k,hr,ey,h1.symm⟩,h2⟩
end
section
variable{X:Cx}{G:XD->Hp->Prop}{a b o i e:Expr}{f g:DS->M D}{pos pos' lp:Pos}
theorem cp(hu:X.A.units+1<cLine)(ho:PD X G o f)(hi:PD X G i g)(hs:CQ i):PD X G (.Subscript o i pos) (d2 bT f g):=by
 obtain⟨ta,pa,ha⟩:=ho
 obtain⟨tb,pb,hb⟩:=hi
 refine⟨_,DC hu pa pb hs,λδ O σ H Q E k=>?_⟩
 refine ha δ O σ H _ E (au (ay k) λx z v H1 s1 rx=>?_)
 refine hb δ O σ H1 _ (E.same s1) (au (ay z) λy z2 u H2 s2 ry=>?_)
 obtain⟨d,hd,z3⟩:=cq z2
 obtain⟨a,w,rfl,h1,h2⟩:=Cc (rx.same s2) ry hd
 exact⟨a,w,rfl,h1,z3 w H2 (s1.trans s2) h2⟩
end
section
variable{K:ε}{Hr:Hp}{R0:List Addr}{P0:Addr->Prop}{H0 H H':Hp}{O:List Addr}{σ:St}{δ:DS}
theorem Mu.dct{H:Hp}{l:Addr}{xs:List (Key×V)}(h:H l=Option.some (HO.dK xs)):Mu H l:=.inr (.inl ⟨xs,h⟩)
theorem Ev.ownD{l:Addr}(E:Ev K Hr O H σ δ)(hl:H l=none):Ev K Hr (l::O) (upd H l (HO.dK [])) σ δ:=by
 refine⟨λb o h=>by have q:=E.root b o h;rw[upd_ne (bp q hl)];exact q,λa ha=>?_,E.len,λj s h=>?_,E.dis⟩
 ·rcases Θ.mp ha with rfl | ha
  ·exact .dct aN
  ·exact(E.oo a ha).new hl
 ·exact(E.at_ j s h).to (To.own hl) (B6 hl) λa xs h1 h2 _ _=>⟨χ _ h1,by rw[upd_ne (bp h2 hl)];exact h2⟩
end
section
variable{X:Cx}{G:XD->Hp->Prop}{a b o ix e:Expr}{f g:DS->M D}{pos pos' lp tpos:Pos}
end
end DL
namespace DL
open PyProof.Rows L2
section
variable{X:Cx}{G:XD->Hp->Prop}{a b c o i e:Expr}{f g:DS->M D}{fb:DS->M Bool}{fn:DS->M (List D)}{gs gt:DS->M Out}{st1 sts:List Stmt}{pos pos' lp:Pos}
noncomputable def dNF(fn:DS->M (List D)):DS->M D:=λδ=>(fn δ).thn λds=>if bj ds=true then M.ret (.list ds) else none
theorem mU(h:PDN X G e fn):PDF X G e (dNF fn):=by
 obtain⟨t,p,h⟩:=h
 refine⟨t,p,λδ O σ H Q E k=>h δ O σ H Q E (au (ay k) λds z l xs H1 s1 hl rx=>?_)⟩
 by_cases hf:bj ds=true
 ·rw[if_pos hf] at z
  obtain⟨ds',e1,_,k'⟩:=(show oS X.K H Q (.list ds) from z)
  cases e1
  refine k' l xs _ (s1.trans (bu hl)) ?_ aN ((rx.same (bu hl)).flat hf)
  cases q:H l with
  | none=>rfl
  | some o=>rw[s1 _ _ q] at hl;cases hl
 ·rw[if_neg hf] at z
  exact z.elim
theorem v8{δ:DS}{ds:List D}(h:fn δ=M.ret ds)(hf:bj ds=true):dNF fn δ=M.ret (.list ds):=by unfold dNF;rw[h,aQ,if_pos hf]
noncomputable def Cf(fb:DS->M Bool)(gs gt:DS->M Out):DS->M Out:=λδ=>(fb δ).thn λb=>if b=true then gs δ else gt δ
theorem yo(hc:PDT X G c fb)(h1:nG X G st1 gs)(h2:nG X G sts gt):nG X G (.If c st1 [] pos::sts) (Cf fb gs gt):=by
 obtain⟨t,p,hc⟩:=hc
 obtain⟨u,q,h1⟩:=h1
 obtain⟨w,r,h2⟩:=h2
 refine⟨_,mS (AX p q tK) r,λR0 H0 δ O σ H Dn E k=>?_⟩
 refine hc δ O σ H _ E.ev (au (ay k) λd z H1 s1=>?_)
 cases d with
 | true =>
  refine h1 R0 H0 δ O σ H1 _ (E.same s1) (au z λo z=>?_)
  assumption
 | false =>
  exact h2 R0 H0 δ O σ H1 Dn (E.same s1) z
theorem ul{δ:DS}{b:Bool}{r:M Out}(h1:fb δ=M.ret b)(h2:(if b=true then gs δ else gt δ)=r):Cf fb gs gt δ=r:=by unfold Cf;rw[h1];exact h2
noncomputable def nj(i:Nat)(fn:DS->M (List D)):DS->M Out:=λδ=>match δ[i]? with
 | some (.ow ds)=>(fn δ).thn λes=>if bi (ds.length+es.length) then M.ret (.nx (δ.set i (.ow (ds++es)))) else none
 | _=>none
theorem qr{i:Nat}{x:Str}{xp apos cpos:Pos}(hv:PE X (.Name x xp) (uT i))(he:PDN X G e fn)
  (hst:starEach [e] X.env=(false,eval e X.env)::starEach [] X.env:=by rfl)
  (hbase:attributeBase (.Name x xp) "extend" X.env (eval (.Name x xp) X.env)=eval (.Name x xp) X.env:=by rfl)
  (hfew:((backTo cpos (starEach [e] X.env)).all (λx=>!x.1)&&(backToKw cpos (keywordEach [] X.env)).all (λx=>x.1.isSome)
   && decide ([e].length+([]:List Keyword).length+(if ([]:List Keyword).isEmpty then 0 else 1)<30))=true:=by rfl)
  (hline:(apos.endLine==cpos.line)=true:=by rfl) (hplain:(backTo cpos (starEach [] X.env)).any (·.1)=false:=by rfl)
  (hs:swapsWith (.Call (.Attribute (.Name x xp) "extend" apos) [e] [] cpos) none pos.line X.env=pure false:=by rfl) :
  PDS X G (.Expr (.Call (.Attribute (.Name x xp) "extend" apos) [e] [] cpos) pos) (nj i fn):=by
 obtain⟨t,p,he⟩:=he
 refine⟨_,tL (vA PySem.F.plainAttrs_list PySem.F.slot_list_extend PySem.F.type_list_extend zL hv (gZ p kK hst) hbase hfew hline hst hplain) hs,λR0 P0 H0 δ O σ H Dn E k=>?_⟩
 unfold nj at k
 split at k
 ·rename_i ds hd
  obtain⟨l,xs,q1,q2,q3,q4⟩:=E.ev.at_ i _ hd
  refine⟨.ref l,q1,.inl ⟨rfl,xs,.inl (.inl q3)⟩,?_⟩
  refine he δ O σ H _ E.ev (au (ay k) λes z l2 ys H1 s1 hl2 ry=>?_)
  have s2:aM H1 (upd H1 l2 (.lst ys)):=bu hl2
  by_cases hz:bi (ds.length+es.length)=true
  ·rw[if_pos hz] at z
   have h3:= s2 _ _ (s1 _ _ q3)
   refine⟨l,l2,xs,ys,rfl,rfl,h3,aN,by rw[q4.length,ry.length];exact bQ hz,?_⟩
   exact z O σ _ (((E.same s1).same s2).put hd q1 h3 (((q4.same s1).same s2).append (ry.same s2)))
  ·rw[if_neg hz] at z
   exact z.elim
 ·exact k.elim
theorem qV{i:Nat}{δ:DS}{ds es:List D}(h:δ[i]?=some (.ow ds))(h1:fn δ=M.ret es)(hz:bi (ds.length+es.length)=true):nj i fn δ=M.ret (.nx (δ.set i (.ow (ds++es)))):=by
 unfold nj;rw[h];dsimp only;rw[h1,aQ,if_pos hz]
end
noncomputable def jR(es more:List (Key×D)):List (Key×D):=more.foldl (λacc e=>zv acc e.1 e.2) es
theorem sq{K:ε}{O:List Addr}{H:Hp}:∀{more:List (Key×V)} {moreD:List (Key×D)} {kvs:List (Key×V)} {es:List (Key×D)},more.map (·.1)=moreD.map (·.1)->Reps K O H (more.map (·.2)) (moreD.map (·.2))->kvs.map (·.1)=es.map (·.1)->Reps K O H (kvs.map (·.2)) (es.map (·.2)) ->
  (jd kvs more).map (·.1)=(jR es moreD).map (·.1)/\Reps K O H ((jd kvs more).map (·.2)) ((jR es moreD).map (·.2))
 | [],[],_,_,_,_,hk,r=>⟨hk,r⟩
 | [],_::_,_,_,h,_,_,_=>by cases h
 | _::_,[],_,_,h,_,_,_=>by cases h
 | p::more,q::moreD,kvs,es,h,rm,hk,r=>by
  simp only[Δ,List.cons.injEq] at h
  rw[Δ,Δ] at rm
  cases rm with
  | cons r1 rs =>
   obtain⟨i1,i2⟩:=Dp (k:=q.1) hk r r1
   have:=sq h.2 rs i1 i2
   show(jd (ig kvs p.1 p.2) more).map (·.1)=(jR (zv es q.1 q.2) moreD).map (·.1)/\Reps K O H ((jd (ig kvs p.1 p.2) more).map (·.2)) ((jR (zv es q.1 q.2) moreD).map (·.2))
   simp_all
section
variable{X:Cx}{G:XD->Hp->Prop}{k v:Expr}{ks:List (Option Expr)}{vs:List Expr}{f g:DS->M D}{fp:DS->M (List (Key×D))}{pos pos' lp:Pos}
def PDP(X:Cx)(G:XD->Hp->Prop)(pos:Pos)(ks:List (Option Expr))(vs:List Expr)(fp:DS->M (List (Key×D))):Prop :=
 ∃trs,PPs X pos ks vs trs/\∀{Hr:Hp} (δ:DS) (O:List Addr) (σ:St) (H:Hp) (Q:List (V×V)->Hp->Prop),Ev X.K Hr O H σ δ ->
  ok (GS G Hr) (fp δ) (λes=>∀(kvs:List (Key×V)) H1,aM H H1->kvs.map (·.1)=es.map (·.1)->Reps X.K O H1 (kvs.map (·.2)) (es.map (·.2))->Q (kvs.map λkv=>(kV kv.1,kv.2)) H1)->tj trs σ H Q
noncomputable def DN:DS->M (List (Key×D)):=λ_=>M.ret []
noncomputable def eO(f g:DS->M D)(fp:DS->M (List (Key×D))):DS->M (List (Key×D)):=λδ=>(f δ).thn λy=>(g δ).thn λd=>(fp δ).thn λes=>match cN y with
 | some k=>M.ret ((k,d)::es)
 | none=>none
theorem yq:PDP X G pos [] [] DN:=⟨[],Dw,λδ O σ H Q E k=>(qw k) [] H (aM.refl H) rfl .nil⟩
theorem cU(hk:PD X G k f)(hv:PD X G v g)(hr:PDP X G pos ks vs fp):PDP X G pos (some k::ks) (v::vs) (eO f g fp):=by
 obtain⟨tk,pk,hk⟩:=hk
 obtain⟨tv,pv,hv⟩:=hv
 obtain⟨trs,pr,hr⟩:=hr
 refine⟨_,A2 pk pv pr,λδ O σ H Q E q=>?_⟩
 refine hk δ O σ H _ E (au (ay q) λy z u H1 s1 ry=>?_)
 refine hv δ O σ H1 _ (E.same s1) (au (ay z) λd z2 w H2 s2 rd=>?_)
 refine hr δ O σ H2 _ ((E.same s1).same s2) (au (ay z2) λes z3 kvs H3 s3 hkk rs=>?_)
 cases hy:cN y with
 | none=>rw[hy] at z3;exact z3.elim
 | some kk =>
  rw[hy] at z3
  have ey:u=kV kk:=by
   rw[og hy] at ry
   cases kk with
   | inl i=>exact ry.int_inv
   | inr s=>exact ry.str_inv
  rw[ey]
  exact(qw z3) ((kk,w)::kvs) H3 ((s1.trans s2).trans s3) (by simp_all) (.cons (rd.same s3) rs)
end
structure FunD(K:ε)(x qual:Str)(st:Stmt)(f:Addr)(fd:FuncData)(dV:Value):Prop where
 ex:∃(oc:Value) (od:Option Addr) (kV doc pm:Value) (an:Option Addr) (cdv ct:Value) (osl:Array (Option Value)),
  fd=ψ x qual (aE st) (ax st) (aj st) dV kV doc pm an cdv ct/\K.lookup f=some ⟨oc,od,.func fd,osl⟩/\ς K cdv qual=true
 kp:ξ K (.ref f)=true
section
variable{P:Program}{w:World}{K:ε}{mg:Str->Option Value}{base:Heap}
theorem FunD.ok{x qual:Str}{st:Stmt}{f:Addr}{fd:FuncData}{dV:Value}{N ps:List Str}{k:Nat}{sp:Sp}(F:FunD K x qual st f fd dV)(S:FnScope N ps (aj st))(len:∀vs H Q E,sp vs H Q E->vs.length=ps.length)
  (hbody:∀(cdv:Value) (A:Around) (outer:List Env) (s:Shared) (H:Hp) (vs:List V) (Q:VK) (E:XK),Room k (A.deeper (envOfC qual (aj st) s.heap.objs.size f cdv))->sp vs H Q E ->
   ∃t,PSs (mE CX0 P w K mg base N qual (aj st) f cdv A outer s H E).nox (ax st) t/\t { nx:=λ_ H'=>Q .non H',rt:=Q } (start N vs) H):FnOk P w K mg base CX0 (k+1) f fd ps sp:=by
 obtain⟨oc,od,kV,doc,pm,an,cdv,ct,osl,rfl,lk,hcd⟩:=F.ex
 refine fn_of lk hcd S len λA outer s H vs Q E hr hsp=>?_
 obtain⟨t,h,q⟩:=hbody cdv A outer s H vs Q E hr hsp
 exact⟨t,h.nox,q⟩
theorem FunD.bindsT{x qual:Str}{st:Stmt}{f T:Addr}{fd:FuncData}{ps:List Str}{o:Obj}{items:Array Value}{n:Nat}(F:FunD K x qual st f fd (.ref T))(hT:K.lookup T=some o)(hs:o.data=.seq items n)
  (h:∀(kV doc pm:Value) (an:Option Addr) (cdv ct:Value) (us:List Value),us.length=ps.length->∃k,bindArgs (ψ x qual (aE st) (ax st) (aj st) (.ref T) kV doc pm an cdv ct) ⟨us,[]⟩=seqItems? (.ref T) >>= k/\k (some items)=pure (ps.zip us)):eR K fd ps []:=by
 obtain⟨oc,od,kV,doc,pm,an,cdv,ct,osl,rfl,lk,hcd⟩:=F.ex
 intro s us hK hl
 rw[Z7] at hl ⊢
 obtain⟨k,h1,h2⟩:=h kV doc pm an cdv ct us hl
 exact BindsTo.of_defaults rfl (hK _ _ hT) hs h1 h2
theorem Ex{x qual:Str}{st:Stmt}{f:Addr}{oc:Value}{od an:Option Addr}{osl:Array (Option Value)}{dV kV doc pm cdv ct:Value}(l:K.lookup f=some ⟨oc,od,.func (ψ x qual (aE st) (ax st) (aj st) dV kV doc pm an cdv ct),osl⟩)
  (c:ς K cdv qual=true) (k:ξ K (.ref f)=true):FunD K x qual st f (ψ x qual (aE st) (ax st) (aj st) dV kV doc pm an cdv ct) dV:=⟨⟨oc,od,kV,doc,pm,an,cdv,ct,osl,rfl,l,c⟩,k⟩
theorem yI{x qual:Str}{st:Stmt}{f:Addr}{fd:FuncData}{dV:Value}{N ps:List Str}{k:Nat}{g:DS->M Out}(F0:FunD K x qual st f fd dV)(S:FnScope N ps (aj st))
  (hbody:∀(cdv:Value) (A:Around) (outer:List Env) (s:Shared) (H:Hp) (E:XK),Room k (A.deeper (envOfC qual (aj st) s.heap.objs.size f cdv)) ->
   nH (mE CX0 P w K mg base N qual (aj st) f cdv A outer s H E).nox (λ_ _=>False) (ax st) g):FnOk P w K mg base CX0 (k+1) f fd ps (spD K ps.length (run N.length g)):=by
 refine F0.ok S (λvs H Q E h=>?_) (λcdv A outer s H vs Q E hr h=>?_)
 ·obtain⟨O,ds,hl,_⟩:=h
  exact hl
 ·obtain⟨O,ds,hl,oo,r,q⟩:=h
  obtain⟨t,p,hB⟩:=hbody cdv A outer s H E hr
  refine⟨t,p,hB O (λ_=>False) H (e9 N.length ds) O (L2.start N vs) H _ ⟨qU N oo r,λl hl=>.inl hl,λb o _ h=>h,λl hl=>.inl hl,λi es l h1 ho h2=>?_,λl hl=>hl⟩ (au (mV (ay q)) λo z=>?_)⟩
  ·exact(pR h1 ho).elim
  ·cases o with
   | rt d=>exact λv H' kp r=>z v H' (λb o h=>kp b o (λw=>w) h) r
   | nx δ=>exact λO' σ' H' E'=>z .non H' (λb o h=>E'.keep b o (λw=>w) h) .non
   | bk δ=>exact z.elim
   | ct δ=>exact z.elim
end
end DL
namespace DL
open PyProof.Rows L2
structure DefZ(P:Program)(w:World)(K:ε)(mg:Str->Option Value)(base:Heap)(k:Nat)(x:Str)(n:Nat)(z:Int)(F:List D->M D):Prop where
 ex:∃(f:Addr) (fd:FuncData) (ps:List Str) (t:Tok),FnOk P w K mg base CX0 k f fd ps (spD K (n+1) F)/\mg x=some (.ref f)/\ξ K (.ref f)=true/\eR K fd ps [.int z t]
section
variable{X:Cx}{G:XD->Hp->Prop}{e:Expr}{es:List Expr}{fa:DS->M (List D)}{pos:Pos}
theorem Bk{k n:Nat}{z:Int}{x:Str}{p:Pos}{F:List D->M D}(h:DefZ X.prog X.w X.K X.mg X.base k x n z F)(hr:Room k X.A)(hg:Gl X x)(hn:(e::es).length=n)(ha:PDA X G (e::es) fa)
  (hdb:(x==("__debug__" : Str))=false:=by decide) (he:starEach (e::es) X.env=(false,eval e X.env)::starEach es X.env:=by rfl) (hpl:(backTo pos (starEach es X.env)).any (·.1)=false:=by rfl) :
  PD X G (.Call (.Name x p) (e::es) [] pos) (aH (λds=>noX (F (ds++[.int z]))) fa):=by
 obtain⟨f,fd,ps,t0,F1,hm,hk,hb⟩:=h.ex
 obtain⟨hl,t,pa,ha⟩:=ha
 refine⟨_,o8 (dvs:=[.int z]) F1 hr hg hm hk hb (.cons ⟨t0,rfl⟩ .nil) qu pa hdb he hpl,λδ O σ H Q E k=>?_⟩
 have k1:=ay k
 refine ha δ O σ H _ E ?_
 cases e1:fa δ with
 | none=>rw[e1] at k1;assumption
 | some r =>
  rw[e1] at k1
  cases r with
  | error x=>exact k1
  | ok ds =>
   refine λvs H1 s1 rs=>?_
   refine⟨O,ds++[.int z],?_,(E.same s1).oo,rs.append (.cons (.int z) .nil),au (nZ k1) λd z v H2 s2 r=>z v H2 (s1.trans s2) r⟩
   rw[ζ,rs.length,hl δ ds e1,hn]
   rfl
end
section
variable{P:Program}{w:World}{K:ε}{mg:Str->Option Value}{base:Heap}
theorem FunD.bindsZ{x qual:Str}{st:Stmt}{f T:Addr}{fd:FuncData}{ps:List Str}{o:Obj}{items:Array Value}{n:Nat}{d:Value}(F:FunD K x qual st f fd (.ref T))(hT:K.lookup T=some o)(hs:o.data=.seq items n)
  (h:∀(kV doc pm:Value) (an:Option Addr) (cdv ct:Value) (us:List Value),us.length+1=ps.length->∃k,bindArgs (ψ x qual (aE st) (ax st) (aj st) (.ref T) kV doc pm an cdv ct) ⟨us,[]⟩=seqItems? (.ref T) >>= k/\k (some items)=pure (ps.zip (us++[d]))):eR K fd ps [d]:=by
 obtain⟨oc,od,kV,doc,pm,an,cdv,ct,osl,rfl,lk,hcd⟩:=F.ex
 intro s us hK hl
 obtain⟨k,h1,h2⟩:=h kV doc pm an cdv ct us (by simp_all)
 exact BindsTo.of_defaults rfl (hK _ _ hT) hs h1 h2
theorem Cy{x qual:Str}{st:Stmt}{f:Addr}{fd:FuncData}{dV:Value}{N ps:List Str}{k m:Nat}{z:Int}{t:Tok}{g:DS->M Out}(F0:FunD K x qual st f fd dV)(S:FnScope N ps (aj st))(hm:mg x=some (.ref f))(hb:eR K fd ps [])(hz:eR K fd ps [.int z t])(hl:ps.length=m+1)
  (hbody:∀(cdv:Value) (A:Around) (outer:List Env) (s:Shared) (H:Hp) (E:XK),Room k (A.deeper (envOfC qual (aj st) s.heap.objs.size f cdv)) ->
   nH (mE CX0 P w K mg base N qual (aj st) f cdv A outer s H E).nox (λ_ _=>False) (ax st) g):Def P w K mg base (k+1) x ps.length (run N.length g)/\DefZ P w K mg base (k+1) x m z (run N.length g) :=
 ⟨⟨f,fd,ps,yI F0 S hbody,hm,F0.kp,hb⟩,⟨f,fd,ps,t,by have:=yI F0 S hbody;simp_all,hm,F0.kp,hz⟩⟩
end
end DL
namespace L2
open PyProof.Rows
section
variable{X:Cx}
end
section
variable{X:Cx}{tg:Expr}
end
end L2
namespace DL
open PyProof.Rows L2
section
variable{X:Cx}{G:XD->Hp->Prop}{tg a b c:Expr}{fa:DS->M (List D)}{p pos:Pos}{K:ε}{O:List Addr}{H1:Hp}
end
end DL
namespace SL
open PyProof.Rows L2 DL
inductive Val where
 | d (x:D)
 | h (k:Nat)
 | t (xs:List Val)
inductive Ob where
 | lst (xs:List Val)
 | dct (es:List (Key×Val))
 | ins (c:Str) (fs:List (Str×Val))
 | gone
abbrev aD:=List (Option Val)
abbrev Sto:=List Ob
abbrev R(β:Type):=Option (Except (XD×Sto) β)
section
variable{β γ:Type}
noncomputable def R.ret(b:β):R β:=some (.ok b)
noncomputable def R.thn(r:R β)(f:β->R γ):R γ:=match r with
 | none=>none
 | some (.ok a)=>f a
 | some (.error x)=>some (.error x)
def okR(G:XD->Sto->Prop)(r:R β)(k:β->Prop):Prop:=match r with
 | none=>False
 | some (.ok a)=>k a
 | some (.error x)=>G x.1 x.2
theorem aZ{G:XD->Sto->Prop}{r:R β}{k k':β->Prop}(h:okR G r k)(f:∀a,k a->k' a):okR G r k':=by
 match r,h with
 | some (.ok a),h=>exact f a h
 | some (.error x),h=>exact h
theorem cJ{G G':XD->Sto->Prop}{r:R β}{k:β->Prop}(h:okR G r k)(f:∀x μ,G x μ->G' x μ):okR G' r k:=by
 match r,h with
 | some (.ok a),h=>exact h
 | some (.error x),h=>exact f _ _ h
theorem bh{G:XD->Sto->Prop}{r:R β}{f:β->R γ}{k:γ->Prop}(h:okR G (r.thn f) k):okR G r (λa=>okR G (f a) k):=by
 match r,h with
 | some (.ok a),h=>exact h
 | some (.error x),h=>exact h
theorem ck(a:β)(f:β->R γ):(R.ret a).thn f=f a:=rfl
end
noncomputable def ofM{β:Type}(r:M β)(μ:Sto):R β:=match r with
 | none=>none
 | some (.ok a)=>some (.ok a)
 | some (.error x)=>some (.error (x,μ))
mutual
inductive VR(K:ε)(O:List Addr)(α:List (Option Addr))(H:Hp):V->Val->Prop
 | d {v:V} {x:D} (r:Rep K O H v x):VR K O α H v (.d x)
 | h {k:Nat} {a:Addr} (e:α[k]?=some (some a)):VR K O α H (.ref a) (.h k)
 | t {a:Addr} {vs:List V} {xs:List Val} (s:SqT K H a vs) (rs:VRs K O α H vs xs):VR K O α H (.ref a) (.t xs)
inductive VRs(K:ε)(O:List Addr)(α:List (Option Addr))(H:Hp):List V->List Val->Prop
 | nil:VRs K O α H [] []
 | cons {v:V} {x:Val} {vs:List V} {xs:List Val} (r:VR K O α H v x) (rs:VRs K O α H vs xs):VRs K O α H (v::vs) (x::xs)
end
theorem VR.dinv{K:ε}{O:List Addr}{α:List (Option Addr)}{H:Hp}{v:V}{x:D}(r:VR K O α H v (.d x)):Rep K O H v x:=by cases r;omega
theorem VR.hinv{K:ε}{O:List Addr}{α:List (Option Addr)}{H:Hp}{v:V}{k:Nat}(r:VR K O α H v (.h k)):∃a,α[k]?=some (some a)/\v=.ref a:=by
 cases r with
 | h e=>simp_all
theorem VR.tinv{K:ε}{O:List Addr}{α:List (Option Addr)}{H:Hp}{v:V}{xs:List Val}(r:VR K O α H v (.t xs)):∃a vs,v=.ref a/\SqT K H a vs/\VRs K O α H vs xs:=by
 cases r with
 | t s rs=>grind
def OR(K:ε)(mg:Str->Option Value)(R0 O:List Addr)(α:List (Option Addr))(H:Hp)(a:Addr):Ob->Prop
 | .lst xs=>a∈O/\a∉R0/\∃vs,H a=some (.lst vs)/\VRs K O α H vs xs
 | .dct es=>a∈O/\a∉R0/\∃kvs,H a=some (.dK kvs)/\kvs.map (·.1)=es.map (·.1)/\VRs K O α H (kvs.map (·.2)) (es.map (·.2))
 | .ins c fs=>a∈O/\a∉R0/\∃C dx vfs,ο K mainGlobals c=some (some (.ref C))/\H a=some (.ins C dx vfs)/\vfs.map (·.1)=fs.map (·.1)/\VRs K O α H (vfs.map (·.2)) (fs.map (·.2))
 | .gone=>False
structure SR(K:ε)(mg:Str->Option Value)(R0 O:List Addr)(α:List (Option Addr))(H:Hp)(μ:Sto):Prop where
 len:α.length=μ.length
 nd:∀(i j:Nat) (a:Addr),α[i]?=some (some a)->α[j]?=some (some a)->i=j
 oo:∀l∈O,Mu H l
 sub:∀l∈R0,l∈O
 at_:∀(k:Nat) (a:Addr),α[k]?=some (some a)->∃ob,μ[k]?=some ob/\OR K mg R0 O α H a ob
structure Go(O0:List Addr)(α0:List (Option Addr))(H0:Hp)(O:List Addr)(α:List (Option Addr))(H:Hp):Prop where
 keep:∀b o,(∀k:Nat,α0[k]? ≠ some (some b))->H0 b=some o->H b=some o
 ex:∀(k:Nat) (a:Addr),α0[k]?=some (some a)->α[k]?=some (some a)
 len:α0.length<=α.length
 new:∀(k:Nat) (b:Addr),α[k]?=some (some b)->(α0[k]?=some (some b))\/H0 b=none
 ol:∀l∈O,l∈O0\/H0 l=none
 live:∀b,H b=none->H0 b=none
section
variable{K:ε}{mg:Str->Option Value}{R0 O O' O1:List Addr}{α α' α1:List (Option Addr)}{H H' H1:Hp}{μ μ':Sto}
theorem Go.refl:Go O α H O α H:=⟨λ_ _ _ h=>h,λ_ _ h=>h,ρ _,λ_ _ h=>.inl h,λ_ h=>.inl h,λ_ h=>h⟩
theorem sn(s:aM H H'){b:Addr}(h:H' b=none):H b=none:=by
 cases q:H b with
 | none=>rfl
 | some o=>rw[s b o q] at h;cases h
theorem Go.same(s:aM H H'):Go O α H O α H':=⟨λb o _ h=>s b o h,λ_ _ h=>h,ρ _,λ_ _ h=>.inl h,λ_ h=>.inl h,λ_ h=>sn s h⟩
theorem SR.tracked(S:SR K mg R0 O α H μ){k:Nat}{a:Addr}(h:α[k]?=some (some a)):∃o,H a=some o/\(∀xs,o≠.tup xs)/\(∀u xs,o≠.frz u (.tup xs))/\(∀u xs,o≠.frz u (.lst xs))/\(∀u xs,o≠.frz u (.dK xs))/\(((∃xs,o=.lst xs)\/(∃xs,o=.dK xs)\/∃C dx fs,o=.ins C dx fs)->a∈O):=by
 obtain⟨ob,_,h⟩:=S.at_ k a h
 cases ob with
 | lst xs =>
  obtain⟨h1,_,vs,h2,_⟩:=h
  simp_all
 | dct es =>
  obtain⟨h1,_,vs,h2,_⟩:=h
  simp_all
 | ins c fs =>
  obtain⟨h1,_,C,dx,vfs,_,h2,_⟩:=h
  simp_all
 | gone=>exact h.elim
theorem Go.to(S:SR K mg R0 O α H μ)(T:Go O α H O' α' H'):To O O' H H':=by
 have tr:∀{b:Addr} {u:HO},(Rd H b u)->((∃xs,u=.tup xs)\/(((∃xs,u=.lst xs)\/(∃xs,u=.dK xs))/\b∉O))->∀k:Nat,α[k]? ≠ some (some b):=λ{b u} h hu k e=>by
  obtain⟨o,h1,h2,h3,h4,h5,h6⟩:=S.tracked e
  rcases h with h | ⟨w,h⟩
  all_goals grind
 have mv:∀{b:Addr} {u:HO},Rd H b u->(∀k:Nat,α[k]? ≠ some (some b))->Rd H' b u:=λ{b u} h n=>by
  rcases h with h | ⟨w,h⟩
  ·exact .inl (T.keep _ _ n h)
  ·exact .inr ⟨w,T.keep _ _ n h⟩
 have no:∀{b:Addr} {u:HO},Rd H b u->b∉O->b∉O':=λ{b u} h n z=>by
  rcases T.ol b z with z | z
  ·exact n z
  ·rcases h with h | ⟨w,h⟩<;>(rw[z] at h;cases h)
 refine⟨λb xs h=>mv h (tr h (.inl ⟨xs,rfl⟩)),λb xs n h=>⟨no h n,mv h (tr h (.inr ⟨.inl ⟨xs,rfl⟩,n⟩))⟩,λb xs n h=>⟨no h n,mv h (tr h (.inr ⟨.inr ⟨xs,rfl⟩,n⟩))⟩,λb C dx fs n h=>⟨no (.inl h) n,T.keep _ _ (λk e=>?_) h⟩⟩
 obtain⟨o,h1,_,_,_,_,h6⟩:=S.tracked e
 simp_all
theorem Go.trans(T:Go O α H O1 α1 H1)(U:Go O1 α1 H1 O' α' H'):Go O α H O' α' H':=by
 refine⟨λb o n h=>U.keep b o (λk e=>?_) (T.keep b o n h),λk a h=>U.ex k a (T.ex k a h),X5 T.len U.len,λk b h=>?_,λl hl=>?_,λb h=>T.live b (U.live b h)⟩
 ·rcases T.new k b e with z | z
  all_goals simp_all
 ·rcases U.new k b h with z | z
  ·exact T.new k b z
  ·exact .inr (T.live b z)
 ·rcases U.ol l hl with z | z
  ·exact T.ol l z
  ·exact .inr (T.live l z)
mutual
theorem VR.to(T:To O O' H H')(e:∀(k:Nat) (a:Addr),α[k]?=some (some a)->α'[k]?=some (some a)):∀{v:V} {x:Val},VR K O α H v x->VR K O' α' H' v x
 | _,_,.d r=>.d (Rep.to T r)
 | _,_,.h h=>.h (e _ _ h)
 | _,_,.t s rs=>.t (T.sqT s) (VRs.to T e rs)
theorem VRs.to(T:To O O' H H')(e:∀(k:Nat) (a:Addr),α[k]?=some (some a)->α'[k]?=some (some a)):∀{vs:List V} {xs:List Val},VRs K O α H vs xs->VRs K O' α' H' vs xs
 | _,_,.nil=>.nil
 | _,_,.cons r rs=>.cons (VR.to T e r) (VRs.to T e rs)
end
theorem VRs.length:∀{vs:List V} {xs:List Val},VRs K O α H vs xs->vs.length=xs.length
 | _,_,.nil=>rfl
 | _,_,.cons _ rs=>congrArg (· + 1) (VRs.length rs)
theorem VRs.get:∀{vs:List V} {xs:List Val} {i:Nat} {x:Val},VRs K O α H vs xs->xs[i]?=some x->∃v,vs[i]?=some v/\VR K O α H v x
 | _,_,_,_,.nil,e=>by simp at e
 | _,_,0,_,.cons r _,e=>by simp_all
 | _,_,i+1,x,.cons _ rs,e=>by
  obtain⟨u,h1,h2⟩:=VRs.get rs (by assumption)
  simp_all
theorem VRs.append:∀{vs us:List V} {xs ys:List Val},VRs K O α H vs xs->VRs K O α H us ys->VRs K O α H (vs++us) (xs++ys)
 | _,_,_,_,.nil,s=>s
 | _,_,_,_,.cons r t,s=>.cons r (VRs.append t s)
theorem VRs.data:∀{vs:List V} {ds:List D},Reps K O H vs ds->VRs K O α H vs (ds.map Val.d)
 | _,_,.nil=>.nil
 | _,_,.cons r rs=>.cons (.d r) (VRs.data rs)
theorem VRs.undata:∀{ds:List D} {vs:List V},VRs K O α H vs (ds.map Val.d)->Reps K O H vs ds
 | [],_,.nil=>.nil
 | _::_,_,.cons r rs=>.cons r.dinv (VRs.undata rs)
theorem OR.to(T:To O O' H H')(e:∀(k:Nat) (a:Addr),α[k]?=some (some a)->α'[k]?=some (some a)){a:Addr}{ob:Ob}(ho:a∈O->a∈O')(hh:H' a=H a)(r:OR K mg R0 O α H a ob):OR K mg R0 O' α' H' a ob:=by
 cases ob with
 | lst xs=>obtain⟨h1,h2,vs,h3,h4⟩:=r;exact⟨ho h1,h2,vs,by simp_all,h4.to T e⟩
 | dct es=>obtain⟨h1,h2,vs,h3,h4,h5⟩:=r;exact⟨ho h1,h2,vs,by simp_all,h4,h5.to T e⟩
 | ins c fs=>obtain⟨h0,hr,C,dx,vfs,h1,h3,h4,h5⟩:=r;exact⟨ho h0,hr,C,dx,vfs,h1,by simp_all,h4,h5.to T e⟩
 | gone=>exact r
theorem SR.same(s:aM H H')(S:SR K mg R0 O α H μ):SR K mg R0 O α H' μ:=by
 refine⟨S.len,S.nd,λl hl=>(S.oo l hl).same s,S.sub,λk a h=>?_⟩
 obtain⟨ob,h1,h2⟩:=S.at_ k a h
 obtain⟨o,h3,_⟩:=S.tracked h
 exact⟨ob,h1,h2.to (To.same s) (λ_ _ h=>h) (λh=>h) (by rw[h3];exact s a o h3)⟩
theorem SR.newL(S:SR K mg R0 O α H μ){l:Addr}{vs:List V}{xs:List Val}(hl:H l=none)(r:VRs K O α H vs xs):SR K mg R0 (l::O) (α++[some l]) (upd H l (.lst vs)) (μ++[.lst xs]):=by
 have T:To O (l::O) H (upd H l (.lst vs)):=To.own hl
 have e:∀(k:Nat) (a:Addr),α[k]?=some (some a)->(α++[some l])[k]?=some (some a):=λk a h=>by
  grind
 have cs:∀(k:Nat) (a:Addr),(α++[some l])[k]?=some (some a)->α[k]?=some (some a)\/(k=α.length/\a=l):=λk a h=>by
  grind
 have ne:∀(k:Nat) (a:Addr),α[k]?=some (some a)->a≠l:=λk a h z=>by
  obtain⟨o,h3,_⟩:=S.tracked h
  simp_all
 refine⟨by rw[ζ,ζ,S.len];rfl,λi j a h1 h2=>?_,λb hb=>?_,λb hb=>χ _ (S.sub b hb),λk a h=>?_⟩
 ·rcases cs i a h1 with h1 | ⟨h1,z⟩<;>rcases cs j a h2 with h2 | ⟨h2,z2⟩
  ·exact S.nd i j a h1 h2
  all_goals grind
 ·rcases Θ.mp hb with rfl | hb
  ·exact .inl ⟨vs,aN⟩
  ·exact(S.oo b hb).new hl
 ·rcases cs k a h with h | ⟨rfl,rfl⟩
  ·obtain⟨ob,h1,h2⟩:=S.at_ k a h
   exact⟨ob,by grind,h2.to T e (λz=>χ _ z) (upd_ne (ne k a h))⟩
  ·refine⟨.lst xs,by rw[S.len,Ψ (ρ _),V1];rfl,υ,λz=>?_,vs,aN,r.to T e⟩
   obtain⟨o,ho⟩:=(S.oo a (S.sub a z)).some
   simp_all
theorem Go.newL{l:Addr}{o:HO}(hl:H l=none):Go O α H (l::O) (α++[some l]) (upd H l o):=by
 refine⟨λb u _ h=>by rw[upd_ne (bp h hl)];exact h,λk a h=>by grind,by simp,λk b h=>?_,λb hb=>?_,λb h=>?_⟩
 ·grind
 ·grind
 ·by_cases e:b=l
  ·simp_all
  ·rw[upd_ne e] at h;exact h
theorem SR.setL(S:SR K mg R0 O α H μ){k:Nat}{a:Addr}{xs:List Val}{vs':List V}{xs':List Val}(h:α[k]?=some (some a))(hk:μ[k]?=some (.lst xs))(r:VRs K O α H vs' xs'):SR K mg R0 O α (upd H a (.lst vs')) (μ.set k (.lst xs')):=by
 obtain⟨ob,h1,h2⟩:=S.at_ k a h
 rw[hk] at h1
 cases h1
 obtain⟨ho,hn,vs,hv,_⟩:=h2
 have T:To O O H (upd H a (.lst vs')):=To.set hv ho
 refine⟨by rw[Y5];exact S.len,S.nd,λl hl=>?_,S.sub,λj b hj=>?_⟩
 ·by_cases e:l=a
  ·subst e;exact .inl ⟨vs',aN⟩
  ·exact(S.oo l hl).upd_ne e
 ·by_cases e:j=k
  ·subst e
   rw[h] at hj
   cases hj
   exact⟨.lst xs',by grind,ho,hn,vs',aN,r.to T λ_ _ h=>h⟩
  ·obtain⟨ob,g1,g2⟩:=S.at_ j b hj
   have hb:b≠a:=λz=>e (S.nd j k a (z▸hj) h)
   exact⟨ob,by grind,g2.to T (λ_ _ h=>h) (λz=>z) (upd_ne hb)⟩
theorem Go.setL{k:Nat}{a:Addr}{o:HO}(h:α[k]?=some (some a)):Go O α H O α (upd H a o):=by
 refine⟨λb u n hb=>?_,λ_ _ h=>h,ρ _,λ_ _ h=>.inl h,λ_ h=>.inl h,λb hb=>?_⟩
 ·rw[upd_ne (λz:b=a=>n k (by simp_all))];exact hb
 ·by_cases e:b=a
  ·subst e;rw[aN] at hb;cases hb
  ·rw[upd_ne e] at hb;exact hb
end
end SL
namespace SL
open PyProof.Rows L2 DL
structure An where
 R0:List Addr
 O:List Addr
 α:List (Option Addr)
 H:Hp
structure SEv(K:ε)(mg:Str->Option Value)(A:An)(O:List Addr)(α:List (Option Addr))(H:Hp)(σ:L2.St)(δ:aD)(μ:Sto):Prop where
 sr:SR K mg A.R0 O α H μ
 st:Go A.O A.α A.H O α H
 len:σ.length=δ.length
 at_:∀(i:Nat) (x:Val),δ[i]?=some (some x)->∃v,σ[i]?=some (some v)/\VR K O α H v x
def Er(K:ε)(mg:Str->Option Value)(G:XD->Hp->Prop)(R0 O:List Addr)(α:List (Option Addr))(H:Hp)(x:XD)(μ:Sto):Prop:=∀O' α' H',Go O α H O' α' H'->SR K mg R0 O' α' H' μ->G x H'
def SX(X:Cx)(G:XD->Hp->Prop)(e:Expr)(f:aD->Sto->R (Val×Sto)):Prop :=
 ∃t,PE X e t/\∀(A:An) (δ:aD) (μ:Sto) (O:List Addr) (α:List (Option Addr)) (σ:L2.St) (H:Hp) (Q:VK),SEv X.K X.mg A O α H σ δ μ->okR (Er X.K X.mg G A.R0 O α H) (f δ μ) (λr=>∀v O' α' H',Go O α H O' α' H'->SR X.K X.mg A.R0 O' α' H' r.2->VR X.K O' α' H' v r.1->Q v H')->t σ H Q
def SA(X:Cx)(G:XD->Hp->Prop)(es:List Expr)(f:aD->Sto->R (List Val×Sto)):Prop :=
 (∀δ μ r,f δ μ=some (.ok r)->r.1.length=es.length)/\∃t,PA X es t/\∀(A:An) (δ:aD) (μ:Sto) (O:List Addr) (α:List (Option Addr)) (σ:L2.St) (H:Hp) (Q:List V->Hp->Prop),SEv X.K X.mg A O α H σ δ μ->okR (Er X.K X.mg G A.R0 O α H) (f δ μ) (λr=>∀vs O' α' H',Go O α H O' α' H'->SR X.K X.mg A.R0 O' α' H' r.2->VRs X.K O' α' H' vs r.1->Q vs H')->t σ H Q
def ST(X:Cx)(G:XD->Hp->Prop)(e:Expr)(f:aD->Sto->R (Bool×Sto)):Prop :=
 ∃t,PT X e t/\∀(A:An) (δ:aD) (μ:Sto) (O:List Addr) (α:List (Option Addr)) (σ:L2.St) (H:Hp) (Q:Bool->Hp->Prop),SEv X.K X.mg A O α H σ δ μ->okR (Er X.K X.mg G A.R0 O α H) (f δ μ) (λr=>∀O' α' H',Go O α H O' α' H'->SR X.K X.mg A.R0 O' α' H' r.2->Q r.1 H')->t σ H Q
inductive OutS where
 | nx (δ:aD) (μ:Sto)
 | rt (v:Val) (μ:Sto)
 | bk (δ:aD) (μ:Sto)
 | ct (δ:aD) (μ:Sto)
def xT(K:ε)(mg:Str->Option Value)(A:An)(O0:List Addr)(α0:List (Option Addr))(H0:Hp)(Dn:Ends):OutS->Prop
 | .nx δ μ=>∀O α σ H,SEv K mg A O α H σ δ μ->Go O0 α0 H0 O α H->Dn.nx σ H
 | .rt x μ=>∀v O α H,SR K mg A.R0 O α H μ->Go A.O A.α A.H O α H->VR K O α H v x->Dn.rt v H
 | .bk δ μ=>∀O α σ H,SEv K mg A O α H σ δ μ->Go O0 α0 H0 O α H->Dn.bk σ H
 | .ct δ μ=>∀O α σ H,SEv K mg A O α H σ δ μ->Go O0 α0 H0 O α H->Dn.ct σ H
theorem xT.go{K:ε}{mg:Str->Option Value}{A:An}{O0 O1:List Addr}{α0 α1:List (Option Addr)}{H0 H1:Hp}{Dn:Ends}{o:OutS}(T:Go O0 α0 H0 O1 α1 H1)(h:xT K mg A O0 α0 H0 Dn o):xT K mg A O1 α1 H1 Dn o:=by
 cases o with
 | nx δ μ=>exact λO α σ H E U=>h O α σ H E (T.trans U)
 | rt x μ=>exact h
 | bk δ μ=>exact λO α σ H E U=>h O α σ H E (T.trans U)
 | ct δ μ=>exact λO α σ H E U=>h O α σ H E (T.trans U)
abbrev SG:=Nat->aD->Sto->R OutS
def SS(X:Cx)(G:XD->Hp->Prop)(st:Stmt)(g:SG):Prop :=
 ∃t,PS X st t/\∀(A:An) (δ:aD) (μ:Sto) (O:List Addr) (α:List (Option Addr)) (σ:L2.St) (H:Hp) (Dn:Ends),SEv X.K X.mg A O α H σ δ μ->okR (Er X.K X.mg G A.R0 A.O A.α A.H) (g A.α.length δ μ) (xT X.K X.mg A O α H Dn)->t Dn σ H
def SSs(X:Cx)(G:XD->Hp->Prop)(sts:List Stmt)(g:SG):Prop :=
 ∃t,PSs X sts t/\∀(A:An) (δ:aD) (μ:Sto) (O:List Addr) (α:List (Option Addr)) (σ:L2.St) (H:Hp) (Dn:Ends),SEv X.K X.mg A O α H σ δ μ->okR (Er X.K X.mg G A.R0 A.O A.α A.H) (g A.α.length δ μ) (xT X.K X.mg A O α H Dn)->t Dn σ H
section
variable{K:ε}{mg:Str->Option Value}{A:An}{R0 O O' O1:List Addr}{α α' α1:List (Option Addr)}{H H' H1:Hp}{μ μ':Sto}{σ:L2.St}{δ:aD}{G:XD->Hp->Prop}
theorem SEv.go(E:SEv K mg A O α H σ δ μ)(T:Go O α H O' α' H')(S:SR K mg A.R0 O' α' H' μ'):SEv K mg A O' α' H' σ δ μ' :=
 ⟨S,E.st.trans T,E.len,λi x h=>let ⟨v,h1,h2⟩:=E.at_ i x h;⟨v,h1,h2.to (T.to E.sr) T.ex⟩⟩
theorem SEv.same(E:SEv K mg A O α H σ δ μ)(s:aM H H'):SEv K mg A O α H' σ δ μ:=E.go (Go.same s) (E.sr.same s)
theorem SEv.set{i:Nat}{v:V}{x:Val}(E:SEv K mg A O α H σ δ μ)(r:VR K O α H v x):SEv K mg A O α H (σ.set i (some v)) (δ.set i (some x)) μ:=by
 refine⟨E.sr,E.st,by rw[Y5,Y5,E.len],λj y h=>?_⟩
 rw[bM] at h
 by_cases hij:i=j
 ·subst hij
  rw[if_pos rfl] at h
  split at h
  ·cases h
   rename_i hl
   exact⟨v,by rw[bM,if_pos rfl,if_pos (by rw[E.len];exact hl)],r⟩
  simp_all
 ·rw[if_neg hij] at h
  obtain⟨w,h1,h2⟩:=E.at_ j y h
  simp_all
theorem Er.go{x:XD}(T:Go O α H O' α' H')(h:Er K mg G R0 O α H x μ):Er K mg G R0 O' α' H' x μ:=λO2 α2 H2 U S=>h O2 α2 H2 (T.trans U) S
noncomputable def v0:Option Val->Sl
 | some (.d x)=>.vl x
 | _=>.un
noncomputable def view(δ:aD):DS:=δ.map v0
theorem uO{i:Nat}{s:Sl}(h:(view δ)[i]?=some s):(∃x,δ[i]?=some (some (.d x))/\s=.vl x)\/s=.un:=by
 unfold view at h
 rw[Z6] at h
 cases e:δ[i]? with
 | none=>simp_all
 | some o =>
  rw[e] at h
  cases o with
  | none=>cases h;exact .inr rfl
  | some x =>
   cases x with
   | d x=>cases h;exact .inl ⟨x,rfl,rfl⟩
   | h k=>cases h;exact .inr rfl
   | t xs=>cases h;exact .inr rfl
theorem SEv.view(E:SEv K mg A O α H σ δ μ):Ev K H O H σ (view δ):=by
 refine⟨aM.refl H,E.sr.oo,by unfold SL.view;rw[ι];exact E.len,λi s h=>?_,λi j l ds es hij h1=>?_⟩
 ·rcases uO h with ⟨x,h1,rfl⟩ | rfl
  ·obtain⟨v,g1,g2⟩:=E.at_ i _ h1
   exact⟨v,g1,g2.dinv⟩
  ·trivial
 ·rcases uO h1 with ⟨x,_,z⟩ | z<;>cases z
noncomputable def lg:List Val->Option (List D)
 | []=>some []
 | .d x::r=>(lg r).map (x :: ·)
 | _::_=>none
theorem oO:∀{xs:List Val} {ds:List D},lg xs=some ds->xs=ds.map Val.d
 | [],ds,h=>by cases h;rfl
 | .d x::r,ds,h=>by
  unfold lg at h
  cases e:lg r with
  | none=>simp_all
  | some q=>rw[e] at h;cases h;rw[oO e];rfl
noncomputable def lv1(n:Nat)(μ:Sto):Val->Option D
 | .d x=>some x
 | .h k=>if n<=k then (match μ[k]? with
  | some (.lst xs)=>(lg xs).map Z1
  | _=>none) else none
 | .t _=>none
noncomputable def rP(n:Nat)(μ:Sto):List Val->Option (List D)
 | []=>some []
 | x::xs=>match lv1 n μ x,rP n μ xs with
  | some d,some ds=>some (d::ds)
  | _,_=>none
noncomputable def lv2(n:Nat)(μ:Sto):Val->Option D
 | .d x=>some x
 | .h k=>if n<=k then (match μ[k]? with
  | some (.lst xs)=>(rP n μ xs).map Z1
  | _=>none) else none
 | .t xs=>(rP n μ xs).map W1
noncomputable def v1(n:Nat)(μ:Sto):Option Val->Sl
 | some x=>match lv2 n μ x with
  | some d=>.vl d
  | none=>.un
 | none=>.un
noncomputable def viewL(n:Nat)(μ:Sto)(δ:aD):DS:=δ.map (v1 n μ)
section
variable{n:Nat}
theorem Ee(S:SR K mg R0 O α H μ)(T:To O O' H H)(hn:∀(k:Nat) (a:Addr) (xs:List Val),α[k]?=some (some a)->n<=k->μ[k]?=some (.lst xs)->a∉O'){v:V}{x:Val}{d:D}(r:VR K O α H v x)(h:lv1 n μ x=some d):Rep K O' H v d:=by
 cases x with
 | d x=>cases h;exact Rep.to T r.dinv
 | t xs=>cases h
 | h k =>
  obtain⟨a,ha,rfl⟩:=r.hinv
  have h:(if n<=k then (match μ[k]? with | some (.lst xs)=>(lg xs).map Z1 | _=>none) else none)=some d:=h
  by_cases hk:n<=k
  ·rw[if_pos hk] at h
   obtain⟨ob,g1,g2⟩:=S.at_ k a ha
   rw[g1] at h
   cases ob with
   | lst xs =>
    have h:(lg xs).map Z1=some d:=h
    cases e:lg xs with
    | none=>simp_all
    | some ds =>
     rw[e] at h
     cases h
     obtain⟨_,_,vs,g5,g6⟩:=g2
     rw[oO e] at g6
     exact .lst (.inl g5) (hn k a xs ha hk g1) (g6.undata.to T)
   | dct es=>cases h
   | ins c fs=>cases h
   | gone=>cases h
  simp_all
theorem qD(S:SR K mg R0 O α H μ)(T:To O O' H H)(hn:∀(k:Nat) (a:Addr) (xs:List Val),α[k]?=some (some a)->n<=k->μ[k]?=some (.lst xs)->a∉O'):∀{xs:List Val} {vs:List V} {ds:List D},VRs K O α H vs xs->rP n μ xs=some ds->Reps K O' H vs ds
 | [],_,ds,.nil,h=>by cases h;exact .nil
 | x::xs,_,ds,.cons r rs,h=>by
  unfold rP at h
  split at h
  ·rename_i d ds' e1 e2
   cases h
   exact .cons (Ee S T hn r e1) (qD S T hn rs e2)
  simp_all
theorem mZ(S:SR K mg R0 O α H μ)(T:To O O' H H)(hn:∀(k:Nat) (a:Addr) (xs:List Val),α[k]?=some (some a)->n<=k->μ[k]?=some (.lst xs)->a∉O'){v:V}{x:Val}{d:D}(r:VR K O α H v x)(h:lv2 n μ x=some d):Rep K O' H v d:=by
 cases x with
 | d x=>cases h;exact Rep.to T r.dinv
 | t xs =>
  obtain⟨a,vs,rfl,hs,rs⟩:=r.tinv
  have h:(rP n μ xs).map W1=some d:=h
  cases e:rP n μ xs with
  | none=>simp_all
  | some ds =>
   rw[e] at h
   cases h
   exact .tup hs (qD S T hn rs e)
 | h k =>
  obtain⟨a,ha,rfl⟩:=r.hinv
  have h:(if n<=k then (match μ[k]? with | some (.lst xs)=>(rP n μ xs).map Z1 | _=>none) else none)=some d:=h
  by_cases hk:n<=k
  ·rw[if_pos hk] at h
   obtain⟨ob,g1,g2⟩:=S.at_ k a ha
   rw[g1] at h
   cases ob with
   | lst xs =>
    have h:(rP n μ xs).map Z1=some d:=h
    cases e:rP n μ xs with
    | none=>simp_all
    | some ds =>
     rw[e] at h
     cases h
     obtain⟨_,_,vs,g5,g6⟩:=g2
     exact .lst (.inl g5) (hn k a xs ha hk g1) (qD S T hn g6 e)
   | dct es=>cases h
   | ins c fs=>cases h
   | gone=>cases h
  simp_all
end
theorem rV{n i:Nat}{s:Sl}(h:(viewL n μ δ)[i]?=some s):(∃x d,δ[i]?=some (some x)/\lv2 n μ x=some d/\s=.vl d)\/s=.un:=by
 unfold viewL at h
 rw[Z6] at h
 cases e:δ[i]? with
 | none=>simp_all
 | some o =>
  rw[e] at h
  cases o with
  | none=>cases h;exact .inr rfl
  | some x =>
   have h:some (match lv2 n μ x with | some d=>Sl.vl d | none=>.un)=some s:=h
   grind
theorem SEv.viewL{n:Nat}(E:SEv K mg A O α H σ δ μ)(hs:∀l∈O',l∈O)(hn:∀(k:Nat) (a:Addr) (xs:List Val),α[k]?=some (some a)->n<=k->μ[k]?=some (.lst xs)->a∉O'):Ev K H O' H σ (SL.viewL n μ δ):=by
 have T:To O O' H H:=.less hs
 refine⟨aM.refl H,λl hl=>E.sr.oo l (hs l hl),by unfold SL.viewL;rw[ι];exact E.len,λi s h=>?_,λi j l ds es hij h1=>?_⟩
 ·rcases rV h with ⟨x,d,h1,h2,rfl⟩ | rfl
  ·obtain⟨v,g1,g2⟩:=E.at_ i _ h1
   exact⟨v,g1,mZ E.sr T hn g2 h2⟩
  ·trivial
 ·rcases rV h1 with ⟨x,d,_,_,z⟩ | z<;>cases z
end
section
variable{X:Cx}{G:XD->Hp->Prop}{a b c e:Expr}{es rest:List Expr}{pos pos':Pos}{st:Stmt}{sts sts':List Stmt}
noncomputable def bR(f:DS->M D):aD->Sto->R (Val×Sto):=λδ μ=>(ofM (f (view δ)) μ).thn λd=>R.ret (.d d,μ)
theorem kL{β:Type}{K:ε}{mg:Str->Option Value}{R0 O:List Addr}{α:List (Option Addr)}{H:Hp}{μ:Sto}{r:M β}{k:β->Prop}(S:SR K mg R0 O α H μ)(h:okR (Er K mg G R0 O α H) (ofM r μ) k):ok (GS G H) r k:=by
 match r,h with
 | some (.ok a),h=>exact h
 | some (.error x),h=>exact λH' s=>h O α H' (Go.same s) (S.same s)
theorem bn{f:DS->M D}(h:PD X G e f):SX X G e (bR f):=by
 obtain⟨t,p,h⟩:=h
 refine⟨t,p,λA δ μ O α σ H Q E k=>?_⟩
 refine h (view δ) O σ H Q E.view (au (kL E.sr (bh k)) λd z v H' s r=>z v O α H' (Go.same s) (E.sr.same s) (.d r))
end
end SL
namespace SL
open PyProof.Rows L2 DL
section
variable{X:Cx}{G:XD->Hp->Prop}{a b c e ix:Expr}{es rest:List Expr}{pos pos' tpos:Pos}{st:Stmt}{sts sts':List Stmt}
noncomputable def cO(i:Nat):aD->Sto->R (Val×Sto):=λδ μ=>match δ[i]? with
 | some (some x)=>R.ret (x,μ)
 | _=>none
theorem bA{i:Nat}(h:PE X e (uT i)):SX X G e (cO i):=by
 refine⟨_,h,λA δ μ O α σ H Q E k=>?_⟩
 unfold cO at k
 split at k
 ·rename_i x hx
  obtain⟨v,h1,h2⟩:=E.at_ i x hx
  exact⟨v,h1,k v O α H Go.refl E.sr h2⟩
 ·exact k.elim
noncomputable def jL:aD->Sto->R (List Val×Sto):=λ_ μ=>R.ret ([],μ)
noncomputable def eg(f:aD->Sto->R (Val×Sto))(fa:aD->Sto->R (List Val×Sto)):aD->Sto->R (List Val×Sto):=λδ μ=>(f δ μ).thn λr=>(fa δ r.2).thn λq=>R.ret (r.1::q.1,q.2)
theorem fY:SA X G [] jL:=by
 refine⟨λδ μ r h=>by cases h;rfl,_,kK,λA δ μ O α σ H Q E k=>k [] O α H Go.refl E.sr .nil⟩
theorem cI{f:aD->Sto->R (Val×Sto)}{fa:aD->Sto->R (List Val×Sto)}(ha:SX X G e f)(hr:SA X G es fa)(hs:starEach (e::es) X.env=(false,eval e X.env)::starEach es X.env:=by rfl):SA X G (e::es) (eg f fa):=by
 obtain⟨t,p,ha⟩:=ha
 obtain⟨hl,u,q,hr⟩:=hr
 refine⟨λδ μ r h=>?_,_,gZ p q hs,λA δ μ O α σ H Q E k=>?_⟩
 ·unfold eg at h
  cases e1:f δ μ with
  | none=>rw[e1] at h;cases h
  | some r1 =>
   rw[e1] at h
   cases r1 with
   | error x=>cases h
   | ok x =>
    have h:R.thn (fa δ x.2) _=_:=h
    cases e2:fa δ x.2 with
    | none=>rw[e2] at h;cases h
    | some r2 =>
     rw[e2] at h
     cases r2 with
     | error x=>cases h
     | ok xs =>
      cases h
      grind
 ·refine ha A δ μ O α σ H _ E (aZ (bh k) λr z v O1 α1 H1 T1 S1 r1=>?_)
  refine hr A δ r.2 O1 α1 σ H1 _ (E.go T1 S1) (aZ (cJ (bh z) λx μ h=>Er.go T1 h) λq y vs O2 α2 H2 T2 S2 rs=>?_)
  exact y (v::vs) O2 α2 H2 (T1.trans T2) S2 (.cons (r1.to (T2.to S1) T2.ex) rs)
noncomputable def eN(fb:DS->M Bool):aD->Sto->R (Bool×Sto):=λδ μ=>(ofM (fb (viewL 0 μ δ)) μ).thn λb=>R.ret (b,μ)
theorem cH{fb:DS->M Bool}(h:PDT X G e fb):ST X G e (eN fb):=by
 obtain⟨t,p,h⟩:=h
 refine⟨t,p,λA δ μ O α σ H Q E k=>?_⟩
 refine h (viewL 0 μ δ) A.R0 σ H Q (E.viewL E.sr.sub λk a xs ha _ hx=>?_) (au (kL E.sr (bh k)) λd z H' s=>z O α H' (Go.same s) (E.sr.same s))
 obtain⟨ob,h1,h2⟩:=E.sr.at_ k a ha
 rw[hx] at h1
 cases h1
 exact h2.2.1
noncomputable def gz:SG:=λ_ δ μ=>R.ret (.nx δ μ)
noncomputable def cA(g h:SG):SG:=λn δ μ=>(g n δ μ).thn λo=>match o with
 | .nx δ' μ'=>h n δ' μ'
 | o=>R.ret o
theorem dm:SSs X G [] gz:=⟨_,tK,λA δ μ O α σ H Dn E k=>k O α σ H E Go.refl⟩
theorem aR{g:SG}(h:SS X G st g):SSs X G [st] g:=by
 obtain⟨t,p,h⟩:=h
 exact⟨_,o7 p,h⟩
theorem aO{g h:SG}(h1:SS X G st g)(h2:SSs X G sts h):SSs X G (st::sts) (cA g h):=by
 obtain⟨t,p,h1⟩:=h1
 obtain⟨u,q,h2⟩:=h2
 refine⟨_,mS p q,λA δ μ O α σ H Dn E k=>?_⟩
 refine h1 A δ μ O α σ H _ E (aZ (bh k) λo z=>?_)
 cases o with
 | nx δ' μ'=>exact λO' α' σ' H' E' T=>h2 A δ' μ' O' α' σ' H' Dn E' (aZ z λo w=>w.go T)
 | rt v μ'=>exact z
 | bk δ' μ'=>exact z
 | ct δ' μ'=>exact z
noncomputable def sIf(c:aD->Sto->R (Bool×Sto))(g h:SG):SG:=λn δ μ=>(c δ μ).thn λr=>if r.1=true then g n δ r.2 else h n δ r.2
theorem dE{fc:aD->Sto->R (Bool×Sto)}{g h:SG}(hc:ST X G c fc)(h1:SSs X G sts g)(h2:SSs X G sts' h):SS X G (.If c sts sts' pos) (sIf fc g h):=by
 obtain⟨t,p,hc⟩:=hc
 obtain⟨u,q,h1⟩:=h1
 obtain⟨w,r,h2⟩:=h2
 refine⟨_,AX p q r,λA δ μ O α σ H Dn E k=>?_⟩
 refine hc A δ μ O α σ H _ E (aZ (cJ (bh k) λx μ h=>Er.go E.st h) λr z O1 α1 H1 T1 S1=>?_)
 cases hb:r.1 with
 | true =>
  rw[hb,if_pos rfl] at z
  exact h1 A δ r.2 O1 α1 σ H1 Dn (E.go T1 S1) (aZ z λo w=>w.go T1)
 | false =>
  rw[hb,if_neg Ξ] at z
  exact h2 A δ r.2 O1 α1 σ H1 Dn (E.go T1 S1) (aZ z λo w=>w.go T1)
noncomputable def ic(i:Nat)(f:aD->Sto->R (Val×Sto)):SG:=λ_ δ μ=>(f δ μ).thn λr=>R.ret (.nx (δ.set i (some r.1)) r.2)
theorem dq{i:Nat}{x:Str}{f:aD->Sto->R (Val×Sto)}(hN:X.N.Nodup)(hi:X.N[i]?=some x)(hx:Loc X.env.scope x)(he:SX X G e f)(hs:swapsWith e (some (.Name x pos')) pos.line X.env=pure false:=by rfl)(hf:X.fn x=true\/X.env.scope.names.lookup x=some .local:=by first | exact .inl rfl | exact .inr rfl | assumption) :
  SS X G (.Assign [.Name x pos'] e pos) (ic i f):=by
 obtain⟨t,p,he⟩:=he
 refine⟨_,wT hN hi hx p hs hf,λA δ μ O α σ H Dn E k=>?_⟩
 refine he A δ μ O α σ H _ E (aZ (cJ (bh k) λx μ h=>Er.go E.st h) λr z v O1 α1 H1 T1 S1 r1=>?_)
 exact z O1 α1 _ H1 ((E.go T1 S1).set r1) T1
noncomputable def mR(f:aD->Sto->R (Val×Sto)):SG:=λ_ δ μ=>(f δ μ).thn λr=>R.ret (.rt r.1 r.2)
theorem ib{f:aD->Sto->R (Val×Sto)}(he:SX X G e f):SS X G (.Return (some e) pos) (mR f):=by
 obtain⟨t,p,he⟩:=he
 refine⟨_,qi p,λA δ μ O α σ H Dn E k=>?_⟩
 exact he A δ μ O α σ H _ E (aZ (cJ (bh k) λx μ h=>Er.go E.st h) λr z v O1 α1 H1 T1 S1 r1=>z v O1 α1 H1 S1 (E.st.trans T1) r1)
mutual
noncomputable def yZ(n:Nat):Val->Bool
 | .d _=>true
 | .h k=>decide (k<n)
 | .t xs=>rA n xs
noncomputable def rA(n:Nat):List Val->Bool
 | []=>true
 | x::xs=>yZ n x&&rA n xs
end
section
variable{K:ε}{mg:Str->Option Value}{R0 O O':List Addr}{α α':List (Option Addr)}{H H':Hp}{μ:Sto}
mutual
theorem VR.cut{n:Nat}(T:To O O' H H'):∀{v:V} {x:Val},yZ n x=true->VR K O α H v x->VR K O' (α.take n) H' v x
 | _,_,_,.d r=>.d (Rep.to T r)
 | _,.h k,hc,.h e=>by
  have hk:k<n:=of_decide_eq_true hc
  exact .h (by rw[List.getElem?_take,if_pos hk];exact e)
 | _,.t xs,hc,.t s rs=>.t (T.sqT s) (VRs.cut T hc rs)
theorem VRs.cut{n:Nat}(T:To O O' H H'):∀{vs:List V} {xs:List Val},rA n xs=true->VRs K O α H vs xs->VRs K O' (α.take n) H' vs xs
 | _,_,_,.nil=>.nil
 | _,_::_,hc,.cons r rs=>.cons (VR.cut T (X4.mp hc).1 r) (VRs.cut T (X4.mp hc).2 rs)
end
end
noncomputable def lX(f:aD->Sto->R (Val×Sto)):SG:=λ_ δ μ=>(f δ μ).thn λr=>R.ret (.nx δ r.2)
theorem jG{f:aD->Sto->R (Val×Sto)}(he:SX X G e f)(hs:swapsWith e none pos.line X.env=pure false:=by rfl):SS X G (.Expr e pos) (lX f):=by
 obtain⟨t,p,he⟩:=he
 refine⟨_,tL p hs,λA δ μ O α σ H Dn E k=>?_⟩
 exact he A δ μ O α σ H _ E (aZ (cJ (bh k) λx μ h=>Er.go E.st h) λr z v O1 α1 H1 T1 S1 r1=>z O1 α1 σ H1 (E.go T1 S1) T1)
def SGT(X:Cx)(tg:Expr)(g:D->aD->Option aD):Prop :=
 ∃t,PG X tg t/\∀(A:An) (δ δ':aD) (d:D) (v:V) (O:List Addr) (α:List (Option Addr)) (σ:L2.St) (μ:Sto) (H:Hp) (Q:L2.St->Hp->Prop),SEv X.K X.mg A O α H σ δ μ->Rep X.K O H v d->g d δ=some δ'->(∀σ',SEv X.K X.mg A O α H σ' δ' μ->Q σ' H)->t v σ H Q
def EX(X:Cx)(ts:List Expr)(g:List D->aD->Option aD):Prop :=
 ∃t,PGs X ts t/\∀(A:An) (δ δ':aD) (ds:List D) (vs:List V) (O:List Addr) (α:List (Option Addr)) (σ:L2.St) (μ:Sto) (H:Hp) (Q:L2.St->Hp->Prop),SEv X.K X.mg A O α H σ δ μ->Reps X.K O H vs ds->g ds δ=some δ'->(∀σ',SEv X.K X.mg A O α H σ' δ' μ->Q σ' H)->t vs σ H Q
noncomputable def agN(i:Nat):D->aD->Option aD:=λd δ=>some (δ.set i (some (.d d)))
theorem tq{i:Nat}(h:PG X e (yH i)):SGT X e (agN i):=by
 refine⟨_,h,λA δ δ' d v O α σ μ H Q E r e k=>?_⟩
 cases e
 exact k _ (E.set (.d r))
noncomputable def agNil:List D->aD->Option aD:=λds δ=>match ds with
 | []=>some δ
 | _=>none
noncomputable def xP(t:D->aD->Option aD)(u:List D->aD->Option aD):List D->aD->Option aD:=λds δ=>match ds with
 | d::r=>(t d δ).bind (u r)
 | []=>none
theorem C8:EX X [] agNil:=by
 refine⟨_,yk,λA δ δ' ds vs O α σ μ H Q E r e k=>?_⟩
 cases ds with
 | nil=>cases r;cases e;exact⟨rfl,k σ E⟩
 | cons d ds=>cases e
theorem vc{t:D->aD->Option aD}{u:List D->aD->Option aD}(h1:SGT X e t)(h2:EX X es u)
  (hs:(assignEach (e::es) X.env).map (·.2)=assign e X.env::(assignEach es X.env).map (·.2):=by rfl):EX X (e::es) (xP t u):=by
 obtain⟨t1,p1,h1⟩:=h1
 obtain⟨t2,p2,h2⟩:=h2
 refine⟨_,vy p1 p2 hs,λA δ δ' ds vs O α σ μ H Q E r e k=>?_⟩
 cases ds with
 | nil=>cases e
 | cons d ds =>
  cases r with
  | @cons v _ vs _ r rs =>
   have e:(t d δ).bind (u ds)=some δ':=e
   cases e1:t d δ with
   | none=>simp_all
   | some δ1 =>
    rw[e1] at e
    refine⟨v,vs,rfl,h1 A δ δ1 d v O α σ μ H _ E r e1 λσ1 E1=>?_⟩
    grind
noncomputable def agTup(n:Nat)(u:List D->aD->Option aD):D->aD->Option aD:=λd δ=>match d with
 | .tuple ds=>if ds.length=n then u ds δ else none
 | _=>none
theorem sg_tup{k:Nat}{u:List D->aD->Option aD}{n:Nat}(hc:X.calm=true)(h:EX X es u)
  (hn:(assignEach es X.env).length=n:=by rfl) (hst:(assignEach es X.env).findIdx? (·.1)=none:=by rfl):SGT X (.Tuple es k pos) (agTup n u):=by
 obtain⟨t,p,h⟩:=h
 refine⟨_,A5 hc p hn hst,λA δ δ' d v O α σ μ H Q E r e k=>?_⟩
 cases d with
 | tuple ds =>
  have e:(if ds.length=n then u ds δ else none)=some δ':=e
  by_cases hl:ds.length=n
  ·rw[if_pos hl] at e
   obtain⟨a,xs,rfl,h1,rs⟩:=r.tup_inv
   exact⟨a,xs,rfl,h1,by rw[rs.length];exact hl,h A δ δ' ds xs O α σ μ H Q E rs e k⟩
  simp_all
 | _=>cases e
noncomputable def vW(t:D->aD->Option aD)(g:aD->Sto->R OutS):List D->aD->Sto->R OutS
 | [],δ,μ=>R.ret (.nx δ μ)
 | d::ds,δ,μ=>match t d δ with
  | none=>none
  | some δ1=>(g δ1 μ).thn λo=>match o with
   | .nx δ' μ'=>vW t g ds δ' μ'
   | .ct δ' μ'=>vW t g ds δ' μ'
   | .bk δ' μ'=>R.ret (.nx δ' μ')
   | .rt v μ'=>R.ret (.rt v μ')
noncomputable def Df(fi:DS->M (List D))(t:D->aD->Option aD)(g:SG):SG:=λn δ μ=>(ofM (fi (view δ)) μ).thn λds=>vW t (g n) ds δ μ
theorem ss_for{tg iter:Expr}{body:List Stmt}{t:D->aD->Option aD}{fi:DS->M (List D)}{g:SG}(hp:PassesOwn (model X.prog X.w) X.A X.env X.xe)(hc:X.calm=true)(hi:PDI X G tg iter fi)(hg:SGT X tg t)(hb:SSs X G body g)
  (hs:∀x,foldedSetIterable iter X.env x=pure x:=by intro _;rfl):SS X G (.For tg iter body [] pos) (Df fi t g):=by
 obtain⟨wi,pi,hi⟩:=hi
 obtain⟨tgt,pt,hg⟩:=hg
 obtain⟨tb,pb,hb⟩:=hb
 refine⟨_,AY hp hc pi pt pb hs,λA δ μ O α σ H Dn E k=>?_⟩
 refine hi (view δ) O σ H _ E.view (au (kL E.sr (cJ (bh k) λx μ h=>Er.go E.st h)) λds z J H1 s1 Y=>?_)
 have E1:=E.same s1
 refine⟨λi m σ2 H2=>m=ds.length-i/\i<=ds.length/\∃δ2 μ2 O2 α2,SEv X.K X.mg A O2 α2 H2 σ2 δ2 μ2/\Go O α H1 O2 α2 H2/\okR (Er X.K X.mg G A.R0 A.O A.α A.H) (vW t (g A.α.length) (ds.drop i) δ2 μ2) (xT X.K X.mg A O α H Dn),⟨_,rfl,X9 _,δ,μ,O,α,E1,Go.refl,z⟩,?_⟩
 rintro i m σ2 H2 ⟨rfl,hi,δ2,μ2,O2,α2,E2,T,k2⟩
 have TT:=T.to E1.sr
 by_cases hlt:i<ds.length
 ·right
  have hd:= Y1 hlt
  obtain⟨go,yl⟩:=Y.step O2 H2 TT i _ hd
  refine⟨go,λσ' H'=>∃δ2 μ2 O2 α2,SEv X.K X.mg A O2 α2 H' σ' δ2 μ2/\Go O α H1 O2 α2 H'/\okR (Er X.K X.mg G A.R0 A.O A.α A.H) (vW t (g A.α.length) (ds.drop (i+1)) δ2 μ2) (xT X.K X.mg A O α H Dn),λσ' H' h=>⟨_,by omega,rfl,hlt,h⟩,λx H3 y=>?_⟩
  obtain⟨s3,rx⟩:=yl x H3 y
  rw[rb hd] at k2
  have E3:=E2.same s3
  have T3:=T.trans (Go.same s3)
  unfold vW at k2
  cases h3:t ds[i] δ2 with
  | none=>rw[h3] at k2;exact k2.elim
  | some δ3 =>
   rw[h3] at k2
   refine hg A δ2 δ3 ds[i] x O2 α2 σ2 μ2 H3 _ E3 rx h3 λσ4 E4=>?_
   refine hb A δ3 μ2 O2 α2 σ4 H3 _ E4 (aZ (bh k2) λo z=>?_)
   cases o with
   | nx δ5 μ5=>exact λO5 α5 σ5 H5 E5 T5=>⟨δ5,μ5,O5,α5,E5,T3.trans T5,z⟩
   | ct δ5 μ5=>exact λO5 α5 σ5 H5 E5 T5=>⟨δ5,μ5,O5,α5,E5,T3.trans T5,z⟩
   | bk δ5 μ5=>exact λO5 α5 σ5 H5 E5 T5=>z O5 α5 σ5 H5 E5 ((Go.same s1).trans (T3.trans T5))
   | rt v μ5=>exact z
 ·left
  have e:i=ds.length:=by omega
  subst e
  rw[List.drop_length] at k2
  exact⟨Y.stop O2 H2 TT,k2 O2 α2 σ2 H2 E2 ((Go.same s1).trans T)⟩
end
end SL
namespace SL
open PyProof.Rows L2 DL
noncomputable def spS(K:ε)(mg:Str->Option Value)(n:Nat)(F:List Val->Sto->R (Val×Sto)):Sp:=λvs H Q _=>∃R0 O α μ xs,vs.length=n/\SR K mg R0 O α H μ/\VRs K O α H vs xs/\okR (λ_ _=>False) (F xs μ) (λr=>∀v O' α' H',Go O α H O' α' H'->SR K mg R0 O' α' H' r.2->VR K O' α' H' v r.1->Q v H')
structure DefS(P:Program)(w:World)(K:ε)(mg:Str->Option Value)(base:Heap)(k:Nat)(x:Str)(n:Nat)(F:List Val->Sto->R (Val×Sto)):Prop where
 ex:∃(f:Addr) (fd:FuncData) (ps:List Str),FnOk P w K mg base CX0 k f fd ps (spS K mg n F)/\mg x=some (.ref f)/\ξ K (.ref f)=true/\eR K fd ps []
noncomputable def zI{β:Type}(r:R β):R β:=match r with
 | some (.error _)=>none
 | r=>r
theorem tS{β:Type}{G:XD->Sto->Prop}{r:R β}{k:β->Prop}(h:okR G (zI r) k):okR (λ_ _=>False) r k:=by
 match r,h with
 | some (.ok a),h=>exact h
noncomputable def yh(F:List Val->Sto->R (Val×Sto))(fa:aD->Sto->R (List Val×Sto)):aD->Sto->R (Val×Sto):=λδ μ=>(fa δ μ).thn λr=>zI (F r.1 r.2)
section
variable{X:Cx}{G:XD->Hp->Prop}{e:Expr}{es:List Expr}{pos p:Pos}
theorem C3{k n:Nat}{x:Str}{F:List Val->Sto->R (Val×Sto)}{fa:aD->Sto->R (List Val×Sto)}(h:DefS X.prog X.w X.K X.mg X.base k x n F)(hr:Room k X.A)(hg:Gl X x)(hn:(e::es).length=n)(ha:SA X G (e::es) fa)
  (hdb:(x==("__debug__" : Str))=false:=by decide) (he:starEach (e::es) X.env=(false,eval e X.env)::starEach es X.env:=by rfl) (hpl:(backTo pos (starEach es X.env)).any (·.1)=false:=by rfl) :
  SX X G (.Call (.Name x p) (e::es) [] pos) (yh F fa):=by
 obtain⟨f,fd,ps,F1,hm,hk,hb⟩:=h.ex
 obtain⟨hl,t,pa,ha⟩:=ha
 refine⟨_,o8 F1 hr hg hm hk hb .nil qu pa hdb he hpl,λA δ μ O α σ H Q E k=>?_⟩
 have k1:=bh k
 refine ha A δ μ O α σ H _ E ?_
 cases e1:fa δ μ with
 | none=>rw[e1] at k1;assumption
 | some r =>
  rw[e1] at k1
  cases r with
  | error x=>exact k1
  | ok r =>
   refine λvs O1 α1 H1 T1 S1 rs=>?_
   refine⟨A.R0,O1,α1,r.2,r.1,?_,S1,?_,aZ (tS k1) λq z v O2 α2 H2 T2 S2 rv=>z v O2 α2 H2 (T1.trans T2) S2 rv⟩
   ·rw[Z7,rs.length,hl δ μ r e1];exact hn
   simp_all
end
noncomputable def kC(n:Nat)(xs:List Val):aD:=xs.map some++X2 (n-xs.length) none
noncomputable def endS(o:OutS):R (Val×Sto):=match o with
 | .rt v μ=>R.ret (v,μ)
 | .nx _ μ=>R.ret (.d .none,μ)
 | _=>none
noncomputable def mh(n:Nat)(g:SG)(xs:List Val)(μ:Sto):R (Val×Sto):=(g μ.length (kC n xs) μ).thn endS
section
variable{P:Program}{w:World}{K:ε}{mg:Str->Option Value}{base:Heap}
theorem zY{R0 O:List Addr}{α:List (Option Addr)}{H:Hp}{μ:Sto}{vs:List V}{xs:List Val}(N:List Str)(S:SR K mg R0 O α H μ)(r:VRs K O α H vs xs):SEv K mg ⟨R0,O,α,H⟩ O α H (L2.start N vs) (kC N.length xs) μ:=by
 refine⟨S,Go.refl,?_,λi x h=>?_⟩
 ·unfold L2.start kC
  simp [r.length]
 ·unfold kC at h
  by_cases hi:i<xs.length
  ·rw[Z0 (by simp_all),Z6] at h
   cases e:xs[i]? with
   | none=>simp_all
   | some y =>
    rw[e] at h
    cases h
    obtain⟨v,hv,rv⟩:=r.get e
    refine⟨v,?_,rv⟩
    unfold L2.start
    grind
  grind
theorem jZ{x qual:Str}{st:Stmt}{f:Addr}{fd:FuncData}{N ps:List Str}{k:Nat}{g:SG}(F0:Fun K x qual st f fd)(S:FnScope N ps (aj st))
  (hbody:∀(cdv:Value) (A:Around) (outer:List PySem.Env) (s:Shared) (H:Hp) (E:XK),Room k (A.deeper (envOfC qual (aj st) s.heap.objs.size f cdv)) ->
   SSs (mE CX0 P w K mg base N qual (aj st) f cdv A outer s H E).nox (λ_ _=>False) (ax st) g):FnOk P w K mg base CX0 (k+1) f fd ps (spS K mg ps.length (mh N.length g)):=by
 refine F0.ok S (λvs H Q E h=>?_) (λcdv A outer s H vs Q E hr h=>?_)
 ·obtain⟨R0,O,α,μ,xs,hl,_⟩:=h
  exact hl
 ·obtain⟨R0,O,α,μ,xs,hl,S0,r,q⟩:=h
  obtain⟨t,p,hB⟩:=hbody cdv A outer s H E hr
  refine⟨t,p,hB ⟨R0,O,α,H⟩ (kC N.length xs) μ O α (L2.start N vs) H _ (zY N S0 r) ?_⟩
  have q1:=bh (show okR _ ((g μ.length (kC N.length xs) μ).thn endS) _ from q)
  rw[<-S0.len] at q1
  refine aZ (cJ q1 λx μ h=>h.elim) λo z=>?_
  cases o with
  | rt v μ'=>exact λu O' α' H' S' G' r'=>z u O' α' H' G' S' r'
  | nx δ μ'=>exact λO' α' σ' H' E' G'=>z .non O' α' H' G' E'.sr (.d .non)
  | bk δ μ'=>exact z.elim
  | ct δ μ'=>exact z.elim
theorem EL{x qual:Str}{st:Stmt}{f:Addr}{fd:FuncData}{N ps:List Str}{k:Nat}{g:SG}(F0:Fun K x qual st f fd)(S:FnScope N ps (aj st))(hm:mg x=some (.ref f))(hb:eR K fd ps [])
  (hbody:∀(cdv:Value) (A:Around) (outer:List PySem.Env) (s:Shared) (H:Hp) (E:XK),Room k (A.deeper (envOfC qual (aj st) s.heap.objs.size f cdv)) ->
   SSs (mE CX0 P w K mg base N qual (aj st) f cdv A outer s H E).nox (λ_ _=>False) (ax st) g):DefS P w K mg base (k+1) x ps.length (mh N.length g) :=
 ⟨f,fd,ps,jZ F0 S hbody,hm,F0.kp,hb⟩
noncomputable def asD(F:List Val->Sto->R (Val×Sto)):List D->M D:=λds=>match F (ds.map Val.d) [] with
 | some (.ok (.d x,_))=>M.ret x
 | _=>none
theorem fn_toD{k n:Nat}{f:Addr}{fd:FuncData}{ps:List Str}{F:List Val->Sto->R (Val×Sto)}(F1:FnOk P w K mg base CX0 k f fd ps (spS K mg n F)):FnOk P w K mg base CX0 k f fd ps (spD K n (asD F)):=by
 refine F1.imp λvs H Q E q=>?_
 obtain⟨O,ds,hl,oo,rs,q⟩:=q
 refine⟨O,O,[],[],ds.map Val.d,hl,⟨rfl,λi j a h=>(by simp at h),oo,λ_ h=>h,λk a h=>(by simp at h)⟩,VRs.data rs,?_⟩
 unfold asD at q
 match hF:F (ds.map Val.d) [],q with
 | some (.ok (.d x,μ')),q =>
  refine λv O' α' H' T S r=>q v H' (λb o h=>T.keep b o (λk=>by simp) h) ?_
  exact Rep.to (To.less S.sub) r.dinv
theorem DefS.toD{k n:Nat}{x:Str}{F:List Val->Sto->R (Val×Sto)}(h:DefS P w K mg base k x n F):Def P w K mg base k x n (asD F):=by
 obtain⟨f,fd,ps,F1,hm,hk,hb⟩:=h.ex
 refine⟨f,fd,ps,F1.imp λvs H Q E q=>?_,hm,hk,hb⟩
 obtain⟨O,ds,hl,oo,rs,q⟩:=q
 refine⟨O,O,[],[],ds.map Val.d,hl,⟨rfl,λi j a h=>(by simp at h),oo,λ_ h=>h,λk a h=>(by simp at h)⟩,VRs.data rs,?_⟩
 unfold asD at q
 match hF:F (ds.map Val.d) [],q with
 | some (.ok (.d x,μ')),q =>
  refine λv O' α' H' T S r=>q v H' (λb o h=>T.keep b o (λk=>by simp) h) ?_
  exact Rep.to (To.less S.sub) r.dinv
end
section
variable{δ δ':aD}{μ μ' μ1:Sto}{n:Nat}{f fi:aD->Sto->R (Val×Sto)}{fa:aD->Sto->R (List Val×Sto)}{fc:aD->Sto->R (Bool×Sto)}{g h:SG}{v:Val}{r:R OutS}
theorem bI{i:Nat}(h:δ[i]?=some (some v)):cO i δ μ=R.ret (v,μ):=by unfold cO;rw[h]
theorem aV{f:DS->M D}{d:D}(h:f (view δ)=M.ret d):bR f δ μ=R.ret (.d d,μ):=by unfold bR;rw[h];rfl
theorem gf:jL δ μ=R.ret ([],μ):=rfl
theorem dn{xs:List Val}(h1:f δ μ=R.ret (v,μ1))(h2:fa δ μ1=R.ret (xs,μ')):eg f fa δ μ=R.ret (v::xs,μ'):=by unfold eg;rw[h1];show R.thn (fa δ μ1) _=_;rw[h2];rfl
theorem EF{F:List Val->Sto->R (Val×Sto)}{xs:List Val}(h1:fa δ μ=R.ret (xs,μ1))(h2:F xs μ1=R.ret (v,μ')):yh F fa δ μ=R.ret (v,μ'):=by unfold yh;rw[h1];show zI (F xs μ1)=_;rw[h2];rfl
theorem aP(h1:g n δ μ=R.ret (.nx δ' μ'))(h2:h n δ' μ'=r):cA g h n δ μ=r:=by unfold cA;rw[h1];exact h2
theorem pF(h1:g n δ μ=R.ret (.rt v μ')):cA g h n δ μ=R.ret (.rt v μ'):=by unfold cA;rw[h1];rfl
theorem bJ{i:Nat}(h:f δ μ=R.ret (v,μ')):ic i f n δ μ=R.ret (.nx (δ.set i (some v)) μ'):=by unfold ic;rw[h];rfl
theorem kZ(h:f δ μ=R.ret (v,μ')):mR f n δ μ=R.ret (.rt v μ'):=by unfold mR;rw[h];rfl
theorem bY{b:Bool}(h1:fc δ μ=R.ret (b,μ1))(h2:(if b=true then g n δ μ1 else h n δ μ1)=r):sIf fc g h n δ μ=r:=by unfold sIf;rw[h1];exact h2
theorem dM{fb:DS->M Bool}{b:Bool}(h:fb (viewL 0 μ δ)=M.ret b):eN fb δ μ=R.ret (b,μ):=by unfold eN;rw[h];rfl
theorem es_for{fi:DS->M (List D)}{t:D->aD->Option aD}{ds:List D}(h1:fi (view δ)=M.ret ds)(h2:vW t (g n) ds δ μ=r):Df fi t g n δ μ=r:=by unfold Df;rw[h1];exact h2
theorem mw{k:Nat}{xs:List Val}(h:g μ.length (kC k xs) μ=R.ret (.rt v μ')):mh k g xs μ=R.ret (v,μ'):=by unfold mh;rw[h];rfl
end
end SL
namespace SL
open PyProof.Rows L2 DL
section
variable{K:ε}{mg:Str->Option Value}{R0 O O':List Addr}{α α':List (Option Addr)}{H H':Hp}{μ μ':Sto}
theorem SR.adopt(S:SR K mg R0 O α H μ){l:Addr}{vs:List V}{ds:List D}(s:aM H H')(hl:H l=none)(hx:H' l=some (.lst vs))(r:Reps K [] H' vs ds)(hf:bj ds=true):SR K mg R0 (l::O) (α++[some l]) H' (μ++[.lst (ds.map Val.d)]):=by
 have T1:To O O H H':=To.same s
 have ne:∀(k:Nat) (a:Addr),α[k]?=some (some a)->a≠l:=λk a h z=>by
  obtain⟨o,h3,_⟩:=S.tracked h
  rw[z,hl] at h3;cases h3
 have hlO:l∉O:=λz=>by
  obtain⟨o,ho⟩:=(S.oo l z).some
  rw[hl] at ho;cases ho
 have T:To O (l::O) H H':=by
  refine⟨λb xs h=>aM.rd s h,λb xs n h=>⟨λz=>?_,aM.rd s h⟩,λb xs n h=>⟨λz=>?_,aM.rd s h⟩,λb C dx fs n h=>⟨λz=>?_,s _ _ h⟩⟩
  ·rcases Θ.mp z with z | z
   ·exact Rd.ne_new h hl z
   ·exact n z
  ·rcases Θ.mp z with z | z
   ·exact Rd.ne_new h hl z
   ·exact n z
  ·rcases Θ.mp z with z | z
   ·exact bp h hl z
   ·exact n z
 have e:∀(k:Nat) (a:Addr),α[k]?=some (some a)->(α++[some l])[k]?=some (some a):=λk a h=>by
  rw[Z0 (ω.mp h).1];exact h
 have cs:∀(k:Nat) (a:Addr),(α++[some l])[k]?=some (some a)->α[k]?=some (some a)\/(k=α.length/\a=l):=λk a h=>by
  by_cases hk:k<α.length
  ·rw[Z0 hk] at h;exact .inl h
  ·rw[Ψ (by omega)] at h
   have h0:k-α.length=0:=by
    have:=(ω.mp h).1
    simp at this
    omega
   rw[h0] at h
   simp at h
   exact .inr ⟨by omega,h.symm⟩
 refine⟨by rw[ζ,ζ,S.len];rfl,λi j a h1 h2=>?_,λb hb=>?_,λb hb=>χ _ (S.sub b hb),λk a h=>?_⟩
 ·rcases cs i a h1 with h1 | ⟨h1,z⟩<;>rcases cs j a h2 with h2 | ⟨h2,z2⟩
  ·exact S.nd i j a h1 h2
  ·exact absurd z2 (ne i a h1)
  ·exact absurd z (ne j a h2)
  ·omega
 ·rcases Θ.mp hb with rfl | hb
  ·exact .inl ⟨vs,hx⟩
  ·exact(S.oo b hb).same s
 ·rcases cs k a h with h | ⟨rfl,rfl⟩
  ·obtain⟨ob,h1,h2⟩:=S.at_ k a h
   obtain⟨o,h3,_⟩:=S.tracked h
   exact⟨ob,by rw[Z0 (ω.mp h1).1];exact h1,h2.to T e (λz=>χ _ z) (by rw[h3];exact s a o h3)⟩
  ·refine⟨.lst (ds.map Val.d),by rw[S.len,Ψ (ρ _),V1];rfl,υ,λz=>?_,vs,hx,VRs.data (r.flat hf)⟩
   exact hlO (S.sub a z)
theorem Go.adopt{l:Addr}(s:aM H H')(hl:H l=none):Go O α H (l::O) (α++[some l]) H':=by
 refine⟨λb u _ h=>s b u h,λk a h=>by grind,by simp,λk b h=>?_,λb hb=>?_,λb h=>sn s h⟩
 all_goals grind
theorem SR.at_new(S:SR K mg R0 O α H μ){l:Addr}:(α++[some l])[μ.length]?=some (some l):=by
 rw[<-S.len,Ψ (ρ _),V1];rfl
end
section
variable{X:Cx}{G:XD->Hp->Prop}{a b c e ix o:Expr}{es:List Expr}{pos pos' tpos apos cpos:Pos}{f fi fo:aD->Sto->R (Val×Sto)}{fa:aD->Sto->R (List Val×Sto)}
noncomputable def sIx(fo fi:aD->Sto->R (Val×Sto)):aD->Sto->R (Val×Sto):=λδ μ=>(fo δ μ).thn λr=>(fi δ r.2).thn λq=>match q.1 with
 | .d (.int i)=>match r.1 with
  | .h k=>match q.2[k]? with
   | some (.lst xs)=>match L2.atI xs i with
    | some x=>R.ret (x,q.2)
    | none=>none
   | _=>none
  | .t xs=>match L2.atI xs i with
   | some x=>R.ret (x,q.2)
   | none=>none
  | .d (.tuple ds)=>match L2.atI ds i with
   | some d=>R.ret (.d d,q.2)
   | none=>none
  | .d (.list ds)=>match L2.atI ds i with
   | some d=>R.ret (.d d,q.2)
   | none=>none
  | _=>none
 | _=>none
noncomputable def Dg(fo f:aD->Sto->R (Val×Sto)):aD->Sto->R (Val×Sto):=λδ μ=>(fo δ μ).thn λr=>match r.1 with
 | .h k=>match r.2[k]? with
  | some (.lst _)=>(f δ r.2).thn λq=>match q.2[k]? with
   | some (.lst xs)=>if bi (xs.length+1)=true then R.ret (.d .none,q.2.set k (.lst (xs++[q.1]))) else none
   | _=>none
  | _=>none
 | _=>none
theorem sx_app(ho:SX X G o fo)(he:SX X G e f)
  (hst:starEach [e] X.env=(false,eval e X.env)::starEach [] X.env:=by rfl)
  (hbase:attributeBase o "append" X.env (eval o X.env)=eval o X.env:=by rfl)
  (hfew:((backTo cpos (starEach [e] X.env)).all (λx=>!x.1)&&(backToKw cpos (keywordEach [] X.env)).all (λx=>x.1.isSome)
   && decide ([e].length+([]:List Keyword).length+(if ([]:List Keyword).isEmpty then 0 else 1)<30))=true:=by rfl)
  (hline:(apos.endLine==cpos.line)=true:=by rfl) (hplain:(backTo cpos (starEach [] X.env)).any (·.1)=false:=by rfl) :
  SX X G (.Call (.Attribute o "append" apos) [e] [] cpos) (Dg fo f):=by
 obtain⟨t,p,ho⟩:=ho
 obtain⟨u,q,he⟩:=he
 refine⟨_,vA PySem.F.plainAttrs_list PySem.F.slot_list_append PySem.F.type_list_append n9 p (gZ q kK hst) hbase hfew hline hst hplain,λA δ μ O α σ H Q E k=>?_⟩
 refine ho A δ μ O α σ H _ E (aZ (bh k) λr z v O1 α1 H1 T1 S1 r1=>?_)
 obtain⟨p1,p2⟩:=r
 match p1,z,r1 with
 | .h k,z,r1 =>
  obtain⟨l,hl,rfl⟩:=r1.hinv
  obtain⟨ob,g1,g2⟩:=S1.at_ k l hl
  dsimp only at z
  rw[g1] at z
  match ob,z,g2 with
  | .lst xs0,z,g2 =>
  refine⟨.inl ⟨rfl,_,.inl (.inl g2.2.2.choose_spec.1)⟩,?_⟩
  refine he A δ p2 O1 α1 σ H1 _ (E.go T1 S1) (aZ (cJ (bh z) λx μ h=>Er.go T1 h) λq y w O2 α2 H2 T2 S2 r2=>?_)
  obtain⟨q1,q2⟩:=q
  have hl2:=T2.ex _ _ hl
  obtain⟨ob,g1,g2⟩:=S2.at_ k l hl2
  rw[g1] at y
  match ob,y,g2,g1 with
  | .lst xs,y,g2,g1 =>
   obtain⟨_,_,vs,g3,g4⟩:=g2
   dsimp only at y
   by_cases hz:bi (xs.length+1)=true
   ·rw[if_pos hz] at y
    exact⟨l,vs,w,rfl,rfl,g3,by rw[g4.length];exact vb hz,y .non O2 α2 _ (T1.trans (T2.trans (Go.setL hl2))) (S2.setL hl2 g1 (g4.append (.cons r2 .nil))) (.d .non)⟩
   ·rw[if_neg hz] at y;exact y.elim
end
end SL
namespace DL
open PyProof.Rows L2
section
variable{X:Cx}{G:XD->Hp->Prop}{pos:Pos}
end
end DL
namespace DL
open PyProof.Rows L2
variable{X:Cx}
section
variable{G:XD->Hp->Prop}{e:Expr}{es:List Expr}{fa:DS->M (List D)}{pos:Pos}
end
section
variable{P:Program}{w:World}{K:ε}{mg:Str->Option Value}{base:Heap}
end
end DL
namespace DL
open PyProof.Rows L2
variable{X:Cx}{G:XD->Hp->Prop}{e o:Expr}{es:List Expr}{f g:DS->M D}{fa:DS->M (List D)}{pos apos:Pos}
noncomputable def oR(nm:Str):D->Option (List (D))
 | .dict [(.none,.tuple (.str x::r))]=>if x=nm then some r else none
 | _=>none
noncomputable def yK(f:Str):List D->Option D
 | []=>none
 | .tuple [.str g,d]::r=>if g=f then some d else yK f r
 | _::_=>none
noncomputable def kM(nm f:Str)(x:D):Option D:=match oR nm x with
 | some r=>yK f r
 | none=>none
structure ClsN(X:Cx)(nm:Str)(C:Addr):Prop where
 at_:ο X.K mainGlobals nm=some (some (.ref C))
 cls:Cls X.K C
theorem sZ{K:ε}{O:List Addr}{H:Hp}{v:V}{nm:Str}{x:D}{r:List D}(rx:Rep K O H v x)(h:oR nm x=some r):∃(a C dx:Addr) (fs:List (Str×V)) (es:List (Str×D)),v=.ref a/\r=es.map (λe=>W1 [.str e.1,e.2])/\ο K mainGlobals nm=some (some (.ref C))/\H a=some (.ins C dx fs)/\a∉O/\fs.map (·.1)=es.map (·.1)/\Reps K O H (fs.map (·.2)) (es.map (·.2)):=by
 cases rx with
 | dct h1 n hk rr =>
  rename_i a kvs es
  cases es with
  | nil=>cases h
  | cons e es =>
   obtain⟨k,y⟩:=e
   cases es with
   | nil=>cases k<;>cases h
   | cons e2 es =>
    cases k<;>cases h
 | ins hN h1 n hk rr =>
  rename_i a C dx nm2 fs es
  have h':(if nm2=nm then some (es.map λe=>W1 [.str e.1,e.2]) else none)=some r:=h
  grind
 | _=>cases h
theorem yJ{K:ε}{O:List Addr}{H:Hp}{f:Str}{d:D}:∀{fs:List (Str×V)} {es:List (Str×D)},fs.map (·.1)=es.map (·.1)->Reps K O H (fs.map (·.2)) (es.map (·.2))->yK f (es.map λe=>W1 [.str e.1,e.2])=some d->∃v,fs.lookup f=some v/\Rep K O H v d
 | [],[],_,_,h=>by cases h
 | [],_::_,hk,_,_=>by cases hk
 | _::_,[],hk,_,_=>by cases hk
 | (g,v)::fs,(g2,y)::es,hk,r,h=>by
  simp only[Δ,List.cons.injEq] at hk
  obtain⟨rfl,hk⟩:=hk
  cases r with
  | cons r1 rs =>
   have h:(if g=f then some y else yK f (es.map λe=>W1 [.str e.1,e.2]))=some d:=h
   by_cases c:g=f
   ·simp_all
   ·rw[if_neg c] at h
    obtain⟨w,h1,h2⟩:=yJ hk rs h
    grind
theorem ja{nm fl:Str}{C:Addr}(c:ClsN X nm C)(n:j8 X.K C fl)(ho:PD X G o f)(hb:attributeBase o fl X.env (eval o X.env)=eval o X.env:=by rfl):PD X G (.Attribute o fl pos) (d1 (kM nm fl) f):=by
 obtain⟨t,p,h⟩:=ho
 refine⟨_,Bc p hb,λδ O σ H Q E k=>?_⟩
 refine h δ O σ H _ E (au (ay k) λx z v H1 s1 rx=>?_)
 obtain⟨d,hd,z⟩:=cq z
 unfold kM at hd
 cases ha:oR nm x with
 | none=>simp_all
 | some r =>
  rw[ha] at hd
  obtain⟨a,C',dx,fs,es,rfl,rfl,hN,h1,hn,hk,rr⟩:=sZ rx ha
  have:C'=C:=by
   have:=hN.symm.trans c.at_
   simp_all
  subst this
  obtain⟨w,l1,l2⟩:=yJ hk rr hd
  exact⟨a,C',dx,fs,w,rfl,h1,c.cls,n,l1,z w H1 s1 l2⟩
structure DefM(P:Program)(w:World)(K:ε)(mg:Str->Option Value)(base:Heap)(k:Nat)(nm m:Str)(n:Nat)(F:List D->M D):Prop where
 ex:∃(C f:Addr) (fd:FuncData) (ps:List Str),ο K mainGlobals nm=some (some (.ref C))/\Cls K C/\Meth K C m f/\FnOk P w K mg base CX0 k f fd ps (spD K n F)/\eR K fd ps []
noncomputable def qC(m:Str)(r:List D):Bool:=r.all λd=>match d with
 | .tuple [.str g,_]=>decide (g≠m)
 | _=>false
noncomputable def dMe(nm m:Str)(F:List D->M D)(fo:DS->M D)(fa:DS->M (List D)):DS->M D:=λδ=>(fo δ).thn λx=>match oR nm x with
 | some r=>if qC m r=true then (fa δ).thn λds=>F (x::ds) else none
 | none=>none
theorem qB{m:Str}:∀{fs:List (Str×V)} {es:List (Str×D)},fs.map (·.1)=es.map (·.1)->qC m (es.map λe=>W1 [.str e.1,e.2])=true->fs.lookup m=none
 | [],_,_,_=>rfl
 | _::_,[],hk,_=>by cases hk
 | (g,v)::fs,(g2,y)::es,hk,h=>by
  simp only[Δ,List.cons.injEq] at hk
  obtain⟨rfl,hk⟩:=hk
  unfold qC at h
  rw[Δ,List.all_cons,Y0] at h
  have c:= of_decide_eq_true h.1
  have hb:= beq_eq_false_iff_ne.mpr (Ne.symm c)
  simp only[X7,hb]
  exact qB hk h.2
theorem jq{pl:Sem Bool}{k n:Nat}{nm m:Str}{F:List D->M D}(h:DefM X.prog X.w X.K X.mg X.base k nm m n F)(hr:Room k X.A)(hn:(e::es).length+1=n)(ho:PD X G o f)(ha:PDA X G (e::es) fa)
  (hst:starEach (e::es) X.env=(false,eval e X.env)::starEach es X.env:=by rfl) (hpl:(backTo pos (starEach es X.env)).any (·.1)=false:=by rfl)
  (ht:eval (.Call (.Attribute o m apos) (e::es) [] pos) X.env=(do
   let ov <- eval o X.env
   standAt apos.atName
   let (f,first) <- holding [ov] (getMethod ov m pl)
   callWith pos f first (backTo pos (starEach (e::es) X.env)) (backToKw pos (keywordEach [] X.env))):=by rfl) :
  PD X G (.Call (.Attribute o m apos) (e::es) [] pos) (dMe nm m (λds=>noX (F ds)) f fa):=by
 obtain⟨C,f0,fd,ps,hN,c,hm,F1,hb⟩:=h.ex
 obtain⟨t,p,ho⟩:=ho
 obtain⟨hl,ta,pa,ha⟩:=ha
 refine⟨_,ym p c hm F1 hr hb .nil qu pa hst hpl ht,λδ O σ H Q E k=>?_⟩
 refine ho δ O σ H _ E (au (ay k) λx z v H1 s1 rx=>?_)
 cases hat:oR nm x with
 | none=>rw[hat] at z;exact z.elim
 | some r =>
  rw[hat] at z
  have z1:ok _ (if qC m r=true then (fa δ).thn λds=>noX (F (x::ds)) else none) _:=z
  by_cases hf:qC m r=true
  ·rw[if_pos hf] at z1
   obtain⟨a,C',dx,fs,es',rfl,rfl,hN',h1,hn1,hk,rr⟩:=sZ rx hat
   have hC:C'=C:=by
    simp_all
   subst hC
   refine⟨a,dx,fs,rfl,h1,qB hk hf,?_⟩
   have k1:=ay z1
   refine ha δ O σ H1 _ (E.same s1) ?_
   cases e1:fa δ with
   | none=>rw[e1] at k1;assumption
   | some q =>
    rw[e1] at k1
    cases q with
    | error y=>exact k1
    | ok ds =>
     refine λvs H2 s2 rs=>?_
     refine⟨O,x::ds,?_,((E.same s1).same s2).oo,?_,au (nZ k1) λd z v H3 s3 r=>z v H3 (s1.trans (s2.trans s3)) r⟩
     ·show(vs++[]).length+1=n
      rw[Z7,rs.length,hl δ ds e1]
      exact hn
     ·rw[Z7]
      exact .cons (rx.same s2) rs
  ·rw[if_neg hf] at z1;exact z1.elim
theorem Cj{nm m:Str}{F:List D->M D}{δ:DS}{x d:D}{r ds:List D}(h1:f δ=M.ret x)(h2:oR nm x=some r)(h3:qC m r=true)(h4:fa δ=M.ret ds)(h5:F (x::ds)=M.ret d):dMe nm m (λds=>noX (F ds)) f fa δ=M.ret d:=by
 unfold dMe
 rw[h1,aQ,h2]
 show(if qC m r=true then (fa δ).thn λds=>noX (F (x::ds)) else none)=_
 rw[if_pos h3,h4,aQ,h5]
 rfl
end DL
namespace OI
open PyProof.Rows
theorem DT:builtinKind "object.__init__" = some .slot:=by decide +kernel
theorem Bp:splitId "object.__init__" = some ("object", "__init__"):=by rfl
theorem oi_q(x:Value):(Code.builtin "object.__init__" ⟨[x],[]⟩).quiet=true:=Code.quiet_builtin _ (by simp)
theorem DU{prog:Program}{w:World}{A:Around}{x:Value}{Q:PySem.Fin->Shared->Prop}{E:Value->Shared->Prop}{s:Shared}(q:Q (.done (.ret .none)) s):wpAny (model prog w) A (Builtin.«object.__init__» ⟨[x],[]⟩) Q E s:=by
 exact wpAny_pure q
theorem oi_chk{prog:Program}{w:World}{A:Around}{E:Value->Shared->Prop}{s:Shared}{x:Value}{Q:Unit->Shared->Prop}(hi:PySem.W.Looks (model prog w) s.heap (isInstance x (.type "object")) true)(q:Q () s):wpAny (model prog w) A (checkBuiltinCall "object.__init__" ⟨[x],[]⟩) Q E s :=
 PySem.W.check_slot (M:=model prog w) (A:=A) (E:=E) (s:=s) (i := "object.__init__") (owner := "object") (n := "__init__") (self:=x) (rest:=[]) (kw:=[]) (Q:=Q) DT Bp hi (PySem.F.args_object_init_1 x) q
theorem oi_run{prog:Program}{w:World}{A:Around}{R:Result->Shared->Prop}{s:Shared}{x:Value}(hi:PySem.W.Looks (model prog w) s.heap (isInstance x (.type "object")) true)(q:R (.ok (.ret .none)) s):codeAny (model prog w) A (.call (.builtin "object.__init__") ⟨[x],[]⟩) R s:=by
 refine codeAny_call_builtin_at (oi_q x) PySem.F.entry_object_init ?_
 refine oi_chk hi ?_
 refine DU ?_
 exact q
end OI
namespace DL
open PyProof.Rows L2
theorem DV(self:Value):bindSpecial (.builtin "object.__init__") self=pure (.builtin "object.__init__",[self]):=by
 have hop:withoutEnding? "object.__init__" "#opaque" = none:=by rfl
 have hdat:withoutEnding? "object.__init__" "#data" = none:=by rfl
 rfl
structure Mk0(K:ε)(C:Addr):Prop where
 makes:W8 K C=true
 init:Λ K (.ref C) "__init__" = some (some (.builtin "object.__init__"))
 sub:PySem.W.subIn K (.ref C) (.type "object")=some true
 kp:ξ K (.ref C)=true
section
variable{X:Cx}{G:XD->Hp->Prop}{C f:Addr}{x nm fl:Str}{p pos:Pos}{e:Expr}{es:List Expr}{g:DS->M D}
noncomputable def tMk0(C:Addr):TE:=λσ H Q=>∀x dx,H x=none->H dx=none->dx≠x->Q (.ref x) (upd (upd H dx (.own x)) x (.ins C dx []))
theorem pe_mk0(M:Mk0 X.K C)(hg:Gl X x)(hm:X.mg x=some (.ref C))(hdb:(x==("__debug__" : Str))=false:=by decide):PE X (.Call (.Name x p) [] [] pos) (tMk0 C):=by
 intro pins s σ H Q I h
 refine wpAny_Call_Name_kw (pz I hg hm ?_ hdb)
 refine PySem.W.callWith_K0 I.kIn M.kp ?_
 have hq:=h (s.heap.objs.size+1) s.heap.objs.size (I.hok.fresh (U4 _)) (I.hok.fresh (ρ _)) (Y4 (Nat.lt_succ_self _))
 have I2:=Inv.made (C:=C) I
 refine wpAny_call (zM I.kIn M.makes M.init (λself=>PySem.W.Looks.of_pure (DV self)) (OI.oi_run ?_ ⟨rfl,⟨V.ref (s.heap.objs.size+1),_,I2,rfl,hq⟩⟩))
 have hx:((s.heap.push X3).push (X6 C s.heap.objs.size)).get? (s.heap.objs.size+1)=some (X6 C s.heap.objs.size):=by
  have:=Heap.get?_push_size (s.heap.push X3) (o:=X6 C s.heap.objs.size) rfl
  simp_all
 have t1:PySem.W.Looks (model X.prog X.w) ((s.heap.push X3).push (X6 C s.heap.objs.size)) (typeOf (.ref (s.heap.objs.size+1))) (.ref C):=(PySem.W.Looks.ld hx).andThen .now
 exact t1.andThen (PySem.W.looks_subIn I2.kIn M.sub)
theorem Dj{K:ε}{O:List Addr}{H:Hp}{C a dx:Addr}{nm:Str}{fs:List (Str×V)}{es:List (Str×D)}(oo:∀l∈O,Mu H l)(hN:ο K mainGlobals nm=some (some (.ref C)))(ha:H a=none)(hd:H dx=none)(hne:dx≠a)(hk:fs.map (·.1)=es.map (·.1))(r:Reps K O H (fs.map (·.2)) (es.map (·.2))):aM H (upd (upd H dx (.own a)) a (.ins C dx fs))/\Rep K O (upd (upd H dx (.own a)) a (.ins C dx fs)) (.ref a) (gP nm es):=by
 have s:aM H (upd (upd H dx (.own a)) a (.ins C dx fs)):=(bu hd).trans (bu (by rw[upd_ne (Ne.symm hne)];exact ha))
 exact⟨s,.ins hN aN (nin oo ha) hk (r.same s)⟩
theorem pd_mk0(M:Mk0 X.K C)(hN:ο X.K mainGlobals x=some (some (.ref C)))(hg:Gl X x)(hm:X.mg x=some (.ref C))(hdb:(x==("__debug__" : Str))=false:=by decide):PD X G (.Call (.Name x p) [] [] pos) (dC (gP x [])):=by
 refine⟨_,pe_mk0 M hg hm hdb,λδ O σ H Q E k=>?_⟩
 intro a dx ha hd hne
 obtain⟨s,r⟩:=Dj (fs:=[]) (es:=[]) E.oo hN ha hd hne rfl .nil
 exact k _ _ s r
end
section
variable{P:Program}{w:World}{K:ε}{mg:Str->Option Value}{base:Heap}
end
end DL
namespace L2
open PyProof.Rows
section
open AutoSeq1 (wpAny_loadPart')
abbrev En(l:Addr):Obj:={ cls:=.type "list_iterator",data:=.fields #[.ref l,.int 0 0] }
abbrev enOf(a:Addr):Obj:={ cls:=.type "enumerate",data:=.fields #[.none,.bool false,.ref a,rawInt 1,.none,.none] }
theorem zZ(l:Addr)(its:Array Value)(n:Nat)(dc:Option Addr)(sl:Array (Option Value))(t:Tok) :
  Meets (Builtin.«enumerate.__new__» ⟨[.type "enumerate",.ref l],[(Str.ofString "start",.int 1 t)]⟩) (λ_ R s=>s.heap.get? l=some { cls:=.type "list",dict:=dc,data:=.seq its n,slots:=sl } /\
   R (.ok (.ret (.ref (s.heap.push (En l)).objs.size))) { s with heap:=(s.heap.push (En l)).push (enOf s.heap.objs.size) }):=by
 refine Meets.of_wp λprog w A R st0 h=>?_
 obtain⟨hp,g,d,tk,os⟩:=st0
 obtain⟨hl,h⟩:=h
 have hsub:=sub_enumerate
 have hL:Heap.IsList (Shared.heap ⟨hp,g,d,tk,os⟩) l its:=⟨_,hl,rfl,n,rfl⟩
 wp_walk using wpAny_loadPart' hl
 refine wpAny_stack_any λstk=>wpAny_pure ?_
 split
 ·rename_i c _ _ _ _ _
  cases (c==Value.type "enumerate")<;>(wp_walk using wpAny_pyIter_list hL,wpAny_loadPart' hl)<;>exact⟨_,rfl,h⟩
 ·wp_walk using wpAny_pyIter_list hL,wpAny_loadPart' hl
  exact⟨_,rfl,h⟩
end
section
variable{prog:Program}{w:World}{A:Around}{E:Value->Shared->Prop}{s:Shared}
theorem oi_kw{T newId:String}{self:Value}{rest:List Value}{kw:List (Str×Value)}(hl:typeLookup (.type T) "__init__" = pure (some (.builtin "object.__init__")))
  (hm:Bind.madeBy (.type T)=pure (some newId)) (hne:(some newId != some "object.__new__")=true) (hk:kw≠[]) :
  Meets (Builtin.«object.__init__» ⟨self::rest,kw⟩) (λ_ R s=>s.TypeIs self T/\R (.ok (.ret .none)) s):=by
 refine Meets.of_wp λprog w A R s ⟨hT,hq⟩=>?_
 cases kw with
 | nil=>simp_all
 | cons a kw =>
  cases rest with
  | nil =>
   repeat (any_goals (first | assumption | wp_step))
   simp_all
  | cons b rest =>
   repeat (any_goals (first | assumption | wp_step))
   simp_all
theorem Am{T newId:String}{Bn:Builtin}{args:List Value}{kw:List (Str×Value)}{S:PySem.Spec}{Q:Value->Shared->Prop}(ft:TypeCalled T newId "object.__init__")(hk:kw≠[])
  (hne:(some newId != some "object.__new__")=true) (hct:checkTypeCall T ⟨args,kw⟩=pure ()) (hcn:checkBuiltinCall newId ⟨.type T::args,kw⟩=pure ())
  (hok:∀obj,argsOk "object.__init__" ⟨obj::args,kw⟩) (entryN:entryFor table newId=some Bn) (g:Meets (Bn ⟨.type T::args,kw⟩) S)
  (h:S A.in1 (wants (λobj s₁=>s₁.TypeIs obj T/\Q obj s₁) E) s):wpAny (model prog w) A (call (.type T) args kw) Q E s:=by
 obtain⟨c,tl,hmro⟩:=ft.mro
 have hmade:=ft.made
 have hsub:=ft.sub
 refine wpAny_call (codeAny_of_tree ?_)
 refine wpAny_pure ⟨Code.quiet_builtin _ (by simp),codeAny_builtin F.entry_type_call ?_⟩
 have h1:=ft.notType
 have h2:=ft.canCreate
 repeat (any_goals (first | assumption | wp_step))
 refine codeAny_mono (codeAny_call_builtin ft.plain entryN (wpAny_of_eq hcn (g prog w A.in1 _ s h))) λr s1 hr=>?_
 cases r with
 | error e=>exact hr
 | ok fl =>
  cases fl with
  | ret obj =>
   obtain⟨hT,hq⟩:=hr
   have hli:=ft.init.lookup
   have hbi:=ft.init.bind obj
   repeat (any_goals (first | assumption | wp_step))
   refine codeAny_mono (codeAny_call_builtin ft.init.plain F.entry_object_init (ft.init.check _ _ _ _ _ _ _ _ hT (hok obj) (oi_kw hli hmade hne hk prog w A.in1 (wants (λr s2=>r=.none/\Q obj s2) E) s1 ⟨hT,rfl,hq⟩))) λr2 s2 hr2=>?_
   cases r2 with
   | error e=>exact hr2
   | ok fl2 =>
    cases fl2 with
    | ret r =>
     obtain⟨rfl,hq⟩:=hr2
     repeat (any_goals (first | assumption | wp_step))
    | _=>assumption
  | _=>assumption
end
end L2
namespace L2
open PyProof.Rows
section
variable{Mo:Model}{A:Around}{E:Value->Shared->Prop}{s:Shared}{env:Env}
theorem rF{pos:Pos}{T:String}{e:Expr}{rest:List Expr}{kws:List Keyword}{Q:Value->Shared->Prop}
  (h:wpAny Mo A (spliced (backTo pos (starEach (e::rest) env))) (λvs s1=>wpAny Mo A (evalAll ((backToKw pos (keywordEach kws env)).map (·.2))) (λkvs s2=>wpAny Mo A (call (.type T) vs (((backToKw pos (keywordEach kws env)).filterMap (·.1)).zip kvs)) Q E s2) E s1) E s)
  (he:backTo pos (starEach (e::rest) env)=(false,eval e env)::backTo pos (starEach rest env)) (hp:(backTo pos (starEach (e::rest) env)).any (·.1)=false)
  (ha:(backToKw pos (keywordEach kws env)).all (·.1.isSome)=true) (hk:(backToKw pos (keywordEach kws env)).any (·.1.isNone)=false) :
  wpAny Mo A (callWith pos (.type T) [] (backTo pos (starEach (e::rest) env)) (backToKw pos (keywordEach kws env))) Q E s:=by
 rw[he] at h hp ⊢
 refine wpAny_bind (wpAny_holding (wpAny_mono (evalArgs_kwB (Q:=λa s1=>wpAny Mo A (call (.type T) a.pos a.kw) Q E s1) ha h) (λa s1 h1=>wpAny_bind (wpAny_standAt ?_)) λ_ _ z=>z))
 rw[hp,hk]
 refine wpAny_bind (wpAny_pure ?_)
 exact wpAny_bind (wpAny_mono h1 (λr s2 hr=>wpAny_bind (wpAny_holding (wpAny_point (wpAny_pure hr)))) λ_ _ z=>z)
end
section
variable{prog:Program}{w:World}{A:Around}{E:Value->Shared->Prop}{s:Shared}
theorem Az(a b:Value):checkTypeCall "enumerate" ⟨[a],[(Str.ofString "start",b)]⟩=pure ():=by kernel_rfl
theorem BD(a b:Value):checkBuiltinCall "enumerate.__new__" ⟨[.type "enumerate",a],[(Str.ofString "start",b)]⟩=pure ():=by kernel_rfl
theorem BY(o a b:Value):argsOk "object.__init__" ⟨[o,a],[(Str.ofString "start",b)]⟩:=by
 kernel_rfl
theorem xJ{l:Addr}{its:Array Value}{t:Tok}{Q:Value->Shared->Prop}(hL:s.heap.IsList l its)
  (h:∀h',IsEnum h' (s.heap.objs.size+1) s.heap.objs.size 1 .none->h'.IsListIter s.heap.objs.size l 0->h'.objs.size=s.heap.objs.size+2 ->
   (∀b o,s.heap.get? b=some o->h'.get? b=some o)->Q (.ref (s.heap.objs.size+1)) { s with heap:=h' }) :
  wpAny (model prog w) A (call (.type "enumerate") [.ref l] [(Str.ofString "start",.int 1 t)]) Q E s:=by
 obtain⟨⟨c,dc,dt,sl⟩,hl,hc,n,hd⟩:=hL
 cases (show c=.type "list" from hc)
 cases (show dt=.seq its n from hd)
 refine Am F.called_enumerate (by simp) (by decide) (Az _ _) (BD _ _) (λobj=>BY obj _ _) F.entry_enumerate_new (zZ l its n dc sl t) ⟨hl,?_⟩
 have hz:(s.heap.push (En l)).objs.size=s.heap.objs.size+1:=Heap.size_push ..
 rw[hz]
 have he:((s.heap.push (En l)).push (enOf s.heap.objs.size)).get? (s.heap.objs.size+1)=some (enOf s.heap.objs.size):=by
  rw[<-hz]
  exact Heap.get?_push_size _ rfl
 exact⟨⟨_,he,rfl⟩,h _ he ⟨_,Heap.get?_push_of_some _ (Heap.get?_push_size _ rfl),rfl,rfl⟩ (by simp) λb o z=>Heap.get?_push_of_some _ (Heap.get?_push_of_some _ z)⟩
end
theorem z0{prog:Program}{w:World}{A:Around}{it:Addr}{fp:List Addr}{n:Nat}{P:Nat->Value->Prop}{Sq:Nat->Heap->Prop}(D:Draws prog w A it fp n P Sq) :
  Draws prog w A it fp (1+n) (λj v=>∃i,j=1+i/\P i v) (λj h=>∃i,j=1+i/\Sq i h) where
 live:=λ_ h ⟨i,_,z⟩=>D.live i h z
 frame:=λ_ h h' ⟨i,e,z⟩ k=>⟨i,e,D.frame i h h' z k⟩
 item:=λj s Q E hj ⟨i,e,z⟩ k=>D.item i s Q E (by omega) z λx h' tk p q r=>k x h' tk ⟨i,e,p⟩ ⟨i+1,by omega,q⟩ r
 done:=λs Q E ⟨i,e,z⟩ k=>D.done s Q E ((show i=n by omega)▸z) k
theorem Cw{prog:Program}{w:World}{A:Around}{it l:Addr}(hh:A.handled=none)(hne:l≠it){its:Array Value}{i:Nat} :
  Draws prog w A.in1 it [it,l] 0 (λ_ _=>False) (λ_ h=>h.IsListIter it l i/\h.IsList l its/\its[i]?=none) where
 live:=λ_ _ st=>let ⟨o,ho,_⟩:=st.1;⟨o,ho⟩
 frame:=λ_ _ _ st hk=>⟨st.1.at λo e=>hk it (by simp) o e,st.2.1.at λo e=>hk l (by simp) o e,st.2.2⟩
 item:=λi s Q E hi=>by omega
 done:=λs Q E st k=>wpAny_nextOf_list_end (A:=A.in1) hh st.1 st.2.1 st.2.2 k
noncomputable def Itk(K:ε)(a:Addr):It :=
  ⟨λi H=>∃xs x,SqL K H a xs/\xs[i]?=some x,
   λi H v H'=>∃T,v=.ref T/\H T=none/\∀xs x,SqL K H a xs->xs[i]?=some x->H'=upd H T (.tup [.int ((1+i:Nat):Int),x]),
   λi H=>∃xs,SqL K H a xs/\xs.length<=i⟩
theorem wG{P:Program}{w:World}{K:ε}{elts:List Expr}{x1:Nat}{tpos:Pos}(a e it:Addr)(n1:e≠it) :
  Turn P w K (.Tuple elts x1 tpos) (Itk K a) [e,it] e (λi h=>(∃old,IsEnum h e it ((1+i:Nat):Int) old)/\h.IsListIter it a i) where
 mem:=by simp
 obj:=λi h st c hc=>by
  obtain⟨⟨old,he⟩,⟨o1,e1,c1,d1⟩⟩:=st
  grind
 keep:=λi h h' st k=>by
  obtain⟨⟨old,he⟩,h1⟩:=st
  exact⟨⟨old,k e (by simp) _ he⟩,h1.at λo e=>k it (by simp) o e⟩
 item:=by
  intro X hP hw hK hc i pins s σ H E I hf st hg
  subst hP hw hK
  obtain⟨⟨old,he⟩,h1⟩:=st
  obtain⟨xs,x,hq,hx⟩:=hg
  obtain⟨its,rv,p,_⟩:=I.list hq
  obtain⟨ux,hux,rx⟩:=rv.get hx
  obtain⟨o1,e1,c1,d1⟩:=id h1
  have fr:= I.hok.fresh (ρ _)
  have ne:∀{c:Addr} {o:Obj},s.heap.get? c=some o->s.heap.objs.size≠c:=λe=>Nat.ne_of_gt (Heap.lt_size e)
  obtain⟨oa,ea,ca,da⟩:=id p.isList
  have ne1:= rq ea he (by simp_all)
  have ne2:= rq ea e1 (by simp_all)
  have hlt:i<its.toArray.size:=by
   grind
  refine wpAny_pyNext_enum_itemD (z0 (Draws.list (A:=X.A.in1) (I.ok.hd hc) it a ne2 its.toArray)) he ⟨i,rfl,h1,p.isList⟩ (by omega) n1 (by grind) λux' h' tk hP e' hS T' sz k=>?_
  obtain⟨i',ei,hP⟩:=hP
  have ei:i'=i:=by omega
  subst ei
  have eu:ux'=ux:=by
   simp_all
  subst eu
  obtain⟨i2,ei2,h1'⟩:=hS
  have ei2:i2=i'+1:=by omega
  subst ei2
  have h1':=h1'.1
  refine⟨_,rfl,wpAny_letOwnedTupleGo_enum e' λh2 he2 sb=>?_⟩
  have k2:∀c o,c∉[e,it]->s.heap.get? c=some o->h2.get? c=some o:=λc o hc q=>by
   simp only[Θ,Y9,or_false,not_or] at hc
   exact sb.extBut _ _ hc.1 (k c o hc.1 hc.2 q)
  have T2:= sb.extBut _ _ (ne he) T'
  have I1:Inv X pins σ (upd H s.heap.objs.size (.tup [.int ((1+i':Nat):Int),x])) { s with heap:=h2,toks:=tk+1 }:=by
   refine I.turnNew hf k2 (ρ _) ⟨by show 2<=_;rw[sizeLine_eq];omega,[.int ((1+i':Nat):Int) tk,ux'],.cons ⟨_,rfl⟩ (.cons rx .nil),?_⟩
   exact⟨_,T2,rfl,0,rfl⟩
  refine⟨.ref s.heap.objs.size,_,I1,rfl,⟨_,rfl,fr,λxs' x' q1 q3=>?_⟩,⟨⟨ux',he2⟩,h1'.extBut sb.extBut n1.symm⟩,λc hc=>?_⟩
  ·rw[I.list_inj q1 hq] at q3
   simp_all
  ·have hn:c≠s.heap.objs.size:=by
    grind
   rw[upd_ne hn]
   exact(hf c hc).1
 done:=by
  intro X hP hw hK hc i pins s σ H E I hf st hg
  subst hP hw hK
  obtain⟨⟨old,he⟩,h1⟩:=st
  obtain⟨xs,hq,hx⟩:=hg
  obtain⟨its,rv,p,_⟩:=I.list hq
  have hl:=rv.length
  obtain⟨oa,ea,ca,da⟩:=id p.isList
  obtain⟨o1,e1,c1,d1⟩:=id h1
  have ne2:= rq ea e1 (by simp_all)
  refine wpAny_pyNext_enum_endD (Cw (I.ok.hd hc) ne2) he ⟨h1,p.isList,by simp_all⟩ λh' k=>⟨rfl,?_⟩
  refine I.turnAll hf λc o hc e=>?_
  simp only[Θ,Y9,or_false,not_or] at hc
  exact k c o hc.2 e
 self:=λ_ _ _ _ _ st h=>by
  obtain⟨⟨old,he⟩,_⟩:=st
  exact wpAny_pyIter_enum he h
section
variable{X:Cx}{elts:List Expr}{x1:Nat}{tpos:Pos}
noncomputable def iEnumK(K:ε)(ta:TA):TI:=λσ H R=>ta σ H λvs H1=>∃a,vs=[.ref a]/\(∃xs,SqL K H1 a xs)/\R (Itk K a) H1
theorem A4{a:Expr}{ta:TA}{p pos kp kpos:Pos}{j:Nat}(hg:Gl X "enumerate")(hm:X.mg "enumerate" = none)(ha:PA X [a] ta)(hs:starEach [a] X.env=(false,eval a X.env)::starEach [] X.env:=by rfl) :
  PI X (.Tuple elts x1 tpos) (.Call (.Name "enumerate" p) [a] [⟨some (Str.ofString "start"),.Constant (.int 1) j kp,kpos⟩] pos) (iEnumK X.K ta):=by
 intro pins s σ H R I h
 refine wpAny_Call_Name_kw (mn I hg hm boot_enumerate ?_ (by decide) (by decide))
 refine rF ?_ (by rw[hs];rfl) (by rw[hs];rfl) rfl rfl
 refine thn (ha pos pins s σ H _ I h) λus s1 ⟨vs,H1,I1,r1,q1⟩=>?_
 refine PyProof.Rows.kws_cons (thn (Ba pins s1 σ H1 (λz H2=>z=.int 1/\H2=H1) I1 ⟨rfl,rfl⟩) λu s2 ⟨z,H2,I2,rz,ez,eh⟩=>PyProof.Rows.kws_nil ?_)
 subst ez eh
 obtain⟨t,rfl⟩:=rz
 obtain⟨l1,e,⟨xs,hx⟩,q⟩:=q1
 subst e
 obtain⟨u1,rfl,rx⟩:=gU r1
 cases rx
 obtain⟨its,rv,pl,_⟩:=I2.list hx
 refine xJ pl.isList λh' he h1 sz k=>wpAny_pyIter_enum he ?_
 refine⟨s2.heap.objs.size+1,[s2.heap.objs.size+1,s2.heap.objs.size],_,_,H2,rfl,I2.kept (t':=s2.toks) k,
  wG l1 (s2.heap.objs.size+1) s2.heap.objs.size (by simp),⟨⟨_,he⟩,h1⟩,λc hc=>?_,q⟩
 have hc':s2.heap.objs.size<=c:=by
  grind
 exact I2.fpOk hc' (I2.hok.fresh hc')
end
end L2
namespace L2
open PyProof.Rows
section
variable{X:Cx}
theorem zJ:MtR X "str.split" (λx xs H Q=>∃z y n,x=.str z/\xs=[.str y,.int n]/\(decide (n < -(2 ^ 63:Int))||decide (n ≥ 2 ^ 63))=false/\(y.length==0)=false/\z.length<=sizeLine/\(Txt.splitMax z y n).length<=sizeLine /\
  ∀p,H p=none->Q (.ref p) (upd H p (.lst ((Txt.splitMax z y n).map V.str)))):=by
 intro pins s σ H x xs v us Q I rx rs h
 obtain⟨z,y,n,rfl,rfl,hn,hy,hz,hl,q⟩:=h
 obtain⟨t,rfl⟩:=rx
 obtain⟨u,u',rfl,⟨t2,rfl⟩,⟨t3,rfl⟩⟩:∃u u',us=[u,u']/\(∃t2,u=.str y t2)/\(∃t3,u'=.int n t3):=by
  cases rs with
  | cons r rs =>
   cases rs with
   | cons r' rs =>
    cases rs
    exact⟨_,_,rfl,r,r'⟩
 have fin:∀(l:List (Str×Tok)) (k:Nat),l.map (·.1)=Txt.splitMax z y n->EP X pins σ Q (.ref s.heap.objs.size) { s with heap:=s.heap.push { cls:=.type "list",data:=.seq (strValues l).toArray },toks:=k }:=λl k e=>by
  rw[<-e] at q hl
  refine⟨.ref s.heap.objs.size,_,I.laid (o:=.lst ((l.map (·.1)).map V.str)) (λb o e=>Heap.get?_push_of_some _ e) (ρ _) ⟨by simp_all,_,0,jF l,Heap.get?_push_size _ rfl⟩,rfl,q _ I.fresh⟩
 cases h1:(decide (z.length<y.length)||decide (Builtin.Str.strKind z<Builtin.Str.strKind y))
 ·cases hf:(Builtin.Str.occurrences z y 0 z.length (limitOf z n)).isEmpty
  ·have e1:Txt.splitMax z y n=Builtin.Str.partsBetween z (Builtin.Str.occurrences z y 0 z.length (limitOf z n)) y.length:=(if_neg (ne_true_of_eq_false h1)).trans (if_neg (ne_true_of_eq_false hf))
   refine call_meets PySem.F.slot_str_split (typeIs_str _ _ _) PySem.F.entry_str_split (PySem.F.args_str_split_3 _ _ _) (meets_str_split_sep_max z y n t t2 t3 hn h1 hy hf hz (by simp_all)) ?_
   rw[strsFrom_eq]
   exact fin (numbered s.toks _) _ ((numbered_texts _ _).trans e1.symm)
  ·exact call_meets PySem.F.slot_str_split (typeIs_str _ _ _) PySem.F.entry_str_split (PySem.F.args_str_split_3 _ _ _) (meets_str_split_max_not_found z y n t t2 t3 hn h1 hy hf)
    (fin [(z,t)] _ ((if_neg (ne_true_of_eq_false h1)).trans (if_pos hf)).symm)
 ·exact call_meets PySem.F.slot_str_split (typeIs_str _ _ _) PySem.F.entry_str_split (PySem.F.args_str_split_3 _ _ _) (meets_str_split_max_cannot_occur z y n t t2 t3 hn h1)
   (fin [(z,t)] _ (if_pos h1).symm)
noncomputable def tTry0(X:Cx)(body:List Stmt):TS:=λD σ H=>∀pn xe,tCan (X.tri pn xe) body D σ H
theorem Dt{body:List Stmt}{h0:ExceptHandler}{hs:List ExceptHandler}{pos:Pos}:PS X (.Try body (h0::hs) [] [] pos) (tTry0 X body):=by
 intro pins s σ H D I hb
 refine wpAny_Try_except ?_
 have hw:=Ds [] s σ H D (I.tri (λ_ _=>False)) (hb _ _)
 refine wpAny_mono hw (λf s1 h1=>?_) (λe s1 h1=>h1.elim)
 cases f with
 | next =>
  obtain⟨σ',H',I',q⟩:=h1
  exact wpAny_execs_nil (show SP X pins D .next s1 from⟨σ',H',I'.untri,q⟩)
 | brk=>obtain⟨σ',H',I',q⟩:=h1;exact⟨σ',H',I'.untri,q⟩
 | cont=>obtain⟨σ',H',I',q⟩:=h1;exact⟨σ',H',I'.untri,q⟩
 | ret u=>obtain⟨v,σ',H',I',r,q⟩:=h1;exact⟨v,σ',H',I'.untri,r,q⟩
end
end L2
namespace DL
open PyProof.Rows L2
section
variable{X:Cx}{G:XD->Hp->Prop}{a e:Expr}{f:DS->M D}{fa:DS->M (List D)}{p pos kp kpos tpos:Pos}{elts:List Expr}{x1:Nat}{K:ε}{O:List Addr}{H1:Hp}
theorem Aq{a:Addr}{xs:List V}{ds:List D}(hk:∀(O2:List Addr) (H2:Hp),To O O2 H1 H2->SqL K H2 a xs)(rs:Reps K O H1 xs ds):Yl K (Itk K a) O H1 (fv 1 ds):=by
 refine⟨λO2 H2 t i d hd=>?_,λO2 H2 t=>⟨xs,hk O2 H2 t,?_⟩⟩
 ·obtain⟨x,hx,rfl⟩:=lL hd
  obtain⟨v,hv,r⟩:=rs.get hx
  refine⟨⟨xs,v,hk O2 H2 t,hv⟩,λz H3 q=>?_⟩
  obtain⟨T,rfl,hT,q⟩:=q
  have e:=q xs v (hk O2 H2 t) hv
  subst e
  exact⟨bu hT,jo hT (.cons (.int _) (.cons (r.to t) .nil))⟩
 ·rw[oi,rs.length]
  omega
noncomputable def uB(fa:DS->M (List D)):DS->M (List D):=λδ=>(fa δ).thn λds=>match ds with
 | [.list xs]=>M.ret (fv 1 xs)
 | _=>none
theorem zA{j:Nat}(hgl:Gl X "enumerate")(hm:X.mg "enumerate" = none)(ha:PDA X G [a] fa)(hs1:starEach [a] X.env=(false,eval a X.env)::starEach [] X.env:=by rfl) :
  PDI X G (.Tuple elts x1 tpos) (.Call (.Name "enumerate" p) [a] [⟨some (Str.ofString "start"),.Constant (.int 1) j kp,kpos⟩] pos) (uB fa):=by
 obtain⟨_,ta,pa,ha⟩:=ha
 refine⟨_,A4 hgl hm pa hs1,λδ O σ H R E k=>?_⟩
 refine ha δ O σ H _ E (au (ay k) λds z vs H1 s1 rs=>?_)
 match ds,z with
 | [.list xs],z =>
  obtain⟨v,rfl,r⟩:=eS rs
  obtain⟨a1,us,rfl,hq,hk,r1⟩:=r.lstTo
  exact⟨a1,rfl,⟨us,hq⟩,z _ H1 s1 (Aq hk r1)⟩
theorem Co{δ:DS}{xs:List D}(h1:fa δ=M.ret [.list xs]):uB fa δ=M.ret (fv 1 xs):=by unfold uB;rw[h1];rfl
noncomputable def o6(z:Str):List D->Option D
 | [.str y,.int n]=>if ((y.length==0)==false&&bi z.length&&bi (Txt.splitMax z y n).length&&!(decide (n < -(2 ^ 63:Int))||decide (n ≥ 2 ^ 63)))=true then some (.list ((Txt.splitMax z y n).map X8)) else none
 | _=>none
theorem xC:DMt X "str.split" o6:=by
 refine⟨_,zJ,λO H z xs d vs Q oo rs e k=>?_⟩
 unfold o6 at e
 split at e
 ·rename_i y n
  split at e
  ·rename_i hp
   cases e
   obtain⟨hp,h4⟩:=X4.mp hp
   obtain⟨hp,h3⟩:=X4.mp hp
   obtain⟨h1,h2⟩:=X4.mp hp
   obtain⟨v,v',rfl,r,r'⟩:=vo rs
   exact⟨z,y,n,rfl,by rw[r.str_inv,r'.int_inv],by simp_all,by simp_all,bQ h2,bQ h3,λp hp=>k _ _ (bu hp) (ie oo hp (jM _))⟩
  simp_all
 simp_all
noncomputable def truD:D->Option Bool
 | .bool b=>some b
 | .str z=>if bi z.length then some ((z.length:Int) != 0) else none
 | .list xs=>some (!xs.isEmpty)
 | _=>none
noncomputable def dTr(f:DS->M D):DS->M Bool:=λδ=>(f δ).thn λd=>M.lift (truD d)
theorem wW(he:PD X G e f)(h1:∀whole,isTrue e X.env whole=(do let v <- whole;standAt e.pos;holding [v] (truthy v)):=by intro _;rfl):PDT X G e (dTr f):=by
 obtain⟨t,p,he⟩:=he
 refine⟨_,AU p h1,λδ O σ H Q E k=>?_⟩
 refine he δ O σ H _ E (au (ay k) λd z v H' s r=>?_)
 obtain⟨b,hb,z⟩:=cq z
 refine⟨b,?_,z H' s⟩
 unfold truD at hb
 split at hb
 ·cases hb
  rw[r.bool_inv]
  rfl
 ·split at hb
  ·rename_i hs
   cases hb
   rw[r.str_inv]
   exact⟨bQ hs,rfl⟩
  simp_all
 ·rename_i xs
  cases hb
  obtain⟨l,us,rfl,h2,rx⟩:=r.lst_inv
  refine .inl ⟨us,h2,?_⟩
  have:=rx.length
  grind
 simp_all
noncomputable def yG(gb:DS->M Out):DS->M Out:=λδ=>noX (gb (noOw δ))
theorem DH{body:List Stmt}{h0:ExceptHandler}{hs:List ExceptHandler}{gb:DS->M Out}(hb:∀pn xe,nH (X.tri pn xe) (λ_ _=>False) body gb) :
  PDS X G (.Try body (h0::hs) [] [] pos) (yG gb):=by
 refine⟨_,Dt,@λHr R0 P0 H0 δ O σ H Dn E k=>λpn xe=>?_⟩
 obtain⟨t,p,hB⟩:=hb pn xe
 refine⟨t,p,hB O (λ_=>False) H (noOw δ) O σ H Dn E.fresh ?_⟩
 exact DR (au (nZ k) λo q=>Fin.fresh E q) λy z=>z.elim
theorem EB{gb:DS->M Out}{δ:DS}{o:Out}(h:gb (noOw δ)=M.ret o):yG gb δ=M.ret o:=by unfold yG;rw[h];rfl
end
end DL
namespace SL
open PyProof.Rows L2 DL
section
variable{X:Cx}{G:XD->Hp->Prop}{a b c e ix o:Expr}{es:List Expr}{pos pos' tpos apos cpos:Pos}{f fi fo:aD->Sto->R (Val×Sto)}
open Classical in
noncomputable def forT(i k:Nat)(xs:List Val)(g:aD->Sto->R OutS):List Val->aD->Sto->R OutS
 | [],δ,μ=>if μ[k]?=some (.lst xs) then R.ret (.nx δ μ) else none
 | v::vs,δ,μ=>if μ[k]?=some (.lst xs) then (g (δ.set i (some v)) μ).thn λo=>match o with
   | .nx δ' μ'=>forT i k xs g vs δ' μ'
   | .ct δ' μ'=>forT i k xs g vs δ' μ'
   | .bk δ' μ'=>R.ret (.nx δ' μ')
   | .rt v μ'=>R.ret (.rt v μ') else none
noncomputable def o2(h:D->D->Option D)(fo fi:aD->Sto->R (Val×Sto)):aD->Sto->R (Val×Sto):=λδ μ=>(fo δ μ).thn λp=>(fi δ p.2).thn λq=>match lv2 0 q.2 p.1,lv2 0 q.2 q.1 with
 | some x,some y=>match h x y with
  | some d=>if dW d=true then R.ret (.d d,q.2) else none
  | none=>none
 | _,_=>none
theorem sx_cmp{op:CmpOp}{h:D->D->Option D}(hh:DOp X (compareOp op) h)(ha:SX X G a fo)(hb:SX X G b fi)(hm:behindInMarks op b=false):SX X G (.Compare a [op] [b] pos) (o2 h fo fi):=by
 obtain⟨rr,hr,hh⟩:=hh
 obtain⟨ta,pa,ha⟩:=ha
 obtain⟨tb,pb,hb⟩:=hb
 refine⟨_,yn hr pa pb hm,λA δ μ O α σ H Q E k=>?_⟩
 refine ha A δ μ O α σ H _ E (aZ (bh k) λp z v O1 α1 H1 T1 S1 r1=>?_)
 have E1:=E.go T1 S1
 refine hb A δ p.2 O1 α1 σ H1 _ E1 (aZ (cJ (bh z) λx μ h=>Er.go T1 h) λq y u O2 α2 H2 T2 S2 r2=>?_)
 have r1':=r1.to (T2.to S1) T2.ex
 have hn:∀(k:Nat) (a:Addr) (xs:List Val),α2[k]?=some (some a)->0<=k->q.2[k]?=some (.lst xs)->a∉A.R0:=λk a xs h1 _ h2=>by
  obtain⟨ob,h3,h4⟩:=S2.at_ k a h1
  rw[h2] at h3
  cases h3
  exact h4.2.1
 split at y
 ·rename_i x' y' e1 e2
  have c1:=mZ S2 (To.less S2.sub) hn r1' e1
  have c2:=mZ S2 (To.less S2.sub) hn r2 e2
  cases e3:h x' y' with
  | none=>rw[e3] at y;exact y.elim
  | some d =>
   rw[e3] at y
   dsimp only at y
   by_cases hf:dW d=true
   ·rw[if_pos hf] at y
    exact hh A.R0 H2 x' y' d v u Q (λl hl=>S2.oo l (S2.sub l hl)) c1 c2 e3 λv' H' s r=>y v' O2 α2 H' ((T1.trans T2).trans (Go.same s)) (S2.same s) (.d (r.flat hf))
   ·rw[if_neg hf] at y;exact y.elim
 ·exact y.elim
theorem qY{h:D->D->Option D}{fo fi:aD->Sto->R (Val×Sto)}{δ:aD}{μ μ1 μ2:Sto}{v u:Val}{x y d:D}(h1:fo δ μ=R.ret (v,μ1))(h2:fi δ μ1=R.ret (u,μ2))(e1:lv2 0 μ2 v=some x)(e2:lv2 0 μ2 u=some y)(e3:h x y=some d)(hf:dW d=true):o2 h fo fi δ μ=R.ret (.d d,μ2):=by
 unfold o2
 rw[h1,ck]
 rw[h2,ck]
 simp_all
end
end SL
namespace L2
open PyProof.Rows
section
variable{X:Cx}
end
end L2
namespace DL
open PyProof.Rows L2
section
variable{K:ε}{Hr H0 H H':Hp}{R0 O:List Addr}{P0:Addr->Prop}{σ:St}{δ:DS}
end
section
variable{X:Cx}{G:XD->Hp->Prop}{a b e o:Expr}{es:List Expr}{f:DS->M D}{fa:DS->M (List D)}{pos apos p p1 p2:Pos}
end
section
variable{P:Program}{w:World}{K:ε}{mg:Str->Option Value}{base:Heap}
end
section
variable{X:Cx}{G:XD->Hp->Prop}{e:Expr}{f:DS->M D}{pos p p2:Pos}
end
end DL
namespace DL
open PyProof.Rows L2
section
variable{X:Cx}
end
end DL
namespace SL
open PyProof.Rows L2 DL
section
variable{X:Cx}{G:XD->Hp->Prop}{pos:Pos}
open Classical in
noncomputable def forTI(k:Nat)(xs:List Val)(t:D->aD->Option aD)(g:aD->Sto->R OutS):List D->aD->Sto->R OutS
 | [],δ,μ=>if μ[k]?=some (.lst xs) then R.ret (.nx δ μ) else none
 | d::ds,δ,μ=>if μ[k]?=some (.lst xs) then (match t d δ with
  | none=>none
  | some δ1=>(g δ1 μ).thn λo=>match o with
   | .nx δ' μ'=>forTI k xs t g ds δ' μ'
   | .ct δ' μ'=>forTI k xs t g ds δ' μ'
   | .bk δ' μ'=>R.ret (.nx δ' μ')
   | .rt v μ'=>R.ret (.rt v μ')) else none
variable{f:aD->Sto->R (Val×Sto)}
end
end SL
namespace DL
open PyProof.Rows L2
section
variable{X:Cx}{G:XD->Hp->Prop}{e:Expr}{f:DS->M D}{pos p2:Pos}{lo hi:Option Expr}{fl fh:DS->M (Option Int)}
end
end DL
namespace SL
open PyProof.Rows L2 DL
noncomputable def gG:List (Option D)->Option (List D)
 | []=>some []
 | some d::r=>(gG r).map (d :: ·)
 | none::_=>none
noncomputable def lvN:Nat->Sto->Val->Option D
 | 0=>λ_ v=>match v with
  | .d x=>some x
  | _=>none
 | f+1=>λμ v=>match v with
  | .d x=>some x
  | .h k=>match μ[k]? with
   | some (.lst xs)=>(gG (xs.map (lvN f μ))).map Z1
   | some (.ins c fs)=>(gG ((fs.map (·.2)).map (lvN f μ))).map λds=>gP c ((fs.map (·.1)).zip ds)
   | some (.dct es)=>(gG ((es.map (·.2)).map (lvN f μ))).map λds=>PyData.dict (((es.map (·.1)).zip ds).map λe=>(il e.1,e.2))
   | _=>none
  | .t xs=>(gG (xs.map (lvN f μ))).map W1
theorem rJ:∀{l:List (Option D)} {ds:List D},gG l=some ds->ds.length=l.length
 | [],ds,h=>by cases h;rfl
 | none::r,ds,h=>by cases h
 | some d::r,ds,h=>by
  have h:(gG r).map (d :: ·)=some ds:=h
  cases e:gG r with
  | none=>simp_all
  | some q=>rw[e] at h;cases h;rw[θ,θ,rJ e]
section
variable{K:ε}{mg:Str->Option Value}{A:An}{R0 O O':List Addr}{α:List (Option Addr)}{H:Hp}{μ:Sto}{σ:L2.St}{δ:aD}
theorem kQ{f:Nat}(ih:∀{v:V} {x:Val} {d:D},VR K O α H v x->lvN f μ x=some d->Rep K O' H v d):∀{xs:List Val} {vs:List V} {ds:List D},VRs K O α H vs xs->gG (xs.map (lvN f μ))=some ds->Reps K O' H vs ds
 | [],_,ds,.nil,h=>by cases h;exact .nil
 | x::xs,_,ds,.cons r rs,h=>by
  rw[Δ] at h
  cases e:lvN f μ x with
  | none=>rw[e] at h;cases h
  | some d =>
   rw[e] at h
   have h:(gG (xs.map (lvN f μ))).map (d :: ·)=some ds:=h
   cases e2:gG (xs.map (lvN f μ)) with
   | none=>simp_all
   | some q=>rw[e2] at h;cases h;exact .cons (ih r e) (kQ ih rs e2)
theorem yw(S:SR K mg R0 O α H μ)(T:To O O' H H)(hn:∀(k:Nat) (a:Addr),α[k]?=some (some a)->a∉O'):∀(f:Nat) {v:V} {x:Val} {d:D},VR K O α H v x->lvN f μ x=some d->Rep K O' H v d
 | 0,v,x,d,r,h=>by
  cases x with
  | d x=>cases h;exact Rep.to T r.dinv
  | h k=>cases h
  | t xs=>cases h
 | f+1,v,x,d,r,h=>by
  have ih:∀{v:V} {x:Val} {d:D},VR K O α H v x->lvN f μ x=some d->Rep K O' H v d:=λ{v x d}=>yw S T hn f
  cases x with
  | d x=>cases h;exact Rep.to T r.dinv
  | t xs =>
   obtain⟨a,vs,rfl,hs,rs⟩:=r.tinv
   have h:(gG (xs.map (lvN f μ))).map W1=some d:=h
   cases e:gG (xs.map (lvN f μ)) with
   | none=>rw[e] at h;cases h
   | some ds=>rw[e] at h;cases h;exact .tup hs (kQ ih rs e)
  | h k =>
   obtain⟨a,ha,rfl⟩:=r.hinv
   obtain⟨ob,g1,g2⟩:=S.at_ k a ha
   have h:(match μ[k]? with
    | some (.lst xs)=>(gG (xs.map (lvN f μ))).map Z1
    | some (.ins c fs)=>(gG ((fs.map (·.2)).map (lvN f μ))).map λds=>gP c ((fs.map (·.1)).zip ds)
    | some (.dct es)=>(gG ((es.map (·.2)).map (lvN f μ))).map λds=>PyData.dict (((es.map (·.1)).zip ds).map λe=>(il e.1,e.2))
    | _=>none)=some d:=h
   rw[g1] at h
   cases ob with
   | lst xs =>
    have h:(gG (xs.map (lvN f μ))).map Z1=some d:=h
    obtain⟨_,_,vs,g5,g6⟩:=g2
    cases e:gG (xs.map (lvN f μ)) with
    | none=>rw[e] at h;cases h
    | some ds=>rw[e] at h;cases h;exact .lst (.inl g5) (hn k a ha) (kQ ih g6 e)
   | ins c fs =>
    have h:(gG ((fs.map (·.2)).map (lvN f μ))).map (λds=>gP c ((fs.map (·.1)).zip ds))=some d:=h
    obtain⟨_,_,C,dx,vfs,g3,g4,g5,g6⟩:=g2
    cases e:gG ((fs.map (·.2)).map (lvN f μ)) with
    | none=>rw[e] at h;cases h
    | some ds =>
     rw[e] at h
     cases h
     have hl:ds.length=fs.length:=by have:=rJ e;rw[ι,ι] at this;exact this
     have e1:((fs.map (·.1)).zip ds).map (·.1)=fs.map (·.1):=List.map_fst_zip (by rw[ι];omega)
     have e2:((fs.map (·.1)).zip ds).map (·.2)=ds:=List.map_snd_zip (by rw[ι];omega)
     exact .ins g3 g4 (hn k a ha) (by rw[e1];exact g5) (by rw[e2];exact kQ ih g6 e)
   | dct fs =>
    have h:(gG ((fs.map (·.2)).map (lvN f μ))).map (λds=>PyData.dict (((fs.map (·.1)).zip ds).map λe=>(il e.1,e.2)))=some d:=h
    obtain⟨_,_,vfs,g4,g5,g6⟩:=g2
    cases e:gG ((fs.map (·.2)).map (lvN f μ)) with
    | none=>rw[e] at h;cases h
    | some ds =>
     rw[e] at h
     cases h
     have hl:ds.length=fs.length:=by have:=rJ e;rw[ι,ι] at this;exact this
     have e1:((fs.map (·.1)).zip ds).map (·.1)=fs.map (·.1):=List.map_fst_zip (by rw[ι];omega)
     have e2:((fs.map (·.1)).zip ds).map (·.2)=ds:=List.map_snd_zip (by rw[ι];omega)
     exact .dct (.inl g4) (hn k a ha) (by rw[e1];exact g5) (by rw[e2];exact kQ ih g6 e)
   | gone=>cases h
noncomputable def v1N(f:Nat)(μ:Sto):Option Val->Sl
 | some x=>match lvN f μ x with
  | some d=>.vl d
  | none=>.un
 | none=>.un
noncomputable def viewN(f:Nat)(μ:Sto)(δ:aD):DS:=δ.map (v1N f μ)
theorem rT{f i:Nat}{s:Sl}(h:(viewN f μ δ)[i]?=some s):(∃x d,δ[i]?=some (some x)/\lvN f μ x=some d/\s=.vl d)\/s=.un:=by
 unfold viewN at h
 rw[Z6] at h
 cases e:δ[i]? with
 | none=>simp_all
 | some o =>
  rw[e] at h
  cases o with
  | none=>cases h;exact .inr rfl
  | some x =>
   have h:some (match lvN f μ x with | some d=>Sl.vl d | none=>.un)=some s:=h
   grind
theorem SR.apart(S:SR K mg R0 O α H μ){k:Nat}{a:Addr}(h:α[k]?=some (some a)):a∉R0:=by
 obtain⟨ob,_,g⟩:=S.at_ k a h
 cases ob with
 | lst xs=>exact g.2.1
 | dct es=>exact g.2.1
 | ins c fs=>exact g.2.1
 | gone=>exact g.elim
theorem SEv.viewN{f:Nat}(E:SEv K mg A O α H σ δ μ):Ev K H A.R0 H σ (SL.viewN f μ δ):=by
 have T:To O A.R0 H H:=.less E.sr.sub
 refine⟨aM.refl H,λl hl=>E.sr.oo l (E.sr.sub l hl),by unfold SL.viewN;rw[ι];exact E.len,λi s h=>?_,λi j l ds es hij h1=>?_⟩
 ·rcases rT h with ⟨x,d,h1,h2,rfl⟩ | rfl
  ·obtain⟨v,g1,g2⟩:=E.at_ i _ h1
   exact⟨v,g1,yw E.sr T (λk a h=>E.sr.apart h) f g2 h2⟩
  ·trivial
 ·rcases rT h1 with ⟨x,d,_,_,z⟩ | z<;>cases z
end
section
variable{X:Cx}{G:XD->Hp->Prop}{a b c e o:Expr}{es rest:List Expr}{pos pos':Pos}{st:Stmt}{sts sts':List Stmt}
noncomputable def fj(f:DS->M D):aD->Sto->R (Val×Sto):=λδ μ=>(ofM (f (viewN 4 μ δ)) μ).thn λd=>if dW d=true then R.ret (.d d,μ) else none
theorem ef{f:DS->M D}(h:PD X G e f):SX X G e (fj f):=by
 obtain⟨t,p,h⟩:=h
 refine⟨t,p,λA δ μ O α σ H Q E k=>?_⟩
 refine h (viewN 4 μ δ) A.R0 σ H Q E.viewN (au (kL E.sr (bh k)) λd z v H' s r=>?_)
 by_cases hf:dW d=true
 ·rw[if_pos hf] at z
  exact z v O α H' (Go.same s) (E.sr.same s) (.d (r.flat hf))
 ·rw[if_neg hf] at z;exact z.elim
noncomputable def md(fb:DS->M Bool):aD->Sto->R (Bool×Sto):=λδ μ=>(ofM (fb (viewN 4 μ δ)) μ).thn λb=>R.ret (b,μ)
theorem mL{fb:DS->M Bool}(h:PDT X G e fb):ST X G e (md fb):=by
 obtain⟨t,p,h⟩:=h
 refine⟨t,p,λA δ μ O α σ H Q E k=>?_⟩
 exact h (viewN 4 μ δ) A.R0 σ H Q E.viewN (au (kL E.sr (bh k)) λb z H' s=>z O α H' (Go.same s) (E.sr.same s))
noncomputable def r6(fn:DS->M (List D)):aD->Sto->R (Val×Sto):=λδ μ=>(ofM (fn (viewN 4 μ δ)) μ).thn λds=>if bj ds=true then R.ret (.h μ.length,μ++[.lst (ds.map Val.d)]) else none
theorem tm{fn:DS->M (List D)}(he:PDN X G e fn):SX X G e (r6 fn):=by
 obtain⟨t,p,he⟩:=he
 refine⟨t,p,λA δ μ O α σ H Q E k=>?_⟩
 refine he (viewN 4 μ δ) A.R0 σ H _ E.viewN (au (kL E.sr (bh k)) λds z l xs H1 s1 hl rx=>?_)
 by_cases hf:bj ds=true
 ·rw[if_pos hf] at z
  have E1:=E.same s1
  exact z _ (l::O) (α++[some l]) _ ((Go.same s1).trans (Go.newL hl)) (E1.sr.newL hl (VRs.data (rx.flat hf))) (.h E.sr.at_new)
 ·rw[if_neg hf] at z;exact z.elim
noncomputable def qd(f:DS->M D):aD->Sto->R (Val×Sto):=λδ μ=>(ofM (f (viewN 4 μ δ)) μ).thn λd=>match d with
 | .list ds=>if bj ds=true then R.ret (.h μ.length,μ++[.lst (ds.map Val.d)]) else none
 | _=>none
theorem uU{f:DS->M D}(he:PDF X G e f):SX X G e (qd f):=by
 obtain⟨t,p,he⟩:=he
 refine⟨t,p,λA δ μ O α σ H Q E k=>?_⟩
 refine he (viewN 4 μ δ) A.R0 σ H _ E.viewN (au (kL E.sr (bh k)) λd z=>?_)
 match d,z with
 | .list ds,z =>
  dsimp only at z
  by_cases hf:bj ds=true
  ·rw[if_pos hf] at z
   exact⟨ds,rfl,hf,λl xs H' s hl hx rx=>z _ (l::O) (α++[some l]) H' (Go.adopt s hl) (E.sr.adopt s hl hx rx hf) (.h E.sr.at_new)⟩
  ·rw[if_neg hf] at z;exact z.elim
end
end SL
namespace SL
open PyProof.Rows L2 DL
section
variable{K:ε}{mg:Str->Option Value}{A:An}{R0 O O':List Addr}{α:List (Option Addr)}{H:Hp}{μ:Sto}
theorem VRs.look{f:Str}{x:Val}:∀{vfs:List (Str×V)} {fs:List (Str×Val)},vfs.map (·.1)=fs.map (·.1)->VRs K O α H (vfs.map (·.2)) (fs.map (·.2))->fs.lookup f=some x->∃v,vfs.lookup f=some v/\VR K O α H v x
 | [],[],_,_,h=>by cases h
 | [],_::_,hk,_,_=>by cases hk
 | _::_,[],hk,_,_=>by cases hk
 | (g,v)::vfs,(g2,y)::fs,hk,r,h=>by
  simp only[Δ,List.cons.injEq] at hk
  obtain⟨rfl,hk⟩:=hk
  cases r with
  | cons r rs =>
   cases hb:(f==g) with
   | true =>
    simp_all
   | false =>
    simp only[X7,hb] at h ⊢
    exact VRs.look hk rs h
theorem sw{f:Str}:∀{vfs:List (Str×V)} {fs:List (Str×Val)},vfs.map (·.1)=fs.map (·.1)->fs.lookup f=none->vfs.lookup f=none
 | [],[],_,_=>rfl
 | [],_::_,hk,_=>by cases hk
 | _::_,[],hk,_=>by cases hk
 | (g,v)::vfs,(g2,y)::fs,hk,h=>by
  simp only[Δ,List.cons.injEq] at hk
  obtain⟨rfl,hk⟩:=hk
  cases hb:(f==g) with
  | true=>simp_all
  | false =>
   simp only[X7,hb] at h ⊢
   exact sw hk h
noncomputable def jO(f:Str)(v:Val):List (Str×Val)->List (Str×Val)
 | []=>[(f,v)]
 | (g,x)::r=>if g=f then (g,v)::r else (g,x)::jO f v r
theorem vw{f:Str}{v:V}{x:Val}(rv:VR K O α H v x):∀{vfs:List (Str×V)} {fs:List (Str×Val)},vfs.map (·.1)=fs.map (·.1)->VRs K O α H (vfs.map (·.2)) (fs.map (·.2))->(jp f v vfs).map (·.1)=(jO f x fs).map (·.1)/\VRs K O α H ((jp f v vfs).map (·.2)) ((jO f x fs).map (·.2))
 | [],[],_,_=>⟨rfl,.cons rv .nil⟩
 | [],_::_,hk,_=>by cases hk
 | _::_,[],hk,_=>by cases hk
 | (g,v')::vfs,(g2,y)::fs,hk,r=>by
  simp only[Δ,List.cons.injEq] at hk
  obtain⟨rfl,hk⟩:=hk
  cases r with
  | cons r rs =>
   by_cases hg:g=f
   ·rw[jp,jO,if_pos hg,if_pos hg]
    exact⟨by simp [hk],.cons rv rs⟩
   ·rw[jp,jO,if_neg hg,if_neg hg]
    obtain⟨i1,i2⟩:=vw rv hk rs
    exact⟨by simp [i1],.cons r i2⟩
theorem BS{vfs:List (Str×V)}{fs:List (Str×Val)}(h:vfs.map (·.1)=fs.map (·.1)):vfs.length=fs.length:=by
 have:=congrArg V8 h
 grind
theorem To.setI{l C dx:Addr}{fs ys:List (Str×V)}(hl:H l=some (.ins C dx fs))(ho:l∈O):To O O H (upd H l (.ins C dx ys)):=by
 have keep:∀{b:Addr} {o:HO},b≠l->Rd H b o->Rd (upd H l (.ins C dx ys)) b o:=λ{b o} hb h=>by
  rcases h with h | ⟨u,h⟩
  ·exact .inl (by rw[upd_ne hb];exact h)
  ·exact .inr ⟨u,by rw[upd_ne hb];exact h⟩
 refine⟨λb zs h=>keep ?_ h,λb zs n h=>⟨n,keep (λz=>n (z▸ho)) h⟩,λb zs n h=>⟨n,keep (λz=>n (z▸ho)) h⟩,λb C dx fs n h=>⟨n,by rw[upd_ne (show b≠l from λz=>n (z▸ho))];exact h⟩⟩
 rintro rfl
 rcases h with h | ⟨u,h⟩
 all_goals simp_all
theorem SR.setI(S:SR K mg R0 O α H μ){k:Nat}{a C dx:Addr}{c:Str}{fs fs':List (Str×Val)}{vfs vfs':List (Str×V)}(h:α[k]?=some (some a))(hk:μ[k]?=some (.ins c fs))(hH:H a=some (.ins C dx vfs))(hk':vfs'.map (·.1)=fs'.map (·.1))(r:VRs K O α H (vfs'.map (·.2)) (fs'.map (·.2))):SR K mg R0 O α (upd H a (.ins C dx vfs')) (μ.set k (.ins c fs')):=by
 obtain⟨ob,h1,h2⟩:=S.at_ k a h
 rw[hk] at h1
 cases h1
 obtain⟨ho,hn,C',dx',w,hN,hv,_⟩:=h2
 rw[hH] at hv
 cases hv
 have T:To O O H (upd H a (.ins C dx vfs')):=To.setI hH ho
 refine⟨by rw[Y5];exact S.len,S.nd,λl hl=>?_,S.sub,λj b hj=>?_⟩
 ·by_cases e:l=a
  ·subst e;exact .inr (.inr ⟨C,dx,vfs',aN⟩)
  ·exact(S.oo l hl).upd_ne e
 ·by_cases e:j=k
  ·subst e
   rw[h] at hj
   cases hj
   exact⟨.ins c fs',by grind,ho,hn,C,dx,vfs',hN,aN,hk',r.to T λ_ _ h=>h⟩
  ·obtain⟨ob,g1,g2⟩:=S.at_ j b hj
   have hb:b≠a:=λz=>e (S.nd j k a (z▸hj) h)
   exact⟨ob,by grind,g2.to T (λ_ _ h=>h) (λz=>z) (upd_ne hb)⟩
theorem SR.newI(S:SR K mg R0 O α H μ){l C dx:Addr}{c:Str}(hN:ο K mainGlobals c=some (some (.ref C)))(hl:H l=none):SR K mg R0 (l::O) (α++[some l]) (upd H l (.ins C dx [])) (μ++[.ins c []]):=by
 have T:To O (l::O) H (upd H l (.ins C dx [])):=To.own hl
 have e:∀(k:Nat) (a:Addr),α[k]?=some (some a)->(α++[some l])[k]?=some (some a):=λk a h=>by
  grind
 have cs:∀(k:Nat) (a:Addr),(α++[some l])[k]?=some (some a)->α[k]?=some (some a)\/(k=α.length/\a=l):=λk a h=>by
  grind
 have ne:∀(k:Nat) (a:Addr),α[k]?=some (some a)->a≠l:=λk a h z=>by
  obtain⟨o,h3,_⟩:=S.tracked h
  simp_all
 refine⟨by rw[ζ,ζ,S.len];rfl,λi j a h1 h2=>?_,λb hb=>?_,λb hb=>χ _ (S.sub b hb),λk a h=>?_⟩
 ·rcases cs i a h1 with h1 | ⟨h1,z⟩<;>rcases cs j a h2 with h2 | ⟨h2,z2⟩
  ·exact S.nd i j a h1 h2
  all_goals grind
 ·rcases Θ.mp hb with rfl | hb
  ·exact .inr (.inr ⟨C,dx,[],aN⟩)
  ·exact(S.oo b hb).new hl
 ·rcases cs k a h with h | ⟨rfl,rfl⟩
  ·obtain⟨ob,h1,h2⟩:=S.at_ k a h
   exact⟨ob,by grind,h2.to T e (λz=>χ _ z) (upd_ne (ne k a h))⟩
  ·refine⟨.ins c [],by rw[S.len,Ψ (ρ _),V1];rfl,υ,λz=>?_,C,dx,[],hN,aN,rfl,.nil⟩
   obtain⟨o,ho⟩:=(S.oo a (S.sub a z)).some
   simp_all
end
section
variable{X:Cx}{G:XD->Hp->Prop}{o e:Expr}{es:List Expr}{pos pos' apos cpos p:Pos}{fo fe:aD->Sto->R (Val×Sto)}{fa:aD->Sto->R (List Val×Sto)}{C:Addr}{c f:Str}
noncomputable def sAt(c f:Str)(fo:aD->Sto->R (Val×Sto)):aD->Sto->R (Val×Sto):=λδ μ=>(fo δ μ).thn λr=>match r.1 with
 | .h k=>match r.2[k]? with
  | some (.ins c' fs)=>if c'=c then (match fs.lookup f with
   | some v=>R.ret (v,r.2)
   | none=>none) else none
  | _=>none
 | _=>none
theorem sx_at(ho:SX X G o fo)(hN:ο X.K mainGlobals c=some (some (.ref C)))(hc:Cls X.K C)(hn:j8 X.K C f)(hb:attributeBase o f X.env (eval o X.env)=eval o X.env:=by rfl):SX X G (.Attribute o f pos) (sAt c f fo):=by
 obtain⟨t,p,ho⟩:=ho
 refine⟨_,Bc p hb,λA δ μ O α σ H Q E k=>?_⟩
 refine ho A δ μ O α σ H _ E (aZ (bh k) λr z v O1 α1 H1 T1 S1 r1=>?_)
 obtain⟨p1,p2⟩:=r
 match p1,z,r1 with
 | .h k,z,r1 =>
  obtain⟨l,hl,rfl⟩:=r1.hinv
  obtain⟨ob,g1,g2⟩:=S1.at_ k l hl
  dsimp only at z
  rw[g1] at z
  match ob,z,g2 with
  | .ins c' fs,z,g2 =>
   obtain⟨_,_,C',dx,vfs,hN',g4,g5,g6⟩:=g2
   dsimp only at z
   by_cases hcc:c'=c
   ·rw[if_pos hcc] at z
    have zz:=z
    subst hcc
    have hC:C'=C:=by
     simp_all
    subst hC
    cases hlk:fs.lookup f with
    | none=>rw[hlk] at zz;exact zz.elim
    | some x =>
     rw[hlk] at zz
     obtain⟨u,q1,q2⟩:=VRs.look g5 g6 hlk
     exact⟨l,C',dx,vfs,u,rfl,g4,hc,hn,q1,zz u O1 α1 H1 T1 S1 q2⟩
   ·rw[if_neg hcc] at z;exact z.elim
noncomputable def i5(c f:Str)(fo fe:aD->Sto->R (Val×Sto)):SG:=λ_ δ μ=>(fe δ μ).thn λr=>(fo δ r.2).thn λq=>match q.1 with
 | .h k=>match q.2[k]? with
  | some (.ins c' fs)=>if c'=c/\fs.length<1000 then R.ret (.nx δ (q.2.set k (.ins c (jO f r.1 fs)))) else none
  | _=>none
 | _=>none
theorem jm(ho:SX X G o fo)(he:SX X G e fe)(hN:ο X.K mainGlobals c=some (some (.ref C)))(hc:Cls X.K C)(hn:j8 X.K C f)(hs:swapsWith e (some (.Attribute o f pos')) pos.line X.env=pure false:=by rfl):SS X G (.Assign [.Attribute o f pos'] e pos) (i5 c f fo fe):=by
 obtain⟨t,p,ho⟩:=ho
 obtain⟨u,q,he⟩:=he
 refine⟨_,ps_fld p q hs,λA δ μ O α σ H Dn E k=>?_⟩
 refine he A δ μ O α σ H _ E (aZ (cJ (bh k) λx μ h=>Er.go E.st h) λr z v O1 α1 H1 T1 S1 r1=>?_)
 have E1:=E.go T1 S1
 refine ho A δ r.2 O1 α1 σ H1 _ E1 (aZ (cJ (bh z) λx μ h=>Er.go E1.st h) λy w u' O2 α2 H2 T2 S2 r2=>?_)
 obtain⟨y1,y2⟩:=y
 match y1,w,r2 with
 | .h k,w,r2 =>
  obtain⟨l,hl,rfl⟩:=r2.hinv
  obtain⟨ob,g1,g2⟩:=S2.at_ k l hl
  dsimp only at w
  rw[g1] at w
  match ob,w,g2,g1 with
  | .ins c' fs,w,g2,g1 =>
   obtain⟨_,_,C',dx,vfs,hN',g4,g5,g6⟩:=g2
   dsimp only at w
   by_cases hcc:c'=c/\fs.length<1000
   ·rw[if_pos hcc] at w
    have ww:=w
    obtain⟨rfl,hlen⟩:=hcc
    have hC:C'=C:=by
     simp_all
    subst hC
    have rv:= r1.to (Go.to S1 T2) T2.ex
    obtain⟨i1,i2⟩:=vw rv g5 g6
    have S3:=S2.setI hl g1 g4 i1 i2
    have T3:Go O2 α2 H2 O2 α2 (upd H2 l (.ins C' dx (jp f v vfs))):=Go.setL hl
    exact⟨l,C',dx,vfs,rfl,g4,hc,hn,by rw[BS g5];omega,ww O2 α2 σ _ ((E1.go T2 S2).go T3 S3) (T1.trans (T2.trans T3))⟩
   ·rw[if_neg hcc] at w;exact w.elim
structure DefSM(P:Program)(w:World)(K:ε)(mg:Str->Option Value)(base:Heap)(k:Nat)(c m:Str)(n:Nat)(F:List Val->Sto->R (Val×Sto)):Prop where
 ex:∃(C f:Addr) (fd:FuncData) (ps:List Str),ο K mainGlobals c=some (some (.ref C))/\Cls K C/\Meth K C m f/\FnOk P w K mg base CX0 k f fd ps (spS K mg n F)/\eR K fd ps []
noncomputable def lU(c m:Str)(F:List Val->Sto->R (Val×Sto))(fo:aD->Sto->R (Val×Sto))(fa:aD->Sto->R (List Val×Sto)):aD->Sto->R (Val×Sto):=λδ μ=>(fo δ μ).thn λr=>match r.1 with
 | .h k=>match r.2[k]? with
  | some (.ins c' fs)=>if c'=c/\fs.lookup m=none then (fa δ r.2).thn λq=>zI (F (.h k::q.1) q.2) else none
  | _=>none
 | _=>none
theorem gM{pl:Sem Bool}{k n:Nat}{m:Str}{F:List Val->Sto->R (Val×Sto)}(h:DefSM X.prog X.w X.K X.mg X.base k c m n F)(hr:Room k X.A)(hn:(e::es).length+1=n)(ho:SX X G o fo)(ha:SA X G (e::es) fa)
  (hst:starEach (e::es) X.env=(false,eval e X.env)::starEach es X.env:=by rfl) (hpl:(backTo pos (starEach es X.env)).any (·.1)=false:=by rfl)
  (ht:eval (.Call (.Attribute o m apos) (e::es) [] pos) X.env=(do
   let ov <- eval o X.env
   standAt apos.atName
   let (f,first) <- holding [ov] (getMethod ov m pl)
   callWith pos f first (backTo pos (starEach (e::es) X.env)) (backToKw pos (keywordEach [] X.env))):=by rfl) :
  SX X G (.Call (.Attribute o m apos) (e::es) [] pos) (lU c m F fo fa):=by
 obtain⟨C,f0,fd,ps,hN,hc,hm,F1,hb⟩:=h.ex
 obtain⟨t,p,ho⟩:=ho
 obtain⟨hl,ta,pa,ha⟩:=ha
 refine⟨_,ym p hc hm F1 hr hb .nil qu pa hst hpl ht,λA δ μ O α σ H Q E k=>?_⟩
 refine ho A δ μ O α σ H _ E (aZ (bh k) λr z v O1 α1 H1 T1 S1 r1=>?_)
 obtain⟨p1,p2⟩:=r
 match p1,z,r1 with
 | .h kk,z,r1 =>
  obtain⟨l,hl',rfl⟩:=r1.hinv
  obtain⟨ob,g1,g2⟩:=S1.at_ kk l hl'
  dsimp only at z
  rw[g1] at z
  match ob,z,g2 with
  | .ins c' fs,z,g2 =>
   obtain⟨_,_,C',dx,vfs,hN',g4,g5,g6⟩:=g2
   dsimp only at z
   by_cases hcc:c'=c/\fs.lookup m=none
   ·rw[if_pos hcc] at z
    have zz:=z
    obtain⟨rfl,hlk⟩:=hcc
    have hC:C'=C:=by
     simp_all
    subst hC
    refine⟨l,dx,vfs,rfl,g4,sw g5 hlk,?_⟩
    have E1:=E.go T1 S1
    have k1:=bh zz
    refine ha A δ p2 O1 α1 σ H1 _ E1 ?_
    cases e1:fa δ p2 with
    | none=>rw[e1] at k1;assumption
    | some r =>
     rw[e1] at k1
     cases r with
     | error x=>exact Er.go T1 k1
     | ok r =>
      refine λvs O2 α2 H2 T2 S2 rs=>?_
      refine⟨A.R0,O2,α2,r.2,.h kk::r.1,?_,S2,?_,aZ (tS k1) λq y v O3 α3 H3 T3 S3 rv=>y v O3 α3 H3 (T1.trans (T2.trans T3)) S3 rv⟩
      ·rw[Z7,θ,rs.length,hl δ p2 r e1];exact hn
      ·rw[Z7];exact .cons (.h (T2.ex _ _ hl')) rs
   ·rw[if_neg hcc] at z;exact z.elim
structure MkS(P:Program)(w:World)(K:ε)(mg:Str->Option Value)(base:Heap)(k:Nat)(c:Str)(n:Nat)(F:List Val->Sto->R (Val×Sto)):Prop where
 ex:∃(C f:Addr) (fd:FuncData) (ps:List Str),ο K mainGlobals c=some (some (.ref C))/\mg c=some (.ref C)/\Mk K C f/\FnOk P w K mg base CX0 k f fd ps (spS K mg n F)/\eR K fd ps []
noncomputable def sMk(c:Str)(F:List Val->Sto->R (Val×Sto))(fa:aD->Sto->R (List Val×Sto)):aD->Sto->R (Val×Sto):=λδ μ=>(fa δ μ).thn λr=>(zI (F (.h r.2.length::r.1) (r.2++[.ins c []]))).thn λq=>match q.1 with
 | .d .none=>R.ret (.h r.2.length,q.2)
 | _=>none
end
end SL
namespace L2
open PyProof.Rows PySem.W
theorem bD.erase:∀{xs:List V} {its:List Value} (j:Nat),bD xs its->bD (xs.eraseIdx j) (its.eraseIdx j)
 | [],[],_,.nil=>.nil
 | _::_,_::_,0,.cons _ r=>r
 | _::_,_::_,j+1,.cons h r=>.cons h (bD.erase j r)
theorem ss{α β:Type}(f:α->β):∀(l:List α) (j:Nat),(l.eraseIdx j).map f=(l.map f).eraseIdx j
 | [],_=>rfl
 | _::_,0=>rfl
 | a::l,j+1=>by
  show f a::(l.eraseIdx j).map f=f a::(l.map f).eraseIdx j
  rw[ss f l j]
theorem sE(k:Int):∀(is:List Int) (i:Nat),i<is.idxOf k->is[i]? ≠ some k
 | [],i,h,z=>by cases z
 | a::is,i,h,z=>by
  rw[List.idxOf_cons] at h
  by_cases e:a=k
  ·simp_all
  ·rw[show(a==k)=false from beq_eq_false_iff_ne.mpr e] at h
   have h:i<is.idxOf k+1:=h
   cases i with
   | zero=>simp_all
   | succ i=>exact sE k is i (by omega) z
def Dk:V->List V->Hp->VK->Prop:=λx vs H Q=>∃(l:Addr) (is:List Int) (k:Int),x=.ref l/\vs=[.int k]/\H l=some (.lst (is.map V.int))/\k∈is/\Q .non (upd H l (.lst ((is.eraseIdx (is.idxOf k)).map V.int)))
section
variable{X:Cx}
theorem m5:∀{is:List Int} {its:List Value},bD (is.map V.int) its->kf_ints its=true/\its.length=is.length/\∀(i:Nat) (k:Int),is[i]?=some k->∃t,its[i]?=some (.int k t)
 | [],_,.nil=>⟨rfl,rfl,λi k h=>by cases h⟩
 | i::is,_,.cons h r=>by
  obtain⟨t,rfl⟩:=h
  obtain⟨h1,h2,h3⟩:=m5 r
  refine⟨h1,by simp_all,λj k h=>?_⟩
  cases j with
  | zero=>simp_all
  | succ j=>simp_all
theorem zK:MtM X "list.remove" Dk:=by
 intro pins s σ H x vs v us Q I rx rv h
 obtain⟨l,is,k,rfl,rfl,hH,hm,q⟩:=h
 cases rx
 obtain⟨u,rfl,ru⟩:=rv.one
 obtain⟨t,rfl⟩:=ru
 obtain⟨z,its,n,r,hl,e⟩:=I.lstM hH
 obtain⟨h1,h2,h3⟩:=m5 r
 have hj:= List.idxOf_lt_length_of_mem hm
 have hji:is.idxOf k<its.length:=by omega
 have at_:∀(i:Nat) (hi:i<its.length),∃t,its[i]=.int (is[i]'(by omega)) t:=λi hi=>by
  obtain⟨t,ht⟩:=h3 i _ (Y1 (by omega))
  grind
 refine call_meets F.slot_list_remove ⟨_,e,rfl⟩ F.entry_list_remove (F.args_list_remove_2 _ _)
  (MeetsSeq.list_remove l its.toArray n (.int k t) (isInt k) (λy hy=>kf_eq h1 y (by simp_all)) (is.idxOf k) (by exact hji) ?_ ?_ (by simp_all)) ⟨e,?_⟩
 ·obtain⟨t',ht⟩:=at_ (is.idxOf k) hji
  show isInt k its[is.idxOf k]=true
  rw[ht,List.getElem_idxOf hj]
  simp [isInt]
 ·intro i hi hlt
  have hi2:i<its.length:=by exact hi
  obtain⟨t',ht⟩:=at_ i hi2
  show isInt k its[i]=false
  rw[ht]
  have:is[i]'(by omega)≠k:=λz=>sE k is i hlt (by simp_all)
  simp [isInt,this]
 ·refine⟨.non,_,I.lset hH e ?_ (by rw[ss];exact r.erase _) ?_,rfl,q⟩
  all_goals grind
end
end L2
namespace SL
open PyProof.Rows L2 DL
noncomputable def oM:List Val->Option (List Int)
 | []=>some []
 | .d (.int i)::r=>(oM r).map (i :: ·)
 | _=>none
section
variable{K:ε}{O:List Addr}{α:List (Option Addr)}{H:Hp}
theorem qP:∀{xs:List Val} {is:List Int} {vs:List V},oM xs=some is->VRs K O α H vs xs->vs=is.map V.int
 | [],is,_,h,.nil=>by cases h;rfl
 | x::xs,is,_,h,.cons r rs=>by
  match x,h,r with
  | .d (.int i),h,r =>
   have h:(oM xs).map (i :: ·)=some is:=h
   cases e:oM xs with
   | none=>simp_all
   | some q =>
    rw[e] at h
    cases h
    rw[qP e rs,r.dinv.int_inv]
    rfl
theorem sD:∀(is:List Int),oM (is.map λi=>Val.d (.int i))=some is
 | []=>rfl
 | i::is=>by
  show(oM (is.map λi=>Val.d (.int i))).map (i :: ·)=_
  rw[sD is]
  rfl
theorem uN:∀(is:List Int),VRs K O α H (is.map V.int) (is.map λi=>Val.d (.int i))
 | []=>.nil
 | i::is=>.cons (.d (.int i)) (uN is)
end
section
variable{X:Cx}{G:XD->Hp->Prop}{a b o e ix tg:Expr}{es:List Expr}{pos pos' apos cpos p tpos:Pos}{fo fi f fe:aD->Sto->R (Val×Sto)}{fa:aD->Sto->R (List Val×Sto)}
noncomputable def De(fo f:aD->Sto->R (Val×Sto)):aD->Sto->R (Val×Sto):=λδ μ=>(fo δ μ).thn λr=>match r.1 with
 | .h k=>match r.2[k]? with
  | some (.lst _)=>(f δ r.2).thn λq=>match q.1,q.2[k]? with
   | .d (.int n),some (.lst xs)=>match oM xs with
    | some is=>if n∈is then R.ret (.d .none,q.2.set k (.lst ((is.eraseIdx (is.idxOf n)).map λi=>Val.d (.int i)))) else none
    | none=>none
   | _,_=>none
  | _=>none
 | _=>none
theorem sx_rem(ho:SX X G o fo)(he:SX X G e f)
  (hst:starEach [e] X.env=(false,eval e X.env)::starEach [] X.env:=by rfl)
  (hbase:attributeBase o "remove" X.env (eval o X.env)=eval o X.env:=by rfl)
  (hfew:((backTo cpos (starEach [e] X.env)).all (λx=>!x.1)&&(backToKw cpos (keywordEach [] X.env)).all (λx=>x.1.isSome)
   && decide ([e].length+([]:List Keyword).length+(if ([]:List Keyword).isEmpty then 0 else 1)<30))=true:=by rfl)
  (hline:(apos.endLine==cpos.line)=true:=by rfl) (hplain:(backTo cpos (starEach [] X.env)).any (·.1)=false:=by rfl) :
  SX X G (.Call (.Attribute o "remove" apos) [e] [] cpos) (De fo f):=by
 obtain⟨t,p,ho⟩:=ho
 obtain⟨u,q,he⟩:=he
 refine⟨_,vA PySem.F.plainAttrs_list PySem.F.slot_list_remove PySem.F.type_list_remove zK p (gZ q kK hst) hbase hfew hline hst hplain,λA δ μ O α σ H Q E k=>?_⟩
 refine ho A δ μ O α σ H _ E (aZ (bh k) λr z v O1 α1 H1 T1 S1 r1=>?_)
 obtain⟨p1,p2⟩:=r
 match p1,z,r1 with
 | .h k,z,r1 =>
  obtain⟨l,hl,rfl⟩:=r1.hinv
  obtain⟨ob,g1,g2⟩:=S1.at_ k l hl
  dsimp only at z
  rw[g1] at z
  match ob,z,g2 with
  | .lst xs0,z,g2 =>
  refine⟨.inl ⟨rfl,_,.inl (.inl g2.2.2.choose_spec.1)⟩,?_⟩
  refine he A δ p2 O1 α1 σ H1 _ (E.go T1 S1) (aZ (cJ (bh z) λx μ h=>Er.go T1 h) λq y w O2 α2 H2 T2 S2 r2=>?_)
  obtain⟨q1,q2⟩:=q
  have hl2:=T2.ex _ _ hl
  obtain⟨ob,g1,g2⟩:=S2.at_ k l hl2
  rw[g1] at y
  match q1,ob,y,g2,g1,r2 with
  | .d (.int n),.lst xs,y,g2,g1,r2 =>
   obtain⟨_,_,vs,g3,g4⟩:=g2
   dsimp only at y
   cases hi:oM xs with
   | none=>rw[hi] at y;exact y.elim
   | some is =>
    rw[hi] at y
    dsimp only at y
    by_cases hm:n∈is
    ·rw[if_pos hm] at y
     have hvs:=qP hi g4
     subst hvs
     have hw:=r2.dinv.int_inv
     subst hw
     exact⟨l,is,n,rfl,rfl,g3,hm,y .non O2 α2 _ (T1.trans (T2.trans (Go.setL hl2))) (S2.setL hl2 g1 (uN _)) (.d .non)⟩
    ·rw[if_neg hm] at y;exact y.elim
end
end SL
namespace L2
open PyProof.Rows PySem.W
section
variable{X:Cx}
end
end L2
namespace DL
open PyProof.Rows L2
section
variable{X:Cx}{G:XD->Hp->Prop}{e o:Expr}{es:List Expr}{f:DS->M D}{fa:DS->M (List D)}{pos pos' p p' apos:Pos}
end
end DL
namespace SL
open PyProof.Rows L2 DL
section
variable{X:Cx}{G:XD->Hp->Prop}{a e tg:Expr}{pos p ipos:Pos}{body:List Stmt}
end
end SL
namespace DL
open PyProof.Rows L2
section
variable{X:Cx}{G:XD->Hp->Prop}{f:DS->M D}{c:DS->M Bool}{fi:DS->M (List D)}{t:D->DS->Option DS}
end
end DL
namespace SL
open PyProof.Rows L2 DL
section
variable{X:Cx}{G:XD->Hp->Prop}
end
end SL
namespace L2
open PyProof.Rows
section
open AutoSeq1 (wpAny_loadPart')
end
section
variable{prog:Program}{w:World}{A:Around}{E:Value->Shared->Prop}{s:Shared}
end
section
variable{X:Cx}{elts:List Expr}{x1:Nat}{tpos:Pos}
end
end L2
namespace DL
open PyProof.Rows L2
section
variable{X:Cx}{G:XD->Hp->Prop}{a e:Expr}{f:DS->M D}{fa:DS->M (List D)}{p pos kp kpos tpos:Pos}{elts:List Expr}{x1:Nat}{K:ε}{O:List Addr}{H1:Hp}
end
end DL
namespace DL
open PyProof.Rows L2
section
variable{X:Cx}{G:XD->Hp->Prop}{a b o ix e:Expr}{f g:DS->M D}{pos pos' np:Pos}{i:Nat}{x:Str}
theorem pJ{K:ε}{O:List Addr}{H:Hp}:∀{kvs:List (Key×V)} {es:List (Key×D)} {k:Key},kvs.map (·.1)=es.map (·.1)->fC es k=none->iZ kvs k=none
 | [],[],_,_,_=>rfl
 | [],_::_,_,hk,_=>by cases hk
 | _::_,[],_,hk,_=>by cases hk
 | p::kvs,e::es,k,hk,h=>by
  simp only[Δ,List.cons.injEq] at hk
  by_cases c:e.1=k
  ·have:fC (e::es) k=some e.2:=by simp [fC,W5,c]
   simp_all
  ·have:fC (e::es) k=fC es k:=by simp [fC,W5,c]
   rw[this] at h
   rw[kB (by simp_all)]
   exact pJ (K:=K) (O:=O) (H:=H) hk.2 h
theorem qI{K:ε}{O:List Addr}{H:Hp}{y:D}{kk:Key}{u:V}(hy:cN y=some kk)(ry:Rep K O H u y):u=kV kk:=by
 rw[og hy] at ry
 cases kk with
 | inl i=>exact ry.int_inv
 | inr s=>exact ry.str_inv
end
end DL
namespace SL
open PyProof.Rows L2 DL
section
variable{K:ε}{mg:Str->Option Value}{A:An}{R0 O O':List Addr}{α:List (Option Addr)}{H:Hp}{μ:Sto}
theorem SR.newO(S:SR K mg R0 O α H μ){l:Addr}{o:HO}{ob:Ob}(hl:H l=none)(hm:Mu (upd H l o) l)(r:l∉R0->OR K mg R0 (l::O) (α++[some l]) (upd H l o) l ob):SR K mg R0 (l::O) (α++[some l]) (upd H l o) (μ++[ob]):=by
 have T:To O (l::O) H (upd H l o):=To.own hl
 have e:∀(k:Nat) (a:Addr),α[k]?=some (some a)->(α++[some l])[k]?=some (some a):=λk a h=>by
  rw[Z0 (ω.mp h).1];exact h
 have cs:∀(k:Nat) (a:Addr),(α++[some l])[k]?=some (some a)->α[k]?=some (some a)\/(k=α.length/\a=l):=λk a h=>by
  by_cases hk:k<α.length
  ·rw[Z0 hk] at h;exact .inl h
  ·rw[Ψ (by omega)] at h
   have h0:k-α.length=0:=by
    have:=(ω.mp h).1
    simp at this
    omega
   rw[h0] at h
   simp at h
   exact .inr ⟨by omega,h.symm⟩
 have ne:∀(k:Nat) (a:Addr),α[k]?=some (some a)->a≠l:=λk a h z=>by
  obtain⟨o,h3,_⟩:=S.tracked h
  rw[z,hl] at h3;cases h3
 refine⟨by rw[ζ,ζ,S.len];rfl,λi j a h1 h2=>?_,λb hb=>?_,λb hb=>χ _ (S.sub b hb),λk a h=>?_⟩
 ·rcases cs i a h1 with h1 | ⟨h1,z⟩<;>rcases cs j a h2 with h2 | ⟨h2,z2⟩
  ·exact S.nd i j a h1 h2
  ·exact absurd z2 (ne i a h1)
  ·exact absurd z (ne j a h2)
  ·omega
 ·rcases Θ.mp hb with rfl | hb
  ·exact hm
  ·exact(S.oo b hb).new hl
 ·rcases cs k a h with h | ⟨rfl,rfl⟩
  ·obtain⟨ob,h1,h2⟩:=S.at_ k a h
   exact⟨ob,by rw[Z0 (ω.mp h1).1];exact h1,h2.to T e (λz=>χ _ z) (upd_ne (ne k a h))⟩
  ·refine⟨ob,by rw[S.len,Ψ (ρ _),V1];rfl,r λz=>?_⟩
   obtain⟨o,ho⟩:=(S.oo a (S.sub a z)).some
   rw[hl] at ho;cases ho
theorem SR.setO(S:SR K mg R0 O α H μ){k:Nat}{a:Addr}{o:HO}{ob0 ob:Ob}(h:α[k]?=some (some a))(hk:μ[k]?=some ob0)(T:To O O H (upd H a o))(hm:Mu (upd H a o) a)(r:OR K mg R0 O α (upd H a o) a ob):SR K mg R0 O α (upd H a o) (μ.set k ob):=by
 refine⟨by rw[Y5];exact S.len,S.nd,λl hl=>?_,S.sub,λj b hj=>?_⟩
 ·by_cases e:l=a
  ·subst e;exact hm
  ·exact(S.oo l hl).upd_ne e
 ·by_cases e:j=k
  ·subst e
   rw[h] at hj
   cases hj
   exact⟨ob,by rw[bM,if_pos rfl,if_pos (ω.mp hk).1],r⟩
  ·obtain⟨ob,g1,g2⟩:=S.at_ j b hj
   have hb:b≠a:=λz=>e (S.nd j k a (z▸hj) h)
   exact⟨ob,by rw[bM,if_neg (λz=>e z.symm)];exact g1,g2.to T (λ_ _ h=>h) (λz=>z) (upd_ne hb)⟩
noncomputable def vx(es:List (Key×Val))(k:Key)(d:Val):List (Key×Val) :=
 if (es.any λe=>decide (e.1=k))=true then es.map (λe=>if e.1=k then (e.1,d) else e) else es++[(k,d)]
theorem put_vr{kvs:List (Key×V)}{es:List (Key×Val)}{k:Key}{v:V}{d:Val}(hk:kvs.map (·.1)=es.map (·.1))(r:VRs K O α H (kvs.map (·.2)) (es.map (·.2)))(rv:VR K O α H v d) :
  (ig kvs k v).map (·.1)=(vx es k d).map (·.1)/\VRs K O α H ((ig kvs k v).map (·.2)) ((vx es k d).map (·.2)):=by
 unfold ig vx
 rw[rH k hk]
 by_cases c:(es.any λe=>decide (e.1=k))=true
 ·rw[if_pos c,if_pos c]
  clear c
  induction kvs generalizing es with
  | nil=>cases es with
   | nil=>exact⟨rfl,.nil⟩
   | cons e es=>cases hk
  | cons p kvs ih=>cases es with
   | nil=>cases hk
   | cons e es =>
    simp only[Δ,List.cons.injEq] at hk
    rw[Δ,Δ] at r
    cases r with
    | cons r1 rs =>
     obtain⟨i1,i2⟩:=ih hk.2 rs
     simp only[Δ]
     by_cases c:e.1=k
     ·rw[if_pos c,if_pos (by rw[hk.1];exact c)]
      exact⟨by rw[i1];simp [hk.1],.cons rv i2⟩
     ·rw[if_neg c,if_neg (by rw[hk.1];exact c)]
      exact⟨by rw[i1];simp [hk.1],.cons r1 i2⟩
 ·rw[if_neg c,if_neg c,Z3,Z3,Z3,Z3,hk]
  exact⟨rfl,r.append (.cons rv .nil)⟩
end
section
variable{X:Cx}{G:XD->Hp->Prop}{a b o e ix:Expr}{es rest:List Expr}{pos pos' lp tpos:Pos}{fo fi f:aD->Sto->R (Val×Sto)}
noncomputable def qc(fo fi f:aD->Sto->R (Val×Sto)):SG:=λ_ δ μ=>(f δ μ).thn λr=>(fo δ r.2).thn λp=>match p.1 with
 | .h k=>(fi δ p.2).thn λq=>match q.1 with
  | .d y=>match cN y,q.2[k]? with
   | some kk,some (.dct es)=>if es.length<1000000 then R.ret (.nx δ (q.2.set k (.dct (vx es kk r.1)))) else none
   | _,_=>none
  | _=>none
 | _=>none
theorem o4(hu:X.A.units+1<cLine)(ho:SX X G o fo)(hi:SX X G ix fi)(he:SX X G e f)(hs:swapsWith e (some (.Subscript o ix pos')) pos.line X.env=pure false:=by rfl):SS X G (.Assign [.Subscript o ix pos'] e pos) (qc fo fi f):=by
 obtain⟨t,p,he⟩:=he
 obtain⟨u,q,hi⟩:=hi
 obtain⟨w,pw,ho⟩:=ho
 refine⟨_,Du hu pw q p hs,λA δ μ O α σ H Dn E k=>?_⟩
 refine he A δ μ O α σ H _ E (aZ (cJ (bh k) λx μ h=>Er.go E.st h) λr z v O1 α1 H1 T1 S1 r1=>?_)
 have E1:=E.go T1 S1
 refine ho A δ r.2 O1 α1 σ H1 _ E1 (aZ (cJ (bh z) λx μ h=>Er.go E1.st h) λpp y ov O2 α2 H2 T2 S2 r2=>?_)
 have E2:=E1.go T2 S2
 obtain⟨pv,pμ⟩:=pp
 match pv,y,r2 with
 | .h kk,y,r2 =>
  obtain⟨l,q3,rfl⟩:=r2.hinv
  refine hi A δ pμ O2 α2 σ H2 _ E2 (aZ (cJ (bh y) λx μ h=>Er.go E2.st h) λqq y kv O3 α3 H3 T3 S3 r3=>?_)
  obtain⟨qv,qμ⟩:=qq
  match qv,y,r3 with
  | .d yd,y,r3 =>
   dsimp only at y
   split at y
   ·rename_i ky es hq hk
    have q3':=T3.ex _ _ q3
    obtain⟨ob,g1,g2⟩:=S3.at_ kk l q3'
    rw[hk] at g1
    cases g1
    obtain⟨g3,g4,kvs,g5,g6,g7⟩:=g2
    by_cases hl:es.length<1000000
    ·rw[if_pos hl] at y
     have r1':=(r1.to (T2.to S1) T2.ex).to (T3.to S2) T3.ex
     obtain⟨p1,p2⟩:=put_vr (k:=ky) g6 g7 r1'
     have hlen:kvs.length=es.length:=by
      have:=congrArg V8 g6
      rwa[ι,ι] at this
     have T4:To O3 O3 H3 (upd H3 l (.dK (ig kvs ky v))):=To.setD g5 g3
     refine⟨l,_,rfl,.inl ⟨kvs,ky,g5,qI hq r3.dinv,by rw[hlen,sizeLine_eq];omega,rfl⟩,?_⟩
     exact y O3 α3 σ _ ((E2.go T3 S3).go (Go.setL q3') (S3.setO q3' hk T4 (Mu.dct aN) ⟨g3,g4,_,aN,p1,p2.to T4 λ_ _ h=>h⟩)) (T1.trans (T2.trans (T3.trans (Go.setL q3'))))
    ·rw[if_neg hl] at y;exact y.elim
   ·exact y.elim
theorem pE{n:Nat}{δ:aD}{μ μ1 μ2 μ3:Sto}{v:Val}{k:Nat}{y:D}{kk:Key}{es:List (Key×Val)}(h1:f δ μ=R.ret (v,μ1))(h2:fo δ μ1=R.ret (.h k,μ2))(h3:fi δ μ2=R.ret (.d y,μ3))(hy:cN y=some kk)(h4:μ3[k]?=some (.dct es))(h5:es.length<1000000):qc fo fi f n δ μ=R.ret (.nx δ (μ3.set k (.dct (vx es kk v)))):=by
 unfold qc
 rw[h1,ck,h2,ck]
 dsimp only
 rw[h3,ck]
 dsimp only
 rw[hy,h4]
 dsimp only
 rw[if_pos h5]
noncomputable def AJ:aD->Sto->R (Val×Sto):=λ_ μ=>R.ret (.h μ.length,μ++[.dct []])
theorem C2:SX X G (.Dict [] [] lp) AJ:=by
 refine⟨_,Bd,λA δ μ O α σ H Q E k p hp=>?_⟩
 have k:∀v O' α' H',Go O α H O' α' H'->SR X.K X.mg A.R0 O' α' H' (μ++[.dct []])->VR X.K O' α' H' v (.h μ.length)->Q v H':=k
 exact k _ _ _ _ (Go.newL hp) (E.sr.newO hp (Mu.dct aN) λz=>⟨υ,z,[],aN,rfl,.nil⟩) (.h E.sr.at_new)
noncomputable def r8(fp:DS->M (List (Key×D))):aD->Sto->R (Val×Sto):=λδ μ=>(ofM (fp (viewN 4 μ δ)) μ).thn λes=>if es.length<=15/\bj (es.map (·.2))=true then R.ret (.h μ.length,μ++[.dct ((jR [] es).map λe=>(e.1,.d e.2))]) else none
end
section
variable{X:Cx}{G:XD->Hp->Prop}{a b e:Expr}{rest:List Expr}{pos:Pos}
noncomputable def sBl(f:aD->Sto->R (Val×Sto)):aD->Sto->R (Bool×Sto):=λδ μ=>(f δ μ).thn λr=>match r.1 with
 | .d (.bool b)=>R.ret (b,r.2)
 | _=>none
theorem yS{f:aD->Sto->R (Val×Sto)}{δ:aD}{μ μ':Sto}{b:Bool}(h:f δ μ=R.ret (.d (.bool b),μ')):sBl f δ μ=R.ret (b,μ'):=by
 unfold sBl;rw[h];rfl
def SW(X:Cx)(G:XD->Hp->Prop)(e:Expr)(f:aD->Sto->R (Bool×Sto)):Prop :=
 ∃t,PW X e t/\∀(A:An) (δ:aD) (μ:Sto) (O:List Addr) (α:List (Option Addr)) (σ:L2.St) (H:Hp) (Q:Bool->Hp->Prop),SEv X.K X.mg A O α H σ δ μ->okR (Er X.K X.mg G A.R0 O α H) (f δ μ) (λr=>∀O' α' H',Go O α H O' α' H'->SR X.K X.mg A.R0 O' α' H' r.2->Q r.1 H')->t σ H Q
noncomputable def sOr(fa fb:aD->Sto->R (Bool×Sto)):aD->Sto->R (Bool×Sto):=λδ μ=>(fa δ μ).thn λr=>if r.1=true then R.ret (true,r.2) else fb δ r.2
theorem AC{fa}(h:ST X G a fa):SW X G (.BoolOp .Or [a] pos) fa:=by
 obtain⟨t,p,h⟩:=h
 exact⟨t,AR p,h⟩
theorem sw_or{fa fb}(h:ST X G a fa)(h2:SW X G (.BoolOp .Or (b::rest) pos) fb):SW X G (.BoolOp .Or (a::b::rest) pos) (sOr fa fb):=by
 obtain⟨t,p,h⟩:=h
 obtain⟨u,q,h2⟩:=h2
 refine⟨_,pw_or p q,λA δ μ O α σ H Q E k=>?_⟩
 refine h A δ μ O α σ H _ E (aZ (bh k) λr z O1 α1 H1 T1 S1=>?_)
 by_cases c:r.1=true
 ·rw[if_pos c] at z
  show if r.1=true then Q true H1 else _
  rw[if_pos c]
  exact z O1 α1 H1 T1 S1
 ·rw[if_neg c] at z
  show if r.1=true then Q true H1 else _
  rw[if_neg c]
  exact h2 A δ r.2 O1 α1 σ H1 Q (E.go T1 S1) (aZ (cJ z λx μ h=>Er.go T1 h) λq y O2 α2 H2 T2 S2=>y O2 α2 H2 (T1.trans T2) S2)
noncomputable def sNo:SG:=λ_ _ _=>none
theorem j9{st:Stmt}:SS X G st sNo:=⟨λ_ _ _=>False,λ_ _ _ _ _ _ h=>h.elim,λ_ _ _ _ _ _ _ _ _ k=>k.elim⟩
end
end SL
namespace DL
open PyProof.Rows L2
structure KD(P:Program)(w:World)(K:ε)(a:Addr)(kvs:List (Key×V)):Prop where
 z:kvs.length<=sizeLine
 hd:(a==sysModules)=false
 at_:∀h:Heap,K.In h->∃vs,KV kvs vs/\h.DictOf (ci P w) a vs
structure KDD(P:Program)(w:World)(K:ε)(a:Addr)(es:List (Key×D)):Prop where
 ex:∃kvs,KD P w K a kvs/\kvs.map (·.1)=es.map (·.1)/\∀(O:List Addr) (H:Hp),Reps K O H (kvs.map (·.2)) (es.map (·.2))
section
variable{X:Cx}{G:XD->Hp->Prop}{i:Expr}{x:Str}{pos np apos cpos:Pos}{ty:TE}{a:Addr}{kvs:List (Key×V)}{es:List (Key×D)}{g:DS->M D}
theorem DA(T:KD X.prog X.w X.K a kvs)(hg:Gl X x)(hm:X.mg x=some (.ref a))(hi:PE X i ty)(hs:CQ i)(hd:(x==("__debug__" : Str))=false:=by decide) :
  PE X (.Subscript (.Name x np) i pos) (λσ H Q=>ty σ H λy H2=>∃k v,y=kV k/\iZ kvs k=some v/\Q v H2):=by
 intro pins s σ H Q I h
 refine yc PySem.F.slot_dict_getitem.lookup hs (thn (lx (v:=.ref a) hg hm rfl hd pins s σ H (λv H1=>v=.ref a/\ty σ H1 λy H2=>∃k v,y=kV k/\iZ kvs k=some v/\Q v H2) I ⟨rfl,h⟩) λu s1 ⟨x,H1,I1,rx,ex,q1⟩=>thn (hi pins s1 σ H1 _ I1 q1) λiv s2 ⟨y,H2,I2,ry,k,v,ey,l,q2⟩=>?_)
 subst ex ey
 obtain rfl:u=Value.ref a:=rx
 obtain⟨vs,rel,dd⟩:=T.at_ _ I2.kIn
 obtain⟨w',hw,rw'⟩:=kt.some_of (v:=v) (o:=valueAt vs k) (by rw[<-l];exact rel.val k)
 exact⟨dd.typeIs,wpAny_getItem_of (oJ ry) dd.mapOf hw ⟨v,H2,I2.tok _,rw',q2⟩⟩
theorem zC(T:KD X.prog X.w X.K a kvs)(hg:Gl X x)(hm:X.mg x=some (.ref a))(hi:PE X i ty)(hd:(x==("__debug__" : Str))=false:=by decide) :
  PC X .NotIn i (.Name x np) (λσ H Q=>ty σ H λy H2=>∃k,y=kV k/\Q (.bl (!(iZ kvs k).isSome)) H2):=by
 intro pins s σ H Q I h
 refine thn (hi pins s σ H _ I h) λiv s1 ⟨y,H1,I1,ry,k,ey,q1⟩=>thn (lx (v:=.ref a) hg hm rfl hd pins s1 σ H1 (λv H2=>v=.ref a/\Q (.bl (!(iZ kvs k).isSome)) H2) I1 ⟨rfl,q1⟩) λu s2 ⟨x,H2,I2,rx,ex,q2⟩=>?_
 subst ex ey
 obtain rfl:u=Value.ref a:=rx
 obtain⟨vs,rel,dd⟩:=T.at_ _ I2.kIn
 refine wpAny_notIn_of (oJ ry) T.hd dd.mapOf ?_
 rw[<-(rel.val k).isSome_eq]
 exact⟨.bl _,H2,I2.tok _,rfl,q2⟩
theorem A9(T:KD X.prog X.w X.K a kvs)(hg:Gl X x)(hm:X.mg x=some (.ref a))(hi:PE X i ty)(m:M1 X (.Name x np) "get" apos i cpos)(hd:(x==("__debug__" : Str))=false:=by decide) :
  PE X (.Call (.Attribute (.Name x np) "get" apos) [i] [] cpos) (λσ H Q=>ty σ H λy H2=>∃k,y=kV k/\Q ((iZ kvs k).getD .non) H2):=by
 intro pins s σ H Q I h
 refine wpAny_Call_method m.base m.few m.line PySem.F.plainAttrs_dict PySem.F.slot_dict_get PySem.F.type_dict_get (thn (lx (v:=.ref a) hg hm rfl hd pins s σ H (λv H1=>v=.ref a/\ty σ H1 λy H2=>∃k,y=kV k/\Q ((iZ kvs k).getD .non) H2) I ⟨rfl,h⟩) λu s1 ⟨x,H1,I1,rx,ex,q1⟩=>?_)
 subst ex
 obtain rfl:u=Value.ref a:=rx
 obtain⟨vs,rel,dd⟩:=T.at_ _ I1.kIn
 refine⟨dd.typeIs,λb q=>?_,?_⟩
 ·cases q
  obtain⟨ob,_,_,h1,h2,_⟩:=dd
  exact⟨ob,h1,h2.2.1⟩
 rw[m.trees]
 refine Calls.callWith_builtin rfl (Calls.evalArgs_plain (Calls.spliced_cons (thn (hi pins s1 σ H1 _ I1 q1) λiv s2 ⟨y,H2,I2,ry,k,ey,q2⟩=>Calls.spliced_nil ?_)))
 subst ey
 obtain⟨vs,rel,dd⟩:=T.at_ _ I2.kIn
 exact call_meetsIn PySem.F.slot_dict_get dd.typeIs PySem.F.entry_dict_get (PySem.F.args_dict_get_2 _ _) (meets_dict_get (ci X.prog X.w) a (oJ ry) T.hd) ⟨_,dd.mapOf,⟨_,H2,I2.tok _,(rel.val k).getD (show bW V.non Value.none from rfl),q2⟩⟩
noncomputable def CC(es:List (Key×D))(g:DS->M D):DS->M D:=λδ=>(g δ).thn λy=>match cN y with
 | some k=>M.lift (fC es k)
 | none=>none
theorem DI(T:KDD X.prog X.w X.K a es)(hg:Gl X x)(hm:X.mg x=some (.ref a))(hi:PD X G i g)(hs:CQ i)(hd:(x==("__debug__" : Str))=false:=by decide):PD X G (.Subscript (.Name x np) i pos) (CC es g):=by
 obtain⟨kvs,T,hk,rs⟩:=T.ex
 obtain⟨t,p,hi⟩:=hi
 refine⟨_,DA T hg hm p hs hd,λδ O σ H Q E k=>?_⟩
 refine hi δ O σ H _ E (au (ay k) λy z u H2 s2 ry=>?_)
 cases hy:cN y with
 | none=>rw[hy] at z;exact z.elim
 | some kk =>
  rw[hy] at z
  obtain⟨d,hd2,z3⟩:=cq z
  obtain⟨v,h1,h2⟩:=mH hk (rs O H2) hd2
  exact⟨kk,v,qI hy ry,h1,z3 v H2 s2 h2⟩
noncomputable def EN(n:Bool)(es:List (Key×D))(g:DS->M D):DS->M D:=λδ=>(g δ).thn λy=>match cN y with
 | some k=>M.ret (.bool (if n then !(fC es k).isSome else (fC es k).isSome))
 | none=>none
theorem qM{K:ε}{O:List Addr}{H:Hp}{k:Key}(hk:kvs.map (·.1)=es.map (·.1))(r:Reps K O H (kvs.map (·.2)) (es.map (·.2))):(iZ kvs k).isSome=(fC es k).isSome:=by
 cases h:fC es k with
 | none=>rw[pJ (K:=K) (O:=O) (H:=H) hk h];rfl
 | some d=>obtain⟨v,h1,_⟩:=mH hk r h;rw[h1];rfl
theorem Eh{tk:TE}{n:Bool}(hk:kvs.map (·.1)=es.map (·.1))(rs:∀(O:List Addr) (H:Hp),Reps X.K O H (kvs.map (·.2)) (es.map (·.2)))(hi:∀{Hr:Hp} (δ:DS) (O:List Addr) (σ:St) (H:Hp) (Q:VK),Ev X.K Hr O H σ δ->ok (GS G Hr) (g δ) (λd=>∀v H',aM H H'->Rep X.K O H' v d->Q v H')->tk σ H Q)
  {Hr:Hp} {δ:DS} {O:List Addr} {σ:St} {H:Hp} {Q:VK} (E:Ev X.K Hr O H σ δ) (k:ok (GS G Hr) (EN n es g δ) (λd=>∀v H',aM H H'->Rep X.K O H' v d->Q v H')) :
  tk σ H λy H2=>∃k,y=kV k/\Q (.bl (if n then !(iZ kvs k).isSome else (iZ kvs k).isSome)) H2:=by
 refine hi δ O σ H _ E (au (ay k) λy z u H2 s2 ry=>?_)
 cases hy:cN y with
 | none=>rw[hy] at z;exact z.elim
 | some kk =>
  rw[hy] at z
  refine⟨kk,qI hy ry,?_⟩
  rw[qM hk (rs O H2)]
  exact(qw z) _ H2 s2 (.bl _)
noncomputable def uA(es:List (Key×D))(g:DS->M D):DS->M D:=λδ=>(g δ).thn λy=>match cN y with
 | some k=>M.ret ((fC es k).getD .none)
 | none=>none
theorem Bh(T:KDD X.prog X.w X.K a es)(hg:Gl X x)(hm:X.mg x=some (.ref a))(hi:PD X G i g)(m:M1 X (.Name x np) "get" apos i cpos)(hd:(x==("__debug__" : Str))=false:=by decide):PD X G (.Call (.Attribute (.Name x np) "get" apos) [i] [] cpos) (uA es g):=by
 obtain⟨kvs,T,hk,rs⟩:=T.ex
 obtain⟨t,p,hi⟩:=hi
 refine⟨_,A9 T hg hm p m hd,λδ O σ H Q E k=>?_⟩
 refine hi δ O σ H _ E (au (ay k) λy z u H2 s2 ry=>?_)
 cases hy:cN y with
 | none=>rw[hy] at z;exact z.elim
 | some kk =>
  rw[hy] at z
  refine⟨kk,qI hy ry,(qw z) _ H2 s2 ?_⟩
  cases h:fC es kk with
  | none=>rw[pJ (K:=X.K) (O:=O) (H:=H2) hk h];exact .non
  | some d=>obtain⟨v,h1,h2⟩:=mH hk (rs O H2) h;rw[h1];exact h2
end
end DL
namespace SL
open PyProof.Rows L2 DL
section
variable{X:Cx}{G:XD->Hp->Prop}{x:Str}{pos np dp:Pos}{a:Addr}{es:List (Key×D)}
theorem xI{kvs:List (Key×V)}(T:KD X.prog X.w X.K a kvs):eZ X (.type "dict") (λxs H Q=>xs=[.ref a]/\∀l,H l=none->Q (.ref l) (upd H l (.dK kvs))):=by
 intro pins s σ H xs us Q I r h
 obtain⟨rfl,q⟩:=h
 obtain⟨u,rfl,rx⟩:=gU r
 cases rx
 obtain⟨vs,rel,dd⟩:=T.at_ _ I.kIn
 refine kt_call_dict T.hd dd (by rw[<-rel.length];exact T.z) λh' dd' hs=>?_
 refine⟨.ref _,_,I.laid (a:=s.heap.objs.size) (o:=.dK kvs) (t':=s.toks) (λb q hq=>?_) (ρ _) (xD T.z (beq_eq_false_iff_ne.mpr (Ne.symm (Y4 I.big))) rel dd'),rfl,q _ (I.hok.fresh (ρ _))⟩
 exact(hs.2 b (Y4 (Heap.lt_size hq))).trans (Heap.get?_push_of_some _ hq)
noncomputable def wO(es:List (Key×D)):aD->Sto->R (Val×Sto):=λ_ μ=>R.ret (.h μ.length,μ++[.dct (es.map λe=>(e.1,.d e.2))])
theorem AB{y:Str}(T:KDD X.prog X.w X.K a es)(hy:y = "dict")(hgd:Gl X y)(hmd:X.mg y=none)(hg:Gl X x)(hm:X.mg x=some (.ref a))(hd:(x==("__debug__" : Str))=false:=by decide)
  (he:starEach [.Name x np] X.env=(false,eval (.Name x np) X.env)::starEach [] X.env:=by rfl) (hpl:(backTo pos (starEach [] X.env)).any (·.1)=false:=by rfl):SX X G (.Call (.Name y dp) [.Name x np] [] pos) (wO es):=by
 subst hy
 obtain⟨kvs,T,hk,rs⟩:=T.ex
 refine⟨_,si (xI T) hgd hmd rfl (gZ (lx (v:=.ref a) hg hm rfl hd) kK he) (by decide) (by decide) he hpl,λA δ μ O α σ H Q E k=>⟨rfl,λl hl=>?_⟩⟩
 have k:∀v O' α' H',Go O α H O' α' H'->SR X.K X.mg A.R0 O' α' H' (μ++[.dct (es.map λe=>(e.1,.d e.2))])->VR X.K O' α' H' v (.h μ.length)->Q v H':=k
 refine k _ _ _ _ (Go.newL hl) (E.sr.newO hl (Mu.dct aN) λz=>⟨υ,z,kvs,aN,?_,?_⟩) (.h E.sr.at_new)
 ·rw[hk,X0];rfl
 ·have:=VRs.data (α:=α++[some l]) (rs (l::O) (upd H l (.dK kvs)))
  rw[X0] at this ⊢
  exact this
end
end SL
namespace SL
open PyProof.Rows L2 DL
section
variable{X:Cx}{G:XD->Hp->Prop}{lp:Pos}{ks:List (Option Expr)}{vs:List Expr}{fp:DS->M (List (Key×D))}
theorem ya(hp:PDP X G lp ks vs fp)(hall:ks.all (·.isSome)=true)(hl:ks.length=vs.length)(h0:ks≠[])(h15:ks.length<=15):SX X G (.Dict ks vs lp) (r8 fp):=by
 obtain⟨trs,pp,hp⟩:=hp
 refine⟨_,DB pp hall hl h0 h15,λA δ μ O α σ H Q E k p hpn=>?_⟩
 refine hp _ (p::A.R0) σ _ _ (E.viewN.ownD hpn) (au (kL E.sr (bh k)) λes z kvs H2 s2 hk rs=>?_)
 by_cases hc:es.length<=15/\bj (es.map (·.2))=true
 ·rw[if_pos hc] at z
  have hp2:H2 p=some (.dK []):=s2 _ _ aN
  have hlen:kvs.length=es.length:=by
   have:=congrArg V8 hk
   rwa[ι,ι] at this
  refine⟨hp2,kvs,rfl,by omega,?_⟩
  have z:∀v O' α' H',Go O α H O' α' H'->SR X.K X.mg A.R0 O' α' H' (μ++[.dct ((jR [] es).map λe=>(e.1,.d e.2))])->VR X.K O' α' H' v (.h μ.length)->Q v H':=z
  have S1:=(E.sr.newO (ob:=.dct []) hpn (Mu.dct aN) λz=>⟨υ,z,[],aN,rfl,.nil⟩).same s2
  obtain⟨m1,m2⟩:=sq (O:=p::O) (kvs:=[]) (es:=[]) hk (rs.flat hc.2) rfl .nil
  have T:To (p::O) (p::O) H2 (upd H2 p (.dK (jd [] kvs))):=To.setD hp2 υ
  have hα:(α++[some p])[μ.length]?=some (some p):=E.sr.at_new
  have S2:=S1.setO (ob:=.dct ((jR [] es).map λe=>(e.1,.d e.2))) (ob0:=.dct []) hα (by rw[Ψ (ρ _),V1];rfl) T (Mu.dct aN) ⟨υ,(λz=>by
   obtain⟨o,ho⟩:=(E.sr.oo p (E.sr.sub p z)).some
   rw[hpn] at ho;cases ho),_,aN,by rw[m1,X0];rfl,by
   have:=VRs.data (α:=α++[some p]) (m2.to T)
   rw[X0] at this ⊢
   exact this⟩
  rw[List.set_append_right _ _ (ρ _),V1] at S2
  exact z _ _ _ _ ((Go.newL hpn).trans ((Go.same s2).trans (Go.setL hα))) S2 (.h hα)
 ·rw[if_neg hc] at z
  exact z.elim
theorem SW.t{e:Expr}{f:aD->Sto->R (Bool×Sto)}(h:SW X G e f):ST X G e f:=by
 obtain⟨t,p,h⟩:=h
 exact⟨_,p.pt,h⟩
theorem EE{δ:aD}{μ:Sto}{es:List (Key×D)}(h:fp (viewN 4 μ δ)=M.ret es)(h1:es.length<=15)(h2:bj (es.map (·.2))=true):r8 fp δ μ=R.ret (.h μ.length,μ++[.dct ((jR [] es).map λe=>(e.1,.d e.2))]):=by
 unfold r8
 rw[h]
 show(if _ then _ else _)=_
 rw[if_pos ⟨h1,h2⟩]
end
end SL
namespace DL
open PyProof.Rows L2
section
variable{X:Cx}{G:XD->Hp->Prop}{e:Expr}{fa:DS->M (List D)}{p pos:Pos}
noncomputable def vH:List D->Option D
 | [.str z]=>some (.str z)
 | ds=>jr ds
theorem Ah:eZ X (.type "str") (λxs H Q=>(∃z,xs=[.str z]/\Q (.str z) H)\/∃i:Int,xs=[.int i]/\i.natAbs.log2<1920/\Q (.str (Str.ofString (toString i))) H):=by
 intro pins s σ H xs us Q I r h
 rcases h with ⟨z,rfl,q⟩ | ⟨i,rfl,hz,q⟩
 ·obtain⟨u,rfl,t,rfl⟩:=gU r
  exact PySem.P.str_of_str ⟨.str z,H,I,⟨t,rfl⟩,q⟩
 ·exact nz pins s σ H _ us Q I r ⟨i,rfl,hz,q⟩
theorem xE:km X (.type "str") vH:=by
 refine⟨_,Ah,λO H ds d vs Q oo rs e k=>?_⟩
 unfold vH at e
 split at e
 ·cases e
  obtain⟨v,rfl,r⟩:=eS rs
  exact .inl ⟨_,by rw[r.str_inv],k _ H (aM.refl H) (.str _)⟩
 ·unfold jr at e
  split at e
  ·rename_i i _
   by_cases hz:i.natAbs.log2<1920
   ·rw[if_pos hz] at e
    cases e
    obtain⟨v,rfl,r⟩:=eS rs
    exact .inr ⟨i,by rw[r.int_inv],hz,k _ H (aM.refl H) (.str _)⟩
   ·rw[if_neg hz] at e;cases e
  ·cases e
noncomputable def pq(fa:DS->M (List D)):DS->M (List D):=λδ=>(fa δ).thn λds=>match ds with
 | [.list es]=>match gO es with
  | some is=>if is.length<64 then M.ret ((Z9 is).map η) else none
  | none=>none
 | _=>none
theorem wY{x:Str}(hx:x = "sorted")(hg:Gl X x)(hm:X.mg x=none)(ha:PDA X G [e] fa)
  (he:starEach [e] X.env=(false,eval e X.env)::starEach [] X.env:=by rfl) (hpl:(backTo pos (starEach [] X.env)).any (·.1)=false:=by rfl):PDN X G (.Call (.Name x p) [e] [] pos) (pq fa):=by
 subst hx
 obtain⟨_,t,pa,ha⟩:=ha
 refine⟨_,ql nA hg hm PyProof.Rows.boot_sorted pa (by decide) (by decide) he hpl,λδ O σ H Q E k=>?_⟩
 refine ha δ O σ H _ E (au (ay k) λds z vs H1 s1 rs=>?_)
 split at z
 ·rename_i es
  split at z
  ·rename_i is he
   by_cases h64:is.length<64
   ·rw[if_pos h64] at z
    obtain⟨v,rfl,r⟩:=eS rs
    obtain⟨a,xs,rfl,h1,rx⟩:=r.lst_inv
    rw[mq he] at rx
    rw[nY rx] at h1
    exact⟨a,is,rfl,h1,h64,λl hl=>(qw z) l _ H1 s1 hl (jN _)⟩
   ·rw[if_neg h64] at z;exact z.elim
  ·exact z.elim
 ·exact z.elim
theorem kS:∀(is:List Int),gO (is.map η)=some is
 | []=>rfl
 | i::is=>by
  show(gO (is.map η)).map (i :: ·)=_
  rw[kS is]
  rfl
theorem xA{δ:DS}{is:List Int}(h:fa δ=M.ret [.list (is.map η)])(hl:is.length<64):pq fa δ=M.ret ((Z9 is).map η):=by
 unfold pq
 rw[h,aQ]
 dsimp only
 rw[show gO (is.map η)=some is from kS is]
 dsimp only
 rw[if_pos hl]
end
end DL
namespace SL
open PyProof.Rows L2 DL
section
variable{X:Cx}{G:XD->Hp->Prop}{e tg:Expr}{p pos:Pos}{c:Str}{f:aD->Sto->R (Val×Sto)}
theorem AA{k:Nat}{F:List Val->Sto->R (Val×Sto)}(h:MkS X.prog X.w X.K X.mg X.base k c 1 F)(hr:Room (k+1) X.A)(hg:Gl X c)(hdb:(c==("__debug__" : Str))=false:=by decide):SX X G (.Call (.Name c p) [] [] pos) (sMk c F jL):=by
 obtain⟨C,f0,fd,ps,hN,hm,M,F1,hb⟩:=h.ex
 refine⟨_,A7 M F1 hr hg hm hb .nil qu hdb,λA δ μ O α σ H Q E k=>?_⟩
 refine λx dx hx hd hne=>?_
 have s1:aM H (upd H dx (.own x)):=bu hd
 have hx2:upd H dx (.own x) x=none:=by rw[upd_ne (Ne.symm hne)];exact hx
 have S2:=(E.sr.same s1).newI (l:=x) (dx:=dx) hN hx2
 have T2:Go O α H (x::O) (α++[some x]) (upd (upd H dx (.own x)) x (.ins C dx [])):=(Go.same s1).trans (Go.newL hx2)
 have k1:okR (Er X.K X.mg G A.R0 O α H) ((zI (F [.h μ.length] (μ++[.ins c []]))).thn λq=>match q.1 with
  | .d .none=>R.ret (.h μ.length,q.2)
  | _=>none) (λr=>∀v O' α' H',Go O α H O' α' H'->SR X.K X.mg A.R0 O' α' H' r.2->VR X.K O' α' H' v r.1->Q v H'):=k
 have k2:=tS (bh k1)
 have ha:(α++[some x])[μ.length]?=some (some x):=E.sr.at_new
 refine⟨A.R0,x::O,α++[some x],μ++[.ins c []],[.h μ.length],rfl,S2,.cons (.h ha) .nil,aZ k2 λq y v O3 α3 H3 T3 S3 rv=>?_⟩
 obtain⟨q1,q2⟩:=q
 match q1,y,rv with
 | .d .none,y,rv =>
  have hv:v=.non:=by
   have:=rv.dinv
   cases this
   rfl
  exact⟨hv,y (.ref x) O3 α3 H3 (T2.trans T3) S3 (.h (T3.ex _ _ ha))⟩
noncomputable def yi(t:D->aD->Option aD)(f:aD->Sto->R (Val×Sto)):SG:=λ_ δ μ=>(f δ μ).thn λr=>match r.1 with
 | .d d=>match t d δ with
  | some δ'=>R.ret (.nx δ' r.2)
  | none=>none
 | _=>none
theorem C5{t:D->aD->Option aD}(hg:SGT X tg t)(he:SX X G e f)
  (hs:swapsWithSole [tg] e pos.line X.env=pure false:=by rfl) (hw:swappedStores [tg] e X.env=pure none:=by rfl)
  (h1:(assignEach [tg] X.env).map (·.2)=[assign tg X.env]:=by rfl):SS X G (.Assign [tg] e pos) (yi t f):=by
 obtain⟨te,pe,he⟩:=he
 obtain⟨u,q,hg⟩:=hg
 refine⟨_,A1 pe q hs hw h1,λA δ μ O α σ H Dn E k=>?_⟩
 refine he A δ μ O α σ H _ E (aZ (cJ (bh k) λx μ h=>Er.go E.st h) λr z v O1 α1 H1 T1 S1 r1=>?_)
 obtain⟨p1,p2⟩:=r
 match p1,z,r1 with
 | .d d,z,r1 =>
  dsimp only at z
  cases ht:t d δ with
  | none=>rw[ht] at z;exact z.elim
  | some δ' =>
   rw[ht] at z
   exact hg A δ δ' d v O1 α1 σ p2 H1 _ (E.go T1 S1) r1.dinv ht λσ' E'=>z O1 α1 σ' H1 E' T1
theorem uo{t:D->aD->Option aD}{n:Nat}{δ δ':aD}{μ μ':Sto}{d:D}(h:f δ μ=R.ret (.d d,μ'))(ht:t d δ=some δ'):yi t f n δ μ=R.ret (.nx δ' μ'):=by
 unfold yi
 rw[h,ck]
 dsimp only
 rw[ht]
end
end SL
namespace DL
open PyProof.Rows L2
section
variable{X:Cx}
noncomputable def ly:List D->Option D
 | [.int i,.int j]=>if decide (0<j/\j<1073741824)=true then some (.tuple [.int (i / j),.int (i % j)]) else none
 | _=>none
theorem j4:km X (.builtin "divmod") ly:=by
 refine⟨_,wy,λO H ds d vs Q oo rs e k=>?_⟩
 unfold ly at e
 split at e
 ·rename_i i j
  by_cases hj:decide (0<j/\j<1073741824)=true
  ·rw[if_pos hj] at e
   cases e
   have hj:=of_decide_eq_true hj
   obtain⟨v,v',rfl,r,r'⟩:=vo rs
   exact⟨i,j,by rw[r.int_inv,r'.int_inv],⟨hj.1,hj.2⟩,λp hp=>k _ _ (bu hp) (.tup (.inl (.inl aN)) (.cons (.int _) (.cons (.int _) .nil)))⟩
  ·rw[if_neg hj] at e;cases e
 ·cases e
end
end DL
namespace DL
open PyProof.Rows L2
section
variable{X:Cx}{G:XD->Hp->Prop}{i:Expr}{x:Str}{pos np:Pos}{a:Addr}{es:List (Key×D)}{g:DS->M D}
theorem wX(T:KDD X.prog X.w X.K a es)(hg:Gl X x)(hm:X.mg x=some (.ref a))(hi:PD X G i g)(hd:(x==("__debug__" : Str))=false:=by decide):PDT X G (.Compare i [.NotIn] [.Name x np] pos) (dB (EN true es g)):=by
 obtain⟨kvs,T,hk,rs⟩:=T.ex
 obtain⟨t,p,hi⟩:=hi
 refine⟨_,pt_cmp (zC T hg hm p hd) rfl,λδ O σ H Q E k=>?_⟩
 refine Eh (n:=true) (Q:=λx H'=>∃c,x=V.bl c/\Q c H') hk rs hi E (au (qx k) λd z v H' s r=>?_)
 obtain⟨b,rfl,z⟩:=z
 exact⟨b,r.bool_inv,z H' s⟩
end
end DL
namespace SL
open PyProof.Rows L2 DL
section
variable{X:Cx}{G:XD->Hp->Prop}{a b:Expr}{pos:Pos}{fo fi:aD->Sto->R (Val×Sto)}
theorem nR{op:CmpOp}{h:D->D->Option D}(hh:DOp X (compareOp op) h)(ha:SX X G a fo)(hb:SX X G b fi)(hm:behindInMarks op b=false):ST X G (.Compare a [op] [b] pos) (sBl (o2 h fo fi)):=by
 obtain⟨rr,hr,hh⟩:=hh
 obtain⟨ta,pa,ha⟩:=ha
 obtain⟨tb,pb,hb⟩:=hb
 refine⟨_,yj hr pa pb hm,λA δ μ O α σ H Q E k=>?_⟩
 refine ha A δ μ O α σ H _ E (aZ (bh (bh k)) λp z v O1 α1 H1 T1 S1 r1=>?_)
 have E1:=E.go T1 S1
 refine hb A δ p.2 O1 α1 σ H1 _ E1 (aZ (cJ (bh z) λx μ h=>Er.go T1 h) λq y u O2 α2 H2 T2 S2 r2=>?_)
 have r1':=r1.to (T2.to S1) T2.ex
 have hn:∀(k:Nat) (a:Addr) (xs:List Val),α2[k]?=some (some a)->0<=k->q.2[k]?=some (.lst xs)->a∉A.R0:=λk a xs h1 _ h2=>by
  obtain⟨ob,h3,h4⟩:=S2.at_ k a h1
  rw[h2] at h3
  cases h3
  exact h4.2.1
 split at y
 ·rename_i x' y' e1 e2
  have c1:=mZ S2 (To.less S2.sub) hn r1' e1
  have c2:=mZ S2 (To.less S2.sub) hn r2 e2
  cases e3:h x' y' with
  | none=>rw[e3] at y;exact y.elim
  | some d =>
   rw[e3] at y
   dsimp only at y
   by_cases hf:dW d=true
   ·rw[if_pos hf] at y
    refine hh A.R0 H2 x' y' d v u _ (λl hl=>S2.oo l (S2.sub l hl)) c1 c2 e3 λv' H' s r=>?_
    match d,r,y with
    | .bool c,r,y=>exact⟨c,r.bool_inv,y O2 α2 H' ((T1.trans T2).trans (Go.same s)) (S2.same s)⟩
   ·rw[if_neg hf] at y;exact y.elim
 ·exact y.elim
end
end SL
namespace DL
open PyProof.Rows L2
noncomputable def Ct(p:Params)(l:List (Str×Tok×Value)):List DictEntry:=l.map λe=>⟨Z2 p e.1,.str e.1 e.2.1,e.2.2⟩
section
variable{P:Program}{w:World}{K:ε}{a:Addr}
theorem sI:∀(l:List (Str×Tok×Value)),∀e∈Ct w.params l,∃k,(ci P w).is k e.key=true/\e.hash=(ci P w).hash k
 | [],e,h=>nomatch h
 | x::l,e,h=>by
  rcases Θ.mp h with rfl | h
  ·exact⟨.inr x.1,kN P w x.1 x.2.1,rfl⟩
  ·exact sI l e h
theorem qZ:∀(l:List (Str×Tok×Value)),Pairs (ci P w) (Ct w.params l) (l.map λe=>((.inr e.1:Key),e.2.2))
 | []=>.nil
 | x::l=>.cons (kN P w x.1 x.2.1) rfl (qZ l)
theorem kv_of:∀{l:List (Str×Tok×Value)} {vs:List V},bD vs (l.map (·.2.2))->KV ((l.map λe=>(.inr e.1:Key)).zip vs) (l.map λe=>((.inr e.1:Key),e.2.2))
 | [],_,.nil=>.nil
 | x::l,_,.cons r rs=>.cons ⟨rfl,r⟩ (kv_of rs)
theorem BU{l:List (Str×Tok×Value)}{vs:List V}{kd:List (Key×D)}{ep:Nat}(hl:X7 a K=some { cls:=.type "dict",data:=.dict (Ct w.params l).toArray ep })
  (hd:(a==sysModules)=false) (hn:(l.map (·.1)).Nodup) (hz:l.length<=1000) (hk:kd.map (·.1)=l.map λe=>(.inr e.1:Key)) (hv:bD vs (l.map (·.2.2))) (hr:∀(O:List Addr) (H:Hp),Reps K O H vs (kd.map (·.2))):KDD P w K a kd:=by
 have hlen:vs.length=l.length:=by have:=hv.length;rwa[ι] at this
 have e1:((l.map λe=>(.inr e.1:Key)).zip vs).map (·.1)=l.map λe=>(.inr e.1:Key):=List.map_fst_zip (by rw[ι];omega)
 have e2:((l.map λe=>(.inr e.1:Key)).zip vs).map (·.2)=vs:=List.map_snd_zip (by rw[ι];omega)
 refine⟨(l.map λe=>(.inr e.1:Key)).zip vs,⟨?_,hd,λh X=>⟨_,kv_of hv,_,_,_,X _ _ hl,⟨rfl,rfl,rfl⟩,rfl,λe he=>sI l e (by simpa using he),by simpa using qZ l,?_⟩⟩,by rw[e1,hk],by rw[e2];exact hr⟩
 ·rw[List.length_zip,ι,sizeLine_eq];omega
 ·rw[X0]
  have:(l.map λe=>(.inr e.1:Key))=(l.map (·.1)).map Sum.inr:=by rw[X0];rfl
  show(l.map λe=>(.inr e.1:Key)).Nodup
  rw[this]
  exact List.Pairwise.map _ (λ_ _ h e=>h (Sum.inr.inj e)) hn
theorem vT{l:List (Str×Tok×Int×Tok)}{kd:List (Key×D)}{ep:Nat}(hl:X7 a K=some { cls:=.type "dict",data:=.dict (Ct w.params (l.map λe=>(e.1,e.2.1,.int e.2.2.1 e.2.2.2))).toArray ep })
  (hd:(a==sysModules)=false) (hn:(l.map (·.1)).Nodup) (hz:l.length<=1000) (hk:kd=l.map λe=>((.inr e.1:Key),.int e.2.2.1)):KDD P w K a kd:=by
 subst hk
 refine BU (vs:=l.map λe=>.int e.2.2.1) hl hd (by rw[X0];exact hn) (by rw[ι];exact hz) (by rw[X0,X0];rfl) ?_ λO H=>?_
 ·clear hl hn hz
  induction l with
  | nil=>exact .nil
  | cons x l ih=>exact .cons ⟨_,rfl⟩ ih
 ·clear hl hn hz
  induction l with
  | nil=>exact .nil
  | cons x l ih=>exact .cons (.int _) ih
def Twos(K:ε):List (Str×Tok×Addr×Int×Int)->Prop
 | []=>True
 | x::l=>(∃t u n,X7 x.2.2.1 K=some { cls:=.type "tuple",data:=.seq #[.int x.2.2.2.1 t,.int x.2.2.2.2 u] n })/\Twos K l
theorem BT{l:List (Str×Tok×Addr×Int×Int)}{kd:List (Key×D)}{ep:Nat}(hl:X7 a K=some { cls:=.type "dict",data:=.dict (Ct w.params (l.map λe=>(e.1,e.2.1,.ref e.2.2.1))).toArray ep })
  (hd:(a==sysModules)=false) (hn:(l.map (·.1)).Nodup) (hz:l.length<=1000) (hk:kd=l.map λe=>((.inr e.1:Key),.tuple [.int e.2.2.2.1,.int e.2.2.2.2])) (ht:Twos K l):KDD P w K a kd:=by
 subst hk
 refine BU (vs:=l.map λe=>.ref e.2.2.1) hl hd (by rw[X0];exact hn) (by rw[ι];exact hz) (by rw[X0,X0];rfl) ?_ λO H=>?_
 ·clear hl hn hz ht
  induction l with
  | nil=>exact .nil
  | cons x l ih=>exact .cons rfl ih
 ·clear hl hn hz
  induction l with
  | nil=>exact .nil
  | cons x l ih =>
   obtain⟨⟨t,u,n,h⟩,ht⟩:=ht
   exact .cons (.tup (xs:=[.int x.2.2.2.1,.int x.2.2.2.2]) (.inr ⟨_,_,_,h,rfl,rfl,by show 2<=_;rw[sizeLine_eq];omega,.cons ⟨_,rfl⟩ (.cons ⟨_,rfl⟩ .nil)⟩) (.cons (.int _) (.cons (.int _) .nil))) (ih ht)
end
end DL
namespace DL
open PyProof.Rows L2
section
variable{X:Cx}
theorem zD(hu:X.A.units+1<cLine):OpR X (compareOp .NotIn) (λx y H Q=>∃a o,y=.ref a/\xV H a x o/\Q (.bl (!o.isSome)) H):=by
 intro pins s σ H x y u v Q I rx ry h
 obtain⟨a,o,rfl,g,q⟩:=h
 cases ry
 exact EM hu I g rx λs' I'=>⟨.bl _,H,I',rfl,q⟩
noncomputable def D7(n:Bool):D->D->Option D
 | y,.dict Y=>match cN y with
  | some k=>if mY (.dict Y)=true then some (.bool (n != (Y.find? λe=>decide (cN e.1=some k)).isSome)) else none
  | none=>none
 | _,_=>none
theorem zX{es:List (Key×D)}{k:Key}:((es.map λe=>(il e.1,e.2)).find? λe=>decide (cN e.1=some k)).isSome=(fC es k).isSome:=by
 unfold fC
 rw[List.find?_map]
 have:((λe:D×D=>decide (cN e.1=some k))∘λe:Key×D=>(il e.1,e.2))=λe:Key×D=>decide (e.1=k):=by
  funext e
  show decide (cN (il e.1)=some k)=_
  rw[qJ]
  simp
 rw[this]
 simp
theorem Es{K:ε}{O:List Addr}{H:Hp}{n:Bool}{x y d:D}{v u:V}(rx:Rep K O H v x)(ry:Rep K O H u y)(e:D7 n x y=some d):∃a o,u=.ref a/\xV H a v o/\d=.bool (n != o.isSome):=by
 unfold D7 at e
 split at e
 ·rename_i Y
  split at e
  ·rename_i k hk
   by_cases hi:mY (.dict Y)=true
   ·rw[if_pos hi] at e
    cases e
    obtain⟨a,kvs,es,rfl,hY,hr,hn,hkk,rv⟩:=ry.dct_inv hi
    subst hY
    exact⟨a,_,rfl,.inl ⟨kvs,k,hr,qI hk rx,rfl⟩,by rw[zX,qM hkk rv]⟩
   ·rw[if_neg hi] at e;cases e
  ·cases e
 ·cases e
theorem xB(hu:X.A.units+1<cLine):DOp X (compareOp .NotIn) (D7 true):=by
 refine⟨_,zD hu,λO H x y d v u Q oo rx ry e k=>?_⟩
 obtain⟨a,o,rfl,g,rfl⟩:=Es rx ry e
 exact⟨a,o,rfl,g,k _ H (aM.refl H) (by cases o.isSome<;>exact .bl _)⟩
end
end DL
namespace CT
open L2 DL SL
noncomputable def ed:List (Key×D):=[(.inr "sign",.int 60),(.inr "least",.int 1000),(.inr "most",.int 7000),(.inr "apart",.int 80),(.inr "shy",.int 200),(.inr "begin",.int 2),(.inr "end",.int 1)]
noncomputable def dF:List (Key×D):=[(.inr "set",.int 3),(.inr "cut",.int 2),(.inr "uncut",.int 2),(.inr "cues",.int 2),(.inr "drop",.int 2),(.inr "show",.int 2),(.inr "broken",.int 2),(.inr "price",.int 2),(.inr "time",.int 3),(.inr "both",.int 6),(.inr "rows",.int 5),(.inr "part",.int 3),(.inr "join",.int 3)]
noncomputable def eF:List (Key×D):=[(.inr "sign",.tuple [.int 0,.int 1000000000]),(.inr "least",.tuple [.int 1,.int 1000000000]),(.inr "most",.tuple [.int 0,.int 1000000000]),(.inr "apart",.tuple [.int 0,.int 1000000000]),(.inr "shy",.tuple [.int 1,.int 1000000000]),(.inr "begin",.tuple [.int 0,.int 99]),(.inr "end",.tuple [.int 0,.int 99])]
noncomputable def jg:DS->M Out:=(ce (fz (d2 oNe (ah 0) (dC (.str ""))) (dCB xf (ag (eB 1 [] (tgN 0) (jl (ah 0)) lW (d2 Bv (ah 0) (dC (.str "0123456789")))) ar))))
noncomputable def bZ:List D->M D:=run 1 jg
noncomputable def jf:DS->M Out:=(ce (fz (d2 oEq (dCB dI (ag (ah 0) ar)) (ah 1)) (aH (λds=>noX (bZ ds)) (ag (ah 0) ar))))
noncomputable def cj:List D->M D:=run 2 jf
noncomputable def iT:DS->M Out:=(bf (gIf (dB (aH (λds=>noX (cj ds)) (ag (ah 0) (ag (dC (.int 2)) ar)))) (ce (dC (.bool true))) bV)
  (ce (fz (fU d0 d0 (dC (.int 3)) (dCB dI (ag (ah 0) ar)) (dC (.int 20))) (fz (aH (λds=>noX (bZ ds)) (ag (ah 0) ar)) (d2 oNe (d2 oIx (ah 0) (dC (.int 0))) (dC (.str "0")))))))
noncomputable def gJ:List D->M D:=run 1 iT
noncomputable def gQ:DS->M Out:=(ce (fz (aH (λds=>noX (cj ds)) (ag (ah 0) (ag (dC (.int 2)) ar))) (d2 oLt (dCB iP (ag (ah 0) ar)) (dC (.int 60)))))
noncomputable def cR:List D->M D:=run 1 gQ
noncomputable def g9:DS->M Out:=(bf (gIf (kq (dB (dIs "str" (ah 0)))) ge bV)
  (bf (cM (eV dh (ah 0) (ag (dC (.str ":")) ar)) (tgN 3))
  (bf (cM (eV dh (d2 oIx (ah 3) (dC (.int 2))) (ag (dC (.str ":")) ar)) (tgN 4))
  (bf (cM (eV dh (d2 oIx (ah 4) (dC (.int 2))) (ag (ah 1) ar)) (tgN 5))
  (bf (gIf (kq (jy (dB (aH (λds=>noX (gJ ds)) (ag (d2 oIx (ah 3) (dC (.int 0))) ar))) (jy (dB (aH (λds=>noX (cR ds)) (ag (d2 oIx (ah 4) (dC (.int 0))) ar))) (dB (aH (λds=>noX (cR ds)) (ag (d2 oIx (ah 5) (dC (.int 0))) ar)))))) ge bV)
  (bf (gIf (kq (dB (aH (λds=>noX (cj ds)) (ag (d2 oIx (ah 5) (dC (.int 2))) (ag (ah 2) ar))))) ge bV)
  (ce (d9 (ag (dCB iP (ag (d2 oIx (ah 3) (dC (.int 0))) ar)) (ag (dCB iP (ag (d2 oIx (ah 4) (dC (.int 0))) ar)) (ag (dCB iP (ag (d2 oIx (ah 5) (dC (.int 0))) ar)) (ag (dCB iP (ag (d2 oIx (ah 5) (dC (.int 2))) ar)) ar))))))))))))
noncomputable def fW:List D->M D:=run 6 g9
noncomputable def gq:DS->M Out:=(bf (cM (aH (λds=>noX (fW ds)) (ag (ah 0) (ag (dC (.str ".")) (ag (dC (.int 3)) ar)))) (tgN 1))
  (bf (cM (d2 bm (d2 kn (dC (.int 60)) (d2 bm (d2 kn (dC (.int 60)) (d2 oIx (ah 1) (dC (.int 0)))) (d2 oIx (ah 1) (dC (.int 1))))) (d2 oIx (ah 1) (dC (.int 2)))) (tgN 2))
  (ce (d2 bm (d2 kn (dC (.int 1000)) (ah 2)) (d2 oIx (ah 1) (dC (.int 3)))))))
noncomputable def eY:List D->M D:=run 3 gq
noncomputable def dJ:DS->M Out:=(ce (aH (λds=>noX (eY ds)) (ag (ah 1) ar)))
noncomputable def bz:List D->M D:=run 2 dJ
noncomputable def iX:SL.SG:=(cA (i5 "Desk" "cues" (cO 0) AJ)
  (cA (i5 "Desk" "clock" (cO 0) (bR (dC (gP "Thousandths" []))))
  (cA (i5 "Desk" "settings" (cO 0) (wO ed))
  (i5 "Desk" "cuts" (cO 0) (r6 (jt ar))))))
noncomputable def eK:List SL.Val->SL.Sto->SL.R (SL.Val×SL.Sto):=SL.mh 1 iX
noncomputable def dr:DS->M Out:=(bf (gIf (kq (dB (dIs "str" (ah 0)))) ge bV)
  (bf (cM (eV dh (ah 0) (ag (dC (.str "\n")) ar)) (tgN 1))
  (bf (cM (eV mf (d2 oIx (ah 1) (dC (.int 0))) (ag (dC (.str " ")) ar)) (tgN 2))
  (bf (gIf (dB (d2 oEq (d2 oIx (ah 2) (dC (.int 0))) (dC (.str "cues")))) (ce (d9 (ag (ah 2) (ag (d2 oIx (ah 1) (dC (.int 2))) ar)))) bV)
  (ce (d9 (ag (eV mf (ah 0) (ag (dC (.str " ")) ar)) (ag (dC (.str "")) ar))))))))
noncomputable def bE:List D->M D:=run 3 dr
noncomputable def ng:DS->M Out:=(bf (gIf (dB (d2 oEq (d2 oIx (ah 0) (dC (.int 0))) (dC (.str "clock")))) (ce (dOrV (d2 oEq (sJ (ah 0) (rn (dC (.int 1))) pG) (kr (ag (dC (.str "thousandths")) ar))) (fz (d2 oEq (dCB dI (ag (ah 0) ar)) (dC (.int 5))) (d2 oEq (d2 oIx (ah 0) (dC (.int 1))) (dC (.str "frames")))))) bV)
  (bf (gIf (dB (d2 oEq (d2 oIx (ah 0) (dC (.int 0))) (dC (.str "move")))) (ce (fz (d2 oGe (dCB dI (ag (ah 0) ar)) (dC (.int 5))) (d2 oEq (d2 gc (dCB dI (ag (ah 0) ar)) (dC (.int 2))) (dC (.int 1))))) bV)
  (ce (d2 oEq (uA dF (d2 oIx (ah 0) (dC (.int 0)))) (dCB dI (ag (ah 0) ar))))))
noncomputable def iM:List D->M D:=run 1 ng
noncomputable def fO:DS->M Out:=(bf (gIf (dB (d2 (D7 true) (ah 1) (d1 (kM "Desk" "cues") (ah 0)))) ge bV)
  (ce (d2 bT (d1 (kM "Desk" "cues") (ah 0)) (ah 1))))
noncomputable def eE:List D->M D:=run 2 fO
noncomputable def gr:DS->M Out:=(ce (d2 bm (d2 kn (dC (.int 2)) (ah 0)) (dC (.int 1))))
noncomputable def bb:List D->M D:=run 1 gr
noncomputable def iR:DS->M Out:=(ce (d2 bm (d2 kn (dC (.int 2)) (ah 0)) (dC (.int 2))))
noncomputable def bX:List D->M D:=run 1 iR
noncomputable def gn:DS->M Out:=(gC (cM (aH (λds=>noX (bb ds)) (ag (ah 2) ar)) (tgN 3))
  (gC (cM (aH (λds=>noX (bX ds)) (ag (ah 2) ar)) (tgN 4))
  (gC (cM (dCB tV (ag (d2 bT (ah 0) (dC (.str "least"))) (ag (d2 kn (d2 bT (ah 0) (dC (.str "sign"))) (dCB dI (ag (d2 oIx (ah 1) (dC (.int 3))) ar))) ar))) (tgN 5))
  (ce (dNF (jt (ag (d9 (ag (dC (.int 0)) (ag (ah 3) (ag (dC (.int 0)) (ag (dC .none) (ag (d9 (ag (dC (.str "start")) (ag (ah 2) ar))) ar)))))) (ag (d9 (ag (ah 3) (ag (ah 4) (ag (ah 5) (ag (dC .none) (ag (d9 (ag (dC (.str "long")) (ag (ah 2) ar))) ar)))))) (ag (d9 (ag (ah 4) (ag (ah 3) (ag (d1 xc (d2 bT (ah 0) (dC (.str "most")))) (ag (dC .none) (ag (d9 (ag (dC (.str "most")) (ag (ah 2) ar))) ar)))))) ar)))))))))
noncomputable def dZ:List D->M D:=run 6 gn
noncomputable def m9:DS->M Out:=(gC (cM (aH (λds=>noX (bb ds)) (ag (ah 2) ar)) (tgN 3))
  (gC (cM (aH (λds=>noX (bX ds)) (ag (ah 2) ar)) (tgN 4))
  (gC (cM (d9 (ag (dC (.str "wish")) (ag (ah 2) ar))) (tgN 5))
  (ce (dNF (jt (ag (d9 (ag (dC (.int 0)) (ag (ah 3) (ag (d2 oIx (ah 1) (dC (.int 0))) (ag (d2 bT (ah 0) (dC (.str "begin"))) (ag (ah 5) ar)))))) (ag (d9 (ag (ah 3) (ag (dC (.int 0)) (ag (d1 xc (d2 oIx (ah 1) (dC (.int 0)))) (ag (d2 bT (ah 0) (dC (.str "begin"))) (ag (ah 5) ar)))))) (ag (d9 (ag (dC (.int 0)) (ag (ah 4) (ag (d2 oIx (ah 1) (dC (.int 1))) (ag (d2 bT (ah 0) (dC (.str "end"))) (ag (ah 5) ar)))))) (ag (d9 (ag (ah 4) (ag (dC (.int 0)) (ag (d1 xc (d2 oIx (ah 1) (dC (.int 1)))) (ag (d2 bT (ah 0) (dC (.str "end"))) (ag (ah 5) ar)))))) ar))))))))))
noncomputable def jD:List D->M D:=run 6 m9
noncomputable def jz:DS->M Out:=(gIf (dB (d2 oEq (d2 oIx (d2 oIx (ah 1) (d2 bm (ah 2) (ah 5))) (dC (.int 2))) (d2 oIx (d2 oIx (ah 1) (ah 2)) (dC (.int 2))))) (bf (cM (d2 bm (ah 3) (ah 5)) (tgN 6))
  (bf (ko 4 (d9 (ag (aH (λds=>noX (bX ds)) (ag (ah 3) ar)) (ag (aH (λds=>noX (bb ds)) (ag (ah 6) ar)) (ag (d2 bT (ah 0) (dC (.str "apart"))) (ag (dC .none) (ag (d9 (ag (dC (.str "apart")) (ag (ah 3) (ag (ah 6) ar)))) ar)))))))
  ui)) bV)
noncomputable def fK:DS->M Out:=(gC (kh 4 (jt ar))
  (gC (gIf (dB (d2 oLt (d2 bm (ah 2) (dC (.int 1))) (dCB dI (ag (ah 1) ar)))) (ko 4 (d9 (ag (aH (λds=>noX (bb ds)) (ag (ah 3) ar)) (ag (aH (λds=>noX (bb ds)) (ag (d2 bm (ah 3) (dC (.int 1))) ar)) (ag (dC (.int 0)) (ag (dC .none) (ag (d9 (ag (dC (.str "order")) (ag (ah 3) (ag (d2 bm (ah 3) (dC (.int 1))) ar)))) ar))))))) bV)
  (gC (ir (uz wQ (ag (dC (.int 1)) (ag (d2 ml (dCB dI (ag (ah 1) ar)) (ah 2)) ar))) (tgN 5) jz)
  (sG 4))))
noncomputable def dy:List D->M D:=run 7 fK
noncomputable def fJ:DS->M Out:=(gC (cM (aH (λds=>noX (bb ds)) (ag (ah 2) ar)) (tgN 5))
  (gC (cM (aH (λds=>noX (bX ds)) (ag (ah 2) ar)) (tgN 6))
  (Cf (jy (dB (d2 d0 (d2 oIx (ah 1) (dC (.int 0))) (d2 ml (ah 4) (ah 0)))) (dB (d2 d0 (d2 bm (ah 4) (ah 0)) (d2 oIx (ah 1) (dC (.int 1)))))) (ce (dNF (jt (ag (d9 (ag (ah 5) (ag (dC (.int 0)) (ag (d2 ml (ah 0) (ah 4)) (ag (dC .none) (ag (d9 (ag (dC (.str "early")) (ag (ah 2) (ag (ah 3) ar)))) ar)))))) (ag (d9 (ag (dC (.int 0)) (ag (ah 6) (ag (d2 bm (ah 4) (ah 0)) (ag (dC .none) (ag (d9 (ag (dC (.str "late")) (ag (ah 2) (ag (ah 3) ar)))) ar)))))) ar)))))
  (Cf (dB (d2 d0 (d2 bm (d2 oIx (ah 1) (dC (.int 0))) (d2 oIx (ah 1) (dC (.int 1)))) (d2 kn (dC (.int 2)) (ah 4)))) (ce (dNF (jt (ag (d9 (ag (ah 6) (ag (dC (.int 0)) (ag (d1 xc (ah 4)) (ag (dC .none) (ag (d9 (ag (dC (.str "ahead")) (ag (ah 2) (ag (ah 3) ar)))) ar)))))) ar))))
  (ce (dNF (jt (ag (d9 (ag (dC (.int 0)) (ag (ah 5) (ag (ah 4) (ag (dC .none) (ag (d9 (ag (dC (.str "behind")) (ag (ah 2) (ag (ah 3) ar)))) ar)))))) ar))))))))
noncomputable def cB:List D->M D:=run 7 fJ
noncomputable def nD:DS->M Out:=(nj 4 (nF (aH (λds=>noX (cB ds)) (ag (d2 bT (ah 0) (dC (.str "shy"))) (ag (ah 6) (ag (ah 7) (ag (ah 8) (ag (ah 9) ar))))))))
noncomputable def nB:DS->M Out:=(bf (cM (d2 bm (ah 3) (ah 5)) (tgN 7))
  (bf (nj 4 (nF (aH (λds=>noX (dZ ds)) (ag (ah 0) (ag (ah 6) (ag (ah 7) ar))))))
  (bf (nj 4 (nF (aH (λds=>noX (jD ds)) (ag (ah 0) (ag (ah 6) (ag (ah 7) ar))))))
  (bf (nj 4 (nF (aH (λds=>noX (dy ds)) (ag (ah 0) (ag (ah 1) (ag (ah 5) (ag (ah 7) ar)))))))
  (ir (nv (ag (ah 2) ar)) (ee 2 (aX (tgN 8) (aX (tgN 9) eM))) nD)))))
noncomputable def jU:DS->M Out:=(bf (kh 4 (jt ar))
  (bf (ir (nv (ag (ah 1) ar)) (ee 2 (aX (tgN 5) (aX (tgN 6) eM))) nB)
  (sF 4)))
noncomputable def dP:List D->M D:=run 10 jU
noncomputable def hV:DS->M Out:=(nj 1 (jt (ag (d2 oIx (ah 2) (dC (.int 0))) (ag (d2 oIx (ah 2) (dC (.int 1))) ar))))
noncomputable def jT:DS->M Out:=(bf (kh 1 (jt (ag (dC (.int 0)) ar)))
  (bf (ir (jl (ah 0)) (tgN 2) hV)
  (sF 1)))
noncomputable def iJ:List D->M D:=run 3 jT
noncomputable def fL:DS->M Out:=(ce (d2 oIs (d2 oIx (ah 0) (dC (.int 3))) (dC .none)))
noncomputable def cC:List D->M D:=run 1 fL
noncomputable def lC:DS->M Out:=(ce (dCB tV (ag (dC (.int 0)) (ag (d2 ml (d2 oIx (ah 0) (dC (.int 2))) (d2 ml (d2 oIx (ah 1) (d2 oIx (ah 0) (dC (.int 1)))) (d2 oIx (ah 1) (d2 oIx (ah 0) (dC (.int 0)))))) ar))))
noncomputable def gk:List D->M D:=run 2 lC
noncomputable def ni:DS->M Out:=(ce (eB 2 [1] (ee 2 (aX (tgN 0) (aX (tgN 1) eM))) (nv (ag (ah 0) ar)) (jy (dB (aH (λds=>noX (cC ds)) (ag (ah 1) ar))) (dB (d2 oGt (aH (λds=>noX (gk ds)) (ag (ah 1) (ag (ah 2) ar))) (dC (.int 0))))) (ah 0)))
noncomputable def lr:List D->M D:=run 2 ni
noncomputable def ip:DS->M Out:=(ce (eV oB (dC (.str " ")) (ag (eB 1 [] (tgN 0) (jl (ah 0)) lW (dCB vH (ag (ah 0) ar))) ar)))
noncomputable def gj:List D->M D:=run 1 ip
noncomputable def cK:DS->M Out:=(bf (cM (aH (λds=>noX (dP (ds++[.int 0]))) (ag (d1 (kM "Desk" "settings") (ah 0)) (ag (ah 1) (ag (d1 (kM "Desk" "cuts") (ah 0)) ar)))) (tgN 2))
  (bf (cM (eB 1 [2] (tgN 0) (jl (aH (λds=>noX (lr ds)) (ag (ah 2) (ag (aH (λds=>noX (iJ ds)) (ag (ah 1) ar)) ar)))) lW (aH (λds=>noX (gj ds)) (ag (d2 oIx (d2 oIx (ah 1) (ah 0)) (dC (.int 4))) ar))) (tgN 3))
  (ce (dIf (dTr (ah 3)) (eV oB (dC (.str ", ")) (ag (ah 3) ar)) (dC (.str "none"))))))
noncomputable def cg:List D->M D:=run 4 cK
noncomputable def gp:DS->M Out:=(bf (gIf (dOr (kq (dB (aH (λds=>noX (bZ ds)) (ag (ah 0) ar)))) (dOr (dB (d2 oGt (dCB dI (ag (ah 0) ar)) (dC (.int 18)))) (jy (dB (d2 oEq (d2 oIx (ah 0) (dC (.int 0))) (dC (.str "0")))) (dB (d2 oNe (ah 0) (dC (.str "0"))))))) ge bV)
  (bf (gIf (kq (dB (fU d0 d0 (ah 1) (dCB iP (ag (ah 0) ar)) (ah 2)))) ge bV)
  (ce (dCB iP (ag (ah 0) ar)))))
noncomputable def eX:List D->M D:=run 3 gp
noncomputable def cL:SL.SG:=(cA (sIf (eN (dB (EN true eF (d2 oIx (ah 1) (dC (.int 1)))))) sNo gz)
  (cA (ic 2 (bR (CC eF (d2 oIx (ah 1) (dC (.int 1))))))
  (qc (sAt "Desk" "settings" (cO 0)) (bR (d2 oIx (ah 1) (dC (.int 1)))) (bR (aH (λds=>noX (eX ds)) (ag (d2 oIx (ah 1) (dC (.int 2))) (ag (d2 oIx (ah 2) (dC (.int 0))) (ag (d2 oIx (ah 2) (dC (.int 1))) ar))))))))
noncomputable def b9:List SL.Val->SL.Sto->SL.R (SL.Val×SL.Sto):=SL.mh 3 cL
noncomputable def fN:SL.SG:=(sIf (md (dB (d2 (mX true) (ah 1) (d1 (kM "Desk" "cuts") (ah 0))))) (i5 "Desk" "cuts" (cO 0) (r6 (pq (ag (CB (BH (d1 (kM "Desk" "cuts") (ah 0)) (CB (jt (ag (ah 1) ar))))) ar)))) gz)
noncomputable def dX:List SL.Val->SL.Sto->SL.R (SL.Val×SL.Sto):=SL.mh 2 fN
noncomputable def eI:SL.SG:=(i5 "Desk" "cuts" (cO 0) (qd (eB 1 [1] (tgN 0) (jl (d1 (kM "Desk" "cuts") (ah 0))) (dB (d2 oNe (ah 0) (ah 1))) (ah 0))))
noncomputable def dg:List SL.Val->SL.Sto->SL.R (SL.Val×SL.Sto):=SL.mh 2 eI
noncomputable def lE:DS->M Out:=(bf (gIf (dOr (kq (dB (dIs "str" (ah 0)))) (kq (dB (fU d0 d0 (dC (.int 1)) (dCB dI (ag (ah 0) ar)) (dC (.int 8)))))) (ce (dC (.bool false))) bV)
  (ce (dCB xf (ag (eB 1 [] (tgN 0) (jl (ah 0)) lW (fU d0 d0 (dC (.str "a")) (ah 0) (dC (.str "z")))) ar))))
noncomputable def gm:List D->M D:=run 1 lE
noncomputable def jW:DS->M Out:=(bf (gIf (kq (dB (aH (λds=>noX (gm ds)) (ag (ah 0) ar)))) ge bV)
  (ce (ah 0)))
noncomputable def iL:List D->M D:=run 1 jW
noncomputable def mr:DS->M Out:=(ce (fz (dIs "int" (ah 0)) (dNotV (dIs "bool" (ah 0)))))
noncomputable def gl:List D->M D:=run 1 mr
noncomputable def fM:DS->M Out:=(ce (fz (fU d0 d0 (dC (.str "!")) (ah 0) (dC (.str "~"))) (d2 oNe (dCB DY (ag (ah 0) ar)) (dC (.int 37)))))
noncomputable def dz:List D->M D:=run 1 fM
noncomputable def lD:DS->M Out:=(ce (fz (fU d0 d0 (dC (.int 1)) (dCB dI (ag (ah 0) ar)) (dC (.int 30))) (dCB xf (ag (eB 1 [] (tgN 0) (jl (ah 0)) lW (aH (λds=>noX (dz ds)) (ag (ah 0) ar))) ar))))
noncomputable def h9:List D->M D:=run 1 lD
noncomputable def iS:DS->M Out:=(ce (fz (dIs "str" (ah 0)) (dCB xf (ag (eB 1 [] (tgN 0) (jl (eV mf (ah 0) (ag (dC (.str " ")) ar))) lW (aH (λds=>noX (h9 ds)) (ag (ah 0) ar))) ar))))
noncomputable def gI:List D->M D:=run 1 iS
noncomputable def nh:DS->M Out:=(bf (gIf (dOr (kq (dB (dIs "tuple" (ah 0)))) (dB (d2 oNe (dCB dI (ag (ah 0) ar)) (dC (.int 4))))) (ce (dC (.bool false))) bV)
  (bf (gIf (dOr (kq (dB (aH (λds=>noX (gl ds)) (ag (d2 oIx (ah 0) (dC (.int 0))) ar)))) (kq (dB (aH (λds=>noX (gl ds)) (ag (d2 oIx (ah 0) (dC (.int 1))) ar))))) (ce (dC (.bool false))) bV)
  (ce (fz (fU d0 oLt (dC (.int 0)) (d2 oIx (ah 0) (dC (.int 0))) (d2 oIx (ah 0) (dC (.int 1)))) (fz (aH (λds=>noX (gm ds)) (ag (d2 oIx (ah 0) (dC (.int 2))) ar)) (aH (λds=>noX (gI ds)) (ag (d2 oIx (ah 0) (dC (.int 3))) ar)))))))
noncomputable def lq:List D->M D:=run 1 nh
noncomputable def jV:DS->M Out:=(bf (cM (eV o6 (ah 1) (ag (dC (.str " ")) (ag (dC (.int 3)) ar))) (tgN 3))
  (bf (gIf (dB (d2 oNe (dCB dI (ag (ah 3) ar)) (dC (.int 4)))) ge bV)
  (bf (yG (cM (d9 (ag (dMe "Thousandths" "read" (λds=>noX (bz ds)) (ah 0) (ag (d2 oIx (ah 3) (dC (.int 0))) ar)) (ag (dMe "Thousandths" "read" (λds=>noX (bz ds)) (ah 0) (ag (d2 oIx (ah 3) (dC (.int 1))) ar)) (ag (d2 oIx (ah 3) (dC (.int 2))) (ag (d2 oIx (ah 3) (dC (.int 3))) ar))))) (tgN 4)))
  (bf (gIf (kq (dB (aH (λds=>noX (lq ds)) (ag (ah 4) ar)))) ge bV)
  (ce (ah 4))))))
noncomputable def iK:List D->M D:=run 5 jV
noncomputable def lB:DS->M Out:=(ce (dIf (dTr (ah 0)) (eV mf (ah 0) (ag (dC (.str "\n")) ar)) (kr ar)))
noncomputable def jE:List D->M D:=run 1 lB
noncomputable def gx:DS->M Out:=(bf (cM (aH (λds=>noX (iK ds)) (ag (ah 0) (ag (ah 4) (ag (ah 3) ar)))) (tgN 5))
  (bf (gIf (xG 2 (jy (dTr (ah 2)) (dB (d2 oLt (d2 oIx (ah 5) (dC (.int 0))) (d2 oIx (d2 oIx (ah 2) (d1 xc (dC (.int 1)))) (dC (.int 0))))))) ge bV)
  (ko 2 (ah 5))))
noncomputable def iQ:DS->M Out:=(gC (gIf (kq (dB (dIs "str" (ah 1)))) ge bV)
  (gC (kh 2 (jt ar))
  (gC (ir (uB (ag (aH (λds=>noX (jE ds)) (ag (ah 1) ar)) ar)) (ee 2 (aX (tgN 3) (aX (tgN 4) eM))) gx)
  (sG 2))))
noncomputable def gH:List D->M D:=run 6 iQ
noncomputable def e6:SL.SG:=(cA (ic 3 (bR (aH (λds=>noX (iL ds)) (ag (d2 oIx (ah 1) (dC (.int 1))) ar))))
  (qc (sAt "Desk" "cues" (cO 0)) (cO 3) (qd (aH (λds=>noX (gH ds)) (ag (d1 (kM "Desk" "clock") (ah 0)) (ag (ah 2) ar))))))
noncomputable def dA:List SL.Val->SL.Sto->SL.R (SL.Val×SL.Sto):=SL.mh 4 e6
noncomputable def di:SL.SG:=(cA (ic 3 (bR (d2 oIx (ah 1) (dC (.int 0)))))
  (sIf (eN (dB (d2 oEq (ah 3) (dC (.str "clock"))))) sNo (sIf (eN (dB (d2 oEq (ah 3) (dC (.str "set"))))) (lX (lU "Desk" "change_setting" b9 (cO 0) (eg (cO 1) jL))) (sIf (eN (dB (d2 oEq (ah 3) (dC (.str "cut"))))) (lX (lU "Desk" "put_cut" dX (cO 0) (eg (fj (dMe "Thousandths" "read" (λds=>noX (bz ds)) (d1 (kM "Desk" "clock") (ah 0)) (ag (d2 oIx (ah 1) (dC (.int 1))) ar))) jL))) (sIf (eN (dB (d2 oEq (ah 3) (dC (.str "uncut"))))) (lX (lU "Desk" "leave_cut" dg (cO 0) (eg (fj (dMe "Thousandths" "read" (λds=>noX (bz ds)) (d1 (kM "Desk" "clock") (ah 0)) (ag (d2 oIx (ah 1) (dC (.int 1))) ar))) jL))) (sIf (eN (dB (d2 oEq (ah 3) (dC (.str "cues"))))) (lX (lU "Desk" "put_cues" dA (cO 0) (eg (cO 1) (eg (cO 2) jL)))) (sIf (eN (dB (d2 oEq (ah 3) (dC (.str "drop"))))) sNo (sIf (eN (dB (d2 oEq (ah 3) (dC (.str "move"))))) sNo (sIf (eN (dB (d2 oEq (ah 3) (dC (.str "time"))))) sNo (sIf (eN (dB (d2 oEq (ah 3) (dC (.str "both"))))) sNo (sIf (eN (dB (d2 oEq (ah 3) (dC (.str "part"))))) sNo sNo)))))))))))
noncomputable def cG:List SL.Val->SL.Sto->SL.R (SL.Val×SL.Sto):=SL.mh 4 di
noncomputable def iq:SL.SG:=(cA (ic 2 (bR (aH (λds=>noX (bE ds)) (ag (ah 1) ar))))
  (cA (ic 3 (bR (d2 oIx (ah 2) (dC (.int 0)))))
  (cA (sIf (eN (kq (dB (aH (λds=>noX (iM ds)) (ag (ah 3) ar))))) sNo gz)
  (cA (sIf (eN (dB (d2 oEq (d2 oIx (ah 3) (dC (.int 0))) (dC (.str "show"))))) sNo gz)
  (cA (sIf (eN (dB (d2 oEq (d2 oIx (ah 3) (dC (.int 0))) (dC (.str "broken"))))) (mR (fj (dMe "Desk" "whys_of_broken" (λds=>noX (cg ds)) (ah 0) (ag (dMe "Desk" "cues_by" (λds=>noX (eE ds)) (ah 0) (ag (d2 oIx (ah 3) (dC (.int 1))) ar)) ar)))) gz)
  (cA (sIf (eN (dB (d2 oEq (d2 oIx (ah 3) (dC (.int 0))) (dC (.str "price"))))) sNo gz)
  (cA (sIf (eN (dB (d2 oEq (d2 oIx (ah 3) (dC (.int 0))) (dC (.str "rows"))))) sNo gz)
  (cA (lX (lU "Desk" "change" cG (cO 0) (eg (cO 3) (eg (bR (d2 oIx (ah 2) (dC (.int 1)))) jL))))
  (mR (bR (dC (.str "ok"))))))))))))
noncomputable def bt:List SL.Val->SL.Sto->SL.R (SL.Val×SL.Sto):=SL.mh 4 iq
end CT
open L2 DL
local macro_rules | `(tactic| walk_at "call")=>`(tactic| fail)
local macro_rules | `(tactic| walk_at "cond")=>`(tactic| first | rfl | omega | (simp only[Bool.or_eq_false_iff,Bool.and_eq_false_iff,Bool.or_eq_true,Y0,Bool.not_eq_false',Bool.not_eq_true',decide_eq_false_iff_not,decide_eq_true_eq,Bool.not_true,Bool.not_false,Bool.false_or,Bool.true_and,Bool.false_and,Bool.true_or,isD,tyD];omega) | (simp [isD,tyD];done) | (simp [isD,tyD];omega))
local macro_rules | `(tactic| walk_at "side")=>`(tactic| first | assumption | omega | decide | exact rG (by omega) (by omega) | exact xN (by omega) (by omega) | exact bDiv_of (by omega) (by omega) | rfl)
local macro_rules | `(tactic| walk_at "ev1")=>`(tactic| (first
 | with_reducible assumption | with_reducible exact ao | exact af rfl | with_reducible exact ak | with_reducible exact ev_next | with_reducible exact lH
 | with_reducible apply ap | with_reducible apply ac | with_reducible apply mt
 | with_reducible exact cr | with_reducible exact ke | with_reducible exact qy | with_reducible exact o_ltD | with_reducible exact o_le | with_reducible exact vG | with_reducible exact o_ge | with_reducible exact qz | with_reducible exact o_ne
 | (with_reducible refine oE ?_;walk_at "side") | (with_reducible refine oG ?_;walk_at "side") | (with_reducible refine cw ?_;walk_at "side")
 | ((with_reducible show oIx _ (η (OfNat.ofNat _))=some _);exact rfl) | with_reducible exact o_pow6 | with_reducible exact w6 | with_reducible exact o_pow15 | with_reducible exact o_pow18 | with_reducible exact o_pow4 | with_reducible exact o_pow7 | with_reducible exact o_pow8 | with_reducible exact o_pow10 | with_reducible exact o_pow12 | with_reducible exact o_pow19 | with_reducible exact o_pow20 | with_reducible exact o_pow24 | ((with_reducible show ee _ _ _ _=some _);exact rfl) | ((with_reducible show xc _=some _);exact rfl)
 | ((with_reducible show bi _=true);exact rfl) | with_reducible apply br | with_reducible exact oF | with_reducible exact o_min | with_reducible exact mj | with_reducible exact Bt | with_reducible exact o_intI | with_reducible exact o_intB
 | with_reducible apply az | walk_at "call"
 | (with_reducible refine bN ?_ ?_ ?_) | with_reducible apply kU | with_reducible apply uk | (with_reducible apply aY;with_reducible apply bF) | with_reducible apply bg | (with_reducible apply pB;with_reducible apply bg)
 | with_reducible apply bF | (with_reducible apply aY;with_reducible apply lJ) | with_reducible apply ev_par | (with_reducible apply aY;with_reducible apply ev_par)
 | with_reducible apply bv | with_reducible apply d6 | with_reducible apply ev_notV | with_reducible apply oN
 | with_reducible apply b8 | with_reducible apply d7 | with_reducible apply ev_cut | with_reducible apply lG
 | with_reducible apply gE | with_reducible apply j0
 | with_reducible apply yP | with_reducible apply qW | with_reducible apply ev_orV | with_reducible apply lK | with_reducible apply vZ
 | ((with_reducible show(_:Bool)=false);walk_at "cond")
 | ((with_reducible show(if _=true then _ else _)=_);first | (refine sB rfl ?_) | (refine kg rfl ?_) | (refine ite_t (by omega) ?_) | (refine ite_f (by omega) ?_) | (refine sB (by walk_at "cond") ?_) | (refine kg (by walk_at "cond") ?_))))
local macro_rules | `(tactic| walk_at "ev")=>`(tactic| repeat (walk_at "ev1"))
open NumText
namespace TX
noncomputable def S(l:List Nat):Str:=⟨l.toArray⟩
theorem L_S(l:List Nat):(S l).cps.toList=l:=by unfold S;simp
theorem S_L(x:Str):S x.cps.toList=x:=by unfold S;simp
theorem wB(a b:List Nat):S a++S b=S (a++b):=by
 have:(S a++S b).cps=(S (a++b)).cps:=by
  show a.toArray++b.toArray=(a++b).toArray
  simp
 cases h1:S a++S b
 cases h2:S (a++b)
 rw[h1,h2] at this
 cases this
 rfl
theorem dw(l:List Nat):(S l).length=l.length:=by unfold S;show l.toArray.size=_;simp
theorem CP{a b:List Nat}(h:S a=S b):a=b:=by rw[<-L_S a,h,L_S]
noncomputable def fS(n:Nat):List Nat:=if h:n=0 then [] else fS (n / 10)++[48+n % 10]
decreasing_by omega
theorem dY:fS 0=[]:=by unfold fS;rfl
theorem eU{n:Nat}(h:n≠0):fS n=fS (n / 10)++[48+n % 10]:=by
 rw[fS]
 simp [h]
noncomputable def fg(k n:Nat):List Nat:=X2 (k-(fS n).length) 48++fS n
theorem EA{k n:Nat}(h:0<n\/0<k):fg k n=fg (k-1) (n / 10)++[48+n % 10]:=by
 unfold fg
 by_cases hn:n=0
 ·subst hn
  rw[dY]
  have hk:0<k:=by omega
  obtain⟨k,rfl⟩:∃j,k=j+1:=⟨k-1,by omega⟩
  simp only[Nat.zero_div,Nat.zero_mod,dY,Z7,X1,Nat.sub_zero,Nat.add_sub_cancel,Nat.add_zero]
  rw[List.replicate_succ']
 ·rw[eU hn,ζ]
  have e:k-((fS (n / 10)).length+[48+n % 10].length)=k-1-(fS (n / 10)).length:=by
   show k-((fS (n / 10)).length+1)=_
   omega
  rw[e,Z4]
theorem lf(n:Nat):∀c∈fS n,48<=c/\c<=57:=by
 induction n using U8 with
 | _ n ih =>
  by_cases h:n=0
  ·subst h;rw[dY];intro c hc;cases hc
  ·rw[eU h]
   intro c hc
   rcases Φ.mp hc with hc | hc
   ·exact ih (n / 10) (by omega) c hc
   ·rw[Ω] at hc
    omega
theorem cQ(k n:Nat):∀c∈fg k n,48<=c/\c<=57:=by
 intro c hc
 unfold fg at hc
 rcases Φ.mp hc with hc | hc
 ·have:=List.eq_of_mem_replicate hc
  omega
 ·exact lf n c hc
theorem nq(j:Nat):∀n,n<10 ^ j->(fS n).length<=j:=by
 induction j with
 | zero =>
  intro n hn
  have:n=0:=by simpa using hn
  subst this
  rw[dY]
  exact ρ _
 | succ j ih =>
  intro n hn
  by_cases h:n=0
  ·subst h;rw[dY];exact X9 _
  ·rw[eU h,ζ]
   have h1:n / 10<10 ^ j:=by
    rw[Nat.pow_succ] at hn
    omega
   have:=ih (n / 10) h1
   show _+1<=_
   omega
theorem oh{k n:Nat}(h:n<10 ^ k):(fg k n).length=k:=by
 unfold fg
 have:=nq k n h
 rw[ζ,U5]
 omega
theorem wg(j:Nat):∀n,10 ^ j<=n->j+1<=(fS n).length:=by
 induction j with
 | zero =>
  intro n hn
  have h:n≠0:=by
   have:10 ^ 0=1:=rfl
   omega
  rw[eU h,ζ]
  show 0+1<=_+1
  omega
 | succ j ih =>
  intro n hn
  have p:=Nat.pow_pos (n:=j) (show 0<10 by decide)
  rw[Nat.pow_succ] at hn
  have h:n≠0:=by omega
  have:=ih (n / 10) (by omega)
  rw[eU h,ζ]
  show _<=_+1
  omega
theorem toDig(n:Nat):(Nat.toDigits 10 n).map Char.toNat=if n=0 then [48] else fS n:=by
 have one:∀d:Nat,d<10->(Nat.digitChar d).toNat=48+d:=by decide
 induction n using U8 with
 | _ n ih =>
  by_cases h:n<10
  ·rw[Nat.toDigits_of_lt_base h]
   show [(Nat.digitChar n).toNat]=_
   rw[one n h]
   by_cases hz:n=0
   ·subst hz;rfl
   ·rw[if_neg hz,eU hz,show n / 10=0 by omega,dY,show n % 10=n by omega]
    rfl
  ·have hm:n % 10<10:=Nat.mod_lt n (by decide)
   have t:Nat.toDigits 10 (n / 10)++Nat.toDigits 10 (n % 10)=Nat.toDigits 10 (10*(n / 10)+n % 10):=Nat.toDigits_append_toDigits (by decide) (by omega) hm
   rw[Nat.div_add_mod] at t
   rw[<-t,Z3,ih (n / 10) (by omega),if_neg (by omega),if_neg (by omega),Nat.toDigits_of_lt_base hm,eU (n:=n) (by omega)]
   show _++[(Nat.digitChar (n % 10)).toNat]=_
   rw[one _ hm]
theorem ye(n:Nat):Str.ofString (toString ((n:Nat):Int))=S (if n=0 then [48] else fS n):=by
 rw[<-toDig,<-PySem.W.KIN.signs_num,S_L]
theorem ze{n k:Nat}(hk:1<=k):Txt.zfill (Str.ofString (toString ((n:Nat):Int))) (k:Int)=S (fg k n):=by
 rw[ye]
 have hd:∀c∈(if n=0 then [48] else fS n),48<=c/\c<=57:=by
  by_cases h:n=0
  ·rw[if_pos h];intro c hc;rw[Ω] at hc;omega
  ·rw[if_neg h];exact lf n
 have hf:fg k n=X2 (k-(if n=0 then [48] else fS n).length) 48++(if n=0 then [48] else fS n):=by
  by_cases h:n=0
  ·subst h
   rw[if_pos rfl]
   unfold fg
   rw[dY]
   show X2 (k-0) 48++[]=X2 (k-1) 48++[48]
   rw[Z7,<-List.replicate_succ']
   congr 1
   omega
  ·rw[if_neg h]
   rfl
 rw[hf]
 generalize (if n=0 then [48] else fS n)=l at *
 unfold Txt.zfill
 rw[dw]
 by_cases hl:(k:Int)<=(l.length:Nat)
 ·rw[if_pos hl]
  have:k-l.length=0:=by omega
  rw[this]
  rfl
 ·rw[if_neg hl]
  have e:((k:Int)).toNat-l.length=k-l.length:=by omega
  rw[e]
  have hp:zfilled (S l) (k-l.length)=Builtin.Str.padded (S l) (k-l.length) 0 48:=by
   unfold zfilled
   cases l with
   | nil=>rfl
   | cons c r =>
    have hc:=hd c υ
    have h0:(S (c::r)).cps[0]?=some c:=rfl
    rw[h0]
    split
    ·rename_i z
     cases z
     omega
    ·rename_i z
     cases z
     omega
    ·rfl
  rw[hp]
  unfold Builtin.Str.padded S
  simp
theorem Aw(cs:List Nat)(c:Nat):digitsVal (cs++[c])=digitsVal cs*10+(c-48):=digitsVal_snoc cs c
theorem uP(n:Nat):digitsVal (fS n)=n:=by
 induction n using U8 with
 | _ n ih =>
  by_cases h:n=0
  ·subst h;rw[dY];rfl
  ·rw[eU h,Aw,ih (n / 10) (by omega)]
   omega
theorem zg(j:Nat)(l:List Nat):digitsVal (X2 j 48++l)=digitsVal l:=by
 induction j with
 | zero=>rfl
 | succ j ih =>
  rw[List.replicate_succ,U0]
  show digitsVal (48::_)=_
  rw[digitsVal_zero]
  exact ih
theorem pK(k n:Nat):digitsVal (fg k n)=n:=by
 unfold fg
 rw[zg,uP]
theorem qQ{l:List Nat}(h:∀c∈l,48<=c/\c<=57)(h1:l≠[])(h2:l.length<=640):iP [.str (S l)]=some (.int ((digitsVal l:Nat):Int)):=by
 have e:=intText_digits (x:=S l) (by rw[L_S];exact h) (by rw[L_S];exact h1) (by rw[dw];omega)
 rw[L_S] at e
 show(match PySem.intText? (S l) with | some n=>if (S l).length<=640 then some (η n) else none | none=>none)=_
 rw[e]
 show(if (S l).length<=640 then _ else _)=_
 rw[dw,if_pos h2]
theorem uF(l:List Nat)(c i:Nat):StrLaws.At (S l) ⟨#[c]⟩ (S l).length i↔l[i]?=some c:=by
 have:=StrLaws.subAt_one (S l) c i
 rw[L_S] at this
 exact this
theorem DM{u v:List Nat}{c:Nat}(hc:c∉u):Txt.partition (S (u++c::v)) ⟨#[c]⟩=(S u,⟨#[c]⟩,S v):=by
 have hu:(u++c::v)[u.length]?=some c:=by rw[Ψ (ρ _)];simp
 unfold Txt.partition
 rcases StrLaws.occ_head (S (u++c::v)) ⟨#[c]⟩ 1 (ρ 1) with ⟨_,hn⟩ | ⟨i,r,h0,hi,hn⟩
 ·exact absurd ((uF _ c _).mpr hu) (hn u.length)
 ·have e:i=u.length:=by
   rcases Nat.lt_trichotomy i u.length with h | h | h
   ·exfalso
    have h1:=(uF _ c i).mp hi
    rw[Z0 h] at h1
    exact hc (Y3 h1)
   ·exact h
   ·exact absurd ((uF _ c _).mpr hu) (hn u.length h)
  subst e
  rw[h0]
  show(Builtin.Str.strSub _ 0 u.length,_,Builtin.Str.strSub _ (u.length+1) _)=_
  have s1:Builtin.Str.strSub (S (u++c::v)) 0 u.length=S u:=by
   rw[<-S_L (Builtin.Str.strSub _ _ _),StrLaws.strSub_toList,L_S]
   simp
  have s2:Builtin.Str.strSub (S (u++c::v)) (u.length+1) (S (u++c::v)).length=S v:=by
   rw[<-S_L (Builtin.Str.strSub _ _ _),StrLaws.strSub_toList,L_S,dw]
   have e:u++c::v=(u++[c])++v:=by simp
   have l1:u.length+1=(u++[c]).length:=by simp
   rw[e,l1,List.drop_left]
   congr 1
   refine List.take_of_length_le ?_
   rw[ζ]
   omega
  rw[s1,s2]
theorem DJ{u:List Nat}{c:Nat}(hc:c∉u):Txt.partition (S u) ⟨#[c]⟩=(S u,Str.empty,Str.empty):=by
 unfold Txt.partition
 rcases StrLaws.occ_head (S u) ⟨#[c]⟩ 1 (ρ 1) with ⟨h0,_⟩ | ⟨i,r,h0,hi,hn⟩
 ·rw[h0]
 ·exact absurd (Y3 ((uF _ c i).mp hi)) hc
end TX
namespace DL
section
variable{δ:DS}{f g k:DS->M D}{fa:DS->M (List D)}{x d:D}
theorem cZ{h:Str->List D->Option D}{z:Str}{xs:List D}(h1:f δ=M.ret (.str z))(h2:fa δ=M.ret xs)(h3:h z xs=some d):eV h f fa δ=M.ret d:=by
 unfold eV
 rw[h1]
 show(fa δ).thn _=_
 rw[h2]
 show M.lift (h z xs)=_
 rw[h3]
 rfl
theorem iu{h h':D->D->Option D}{y w:D}{b1 b2:Bool}(h1:f δ=M.ret x)(h2:g δ=M.ret y)(h3:h x y=some (.bool b1))(h4:k δ=M.ret w)(h5:h' y w=some (.bool b2)):fU h h' f g k δ=M.ret (.bool (b1&&b2)):=by
 unfold fU
 rw[h1,aQ,h2,aQ,h3,lz,aQ]
 cases b1
 ·rfl
 ·show(k δ).thn _=_
  rw[h4,aQ,h5]
  rfl
theorem pD{fl fh:DS->M (Option Int)}{lo hi:Option Int}(h1:f δ=M.ret x)(h2:fl δ=M.ret lo)(h3:fh δ=M.ret hi)(h4:Bx lo hi x=some d):sJ f fl fh δ=M.ret d:=by
 unfold sJ;rw[h1,aQ,h2,aQ,h3,aQ,h4];rfl
theorem kf{i j:Int}:d0 (.int i) (.int j)=some (.bool (decide (i<=j))):=rfl
theorem o_neS{a b:Str}(ha:V0 a=true)(hb:V0 b=true):oNe (.str a) (.str b)=some (.bool (!(a==b))):=by
 unfold oNe flat
 simp [W7,PyData.depth,PyData.eqv,ha,hb]
theorem o_eqS{a b:Str}(ha:V0 a=true)(hb:V0 b=true):oEq (.str a) (.str b)=some (.bool (a==b)):=by
 unfold oEq flat
 simp [W7,PyData.depth,PyData.eqv,ha,hb]
end
end DL
namespace TX
theorem S_beq(a b:List Nat):(S a==S b)=decide (a=b):=by
 by_cases h:a=b
 ·subst h
  rw[decide_eq_true rfl]
  exact beq_self_eq_true _
 ·rw[decide_eq_false h]
  refine beq_eq_false_iff_ne.mpr λe=>h (CP e)
noncomputable def isF(c:Nat):Bool:=decide (48<=c/\c<=57)
noncomputable def im(l:List Nat):Bool:=!decide (l=[])&&l.all isF
noncomputable def m7(k:Nat)(l:List Nat):Bool:=decide (l.length=k)&&im l
noncomputable def hrs(l:List Nat):Bool:=m7 2 l||(decide (3<=l.length/\l.length<=20)&&(im l&&!decide (l.head?=some 48)))
noncomputable def six(l:List Nat):Bool:=m7 2 l&&decide (digitsVal l<60)
theorem m4{l:List Nat}(h0:l≠[])(h:∀c∈l,48<=c/\c<=57):im l=true:=by
 unfold im
 rw[decide_eq_false h0,Bool.not_false,Bool.true_and,U7]
 exact λc hc=>decide_eq_true (h c hc)
theorem qN{l:List Nat}(h:im l=true):l≠[]:=by
 unfold im at h
 rw[Y0] at h
 simpa using h.1
theorem sC{l:List Nat}(h:im l=true):∀c∈l,48<=c/\c<=57:=by
 unfold im at h
 rw[Y0,U7] at h
 exact λc hc=>of_decide_eq_true (h.2 c hc)
noncomputable def pre(c:Nat)(l:List Nat):List Nat:=l.takeWhile (· != c)
noncomputable def post(c:Nat)(l:List Nat):List Nat:=(l.dropWhile (· != c)).drop 1
theorem Dv(c:Nat)(l:List Nat):c∉pre c l:=by
 induction l with
 | nil=>intro h;cases h
 | cons a r ih =>
  unfold pre at ih ⊢
  by_cases h:a=c
  ·subst h
   rw[List.takeWhile_cons_of_neg (by simp)]
   intro h;cases h
  ·rw[V9 (by simpa using h)]
   intro hm
   rcases Θ.mp hm with e | e
   ·exact h e.symm
   ·exact ih e
theorem iN{c:Nat}{u v:List Nat}(h:c∉u):pre c (u++c::v)=u/\post c (u++c::v)=v:=by
 induction u with
 | nil =>
  unfold pre post
  rw[W4,List.takeWhile_cons_of_neg (by simp),List.dropWhile_cons_of_neg (by simp)]
  exact⟨rfl,rfl⟩
 | cons a r ih =>
  have ha:a≠c:=λe=>h (e▸υ)
  have ih:=ih (λe=>h (χ _ e))
  unfold pre post at ih ⊢
  rw[U0,V9 (by simpa using ha),U9 (by simpa using ha),ih.1,ih.2]
  exact⟨rfl,rfl⟩
theorem wU{c:Nat}{u:List Nat}(h:c∉u):pre c u=u/\post c u=[]:=by
 induction u with
 | nil=>exact⟨rfl,rfl⟩
 | cons a r ih =>
  have ha:a≠c:=λe=>h (e▸υ)
  have ih:=ih (λe=>h (χ _ e))
  unfold pre post at ih ⊢
  rw[V9 (by simpa using ha),U9 (by simpa using ha),ih.1,ih.2]
  exact⟨rfl,rfl⟩
theorem CG(c:Nat)(l:List Nat):(c∉l/\pre c l=l/\post c l=[])\/l=pre c l++c::post c l:=by
 by_cases h:c∈l
 ·right
  induction l with
  | nil=>cases h
  | cons a r ih =>
   by_cases ha:a=c
   ·subst ha
    have:=iN (c:=a) (u:=[]) (v:=r) (by simp)
    rw[W4] at this
    rw[this.1,this.2]
    rfl
   ·have hr:c∈r:=by
     rcases Θ.mp h with e | e
     ·exact absurd e.symm ha
     ·exact e
    have ih:=ih hr
    unfold pre post at ih ⊢
    rw[V9 (by simpa using ha),U9 (by simpa using ha),U0,<-ih]
 ·exact .inl ⟨h,wU h⟩
theorem vF(c:Nat)(l:List Nat):∃w,Txt.partition (S l) ⟨#[c]⟩=(S (pre c l),w,S (post c l)):=by
 rcases CG c l with ⟨h,e1,e2⟩ | e
 ·rw[e1,e2]
  exact⟨_,DJ h⟩
 ·have:=DM (c:=c) (v:=post c l) (Dv c l)
  rw[<-e] at this
  exact⟨_,this⟩
theorem tM(c:Nat)(l:List Nat):(pre c l).length<=l.length/\(post c l).length<=l.length:=by
 rcases CG c l with ⟨h,e1,e2⟩ | e
 ·rw[e1,e2]
  exact⟨ρ _,X9 _⟩
 ·have:=congrArg V8 e
  rw[ζ,θ] at this
  omega
theorem w8{c:Nat}{l:List Nat}(hl:l.length<=1000):∃w,dh (S l) [.str ⟨#[c]⟩]=some (.tuple [.str (S (pre c l)),.str w,.str (S (post c l))]):=by
 obtain⟨w,e⟩:=vF c l
 refine⟨w,?_⟩
 unfold dh
 dsimp only
 rw[if_pos,e]
 rw[Y0]
 refine⟨rfl,?_⟩
 rw[dw]
 exact aW (by omega)
theorem yz{l:List Nat}{i:Int}{c:Nat}(hl:l.length<=1000)(h0:0<=i)(h:l[i.toNat]?=some c):oIx (.str (S l)) (.int i)=some (.str ⟨#[c]⟩):=by
 show(if bi (S l).length=true then _ else _)=_
 rw[if_pos (by rw[dw];exact aW (by omega)),L_S]
 have e:=L2.za h
 rw[U2 h0] at e
 rw[e]
 rfl
end TX
open CT TX
namespace TX
theorem tR{l:List Nat}(h:∀c∈l,c<1114112):V0 (S l)=true:=by
 unfold V0 S
 rw[<-Array.all_toList]
 simpa using h
theorem Bs{a b:List Nat}(ha:∀c∈a,c<1114112)(hb:∀c∈b,c<1114112):oNe (.str (S a)) (.str (S b))=some (.bool (!decide (a=b))):=by rw[o_neS (tR ha) (tR hb),S_beq]
theorem o_eqT{a b:List Nat}(ha:∀c∈a,c<1114112)(hb:∀c∈b,c<1114112):oEq (.str (S a)) (.str (S b))=some (.bool (decide (a=b))):=by rw[o_eqS (tR ha) (tR hb),S_beq]
def Uc(l:List Nat):Prop:=∀c∈l,c<1114112
theorem lenT{l:List Nat}(h:l.length<=1000):dI [.str (S l)]=some (.int ((l.length:Nat):Int)):=by
 show(if bi (S l).length=true then _ else _)=_
 rw[dw,if_pos (aW (by omega))]
theorem xL(l:List Nat)(p:Nat->Bool):kj (l.map λc=>Y6 (p c))=some (l.map p):=by
 induction l with
 | nil=>rfl
 | cons a r ih =>
  show(kj (r.map λc=>Y6 (p c))).map _=_
  rw[ih]
  rfl
end TX
namespace CT
theorem Ep(c:Nat):Bv (.str ⟨#[c]⟩) (.str "0123456789")=some (.bool (isF c)):=by
 show some (Y6 _)=_
 rw[StrLaws.found_one]
 congr 2
 unfold isF
 have:("0123456789" : Str).cps.toList=[48,49,50,51,52,53,54,55,56,57]:=by decide
 rw[this]
 refine decide_eq_decide.mpr ?_
 simp only[Θ,Y9,or_false]
 omega
theorem iG{l:List Nat}(hl:l.length<=1000)(hu:Uc l):bZ [.str (S l)]=M.ret (.bool (im l)):=by
 refine bq (bg ?_)
 have h1:oNe (.str (S l)) (.str "")=some (.bool (!decide (l=[]))):=Bs (b:=[]) hu (λ_ h=>nomatch h)
 refine lK (ap (af rfl) ao h1) ?_
 refine br (ac (eT (ds:=ff (S l)) (ys:=l.map λc=>.bool (isF c)) (gR (x:=.str (S l)) (af rfl) rfl) ?_ ?_) ak) ?_
 ·unfold ff
  rw[ι,L_S]
  exact aW (by omega)
 ·have:=v7 (t:=tgN 0) (f:=d2 Bv (ah 0) (dC (.str "0123456789"))) (h:=λd=>match d with | .str z=>.bool (z.cps.toList.all isF) | _=>.none) (λδ=>∃x,δ=[x]) (ff (S l)) [.un] ⟨_,rfl⟩ (λd hd δ hδ=>by
   obtain⟨x,rfl⟩:=hδ
   unfold ff at hd
   obtain⟨c,_,rfl⟩:=W6.mp hd
   refine⟨[.vl (.str ⟨#[c]⟩)],rfl,?_,_,rfl⟩
   refine ap (af rfl) ao ?_
   rw[Ep]
   simp)
  refine Eq.trans this ?_
  unfold ff
  rw[X0,L_S]
  congr 1
  refine List.map_congr_left λc _=>?_
  show Y6 _=_
  simp
 ·show(kj _).map _=_
  rw[xL]
  show some (Y6 _)=_
  rw[List.all_map]
  rfl
theorem io{l:List Nat}{k:Nat}(hl:l.length<=1000)(hu:Uc l):cj [.str (S l),.int (k:Nat)]=M.ret (.bool (m7 k l)):=by
 have h1:=iG hl hu
 have h2:=lenT hl
 refine bq (bg ?_)
 unfold m7
 refine lK (ap (br (by walk_at "ev") h2) (af rfl) ?_) (by walk_at "ev")
 rw[qz]
 congr 2
 refine decide_eq_decide.mpr ?_
 omega
theorem jB{l:List Nat}(hl:l.length<=1000)(hu:Uc l):cR [.str (S l)]=M.ret (.bool (six l)):=by
 have h1:=io (k:=2) hl hu
 refine bq (bg ?_)
 unfold six
 by_cases h:m7 2 l=true
 ·rw[h,Bool.true_and]
  rw[h] at h1
  refine h8 (az (ds:=[.str (S l),.int 2]) (by walk_at "ev") h1) ?_
  have h2:=h
  unfold m7 at h2
  rw[Y0,decide_eq_true_eq] at h2
  have h3:=qQ (sC h2.2) (qN h2.2) (by omega)
  refine ap (br (ac (af rfl) ak) h3) ao ?_
  first | rw[qy] | rw[o_ltD]
  congr 2
  refine decide_eq_decide.mpr ?_
  omega
 ·have h:=Bool.not_eq_true _▸h
  rw[h,Bool.false_and]
  rw[h] at h1
  exact sH (az (ds:=[.str (S l),.int 2]) (by walk_at "ev") h1)
theorem uI{l:List Nat}(hl:l.length<=1000)(hu:Uc l):gJ [.str (S l)]=M.ret (.bool (hrs l)):=by
 have h1:=io (k:=2) hl hu
 have h2:=iG hl hu
 refine bq ?_
 unfold hrs iT
 by_cases h:m7 2 l=true
 ·rw[h,Bool.true_or]
  rw[h] at h1
  refine kU (b:=true) (bv (az (ds:=[.str (S l),.int 2]) (by walk_at "ev") h1)) (kg rfl (pB (bg ao)))
 ·have h:=Bool.not_eq_true _▸h
  rw[h,Bool.false_or]
  rw[h] at h1
  refine kU (b:=false) (bv (az (ds:=[.str (S l),.int 2]) (by walk_at "ev") h1)) (sB rfl (uk (bg ?_)))
  have h3:=lenT hl
  have hc:fU d0 d0 (dC (.int 3)) (dCB dI (ag (ah 0) ar)) (dC (.int 20)) (e9 1 [.str (S l)])=M.ret (.bool (decide (3<=l.length/\l.length<=20))):=by
   have:=iu (h:=d0) (h':=d0) (f:=dC (.int 3)) (g:=dCB dI (ag (ah 0) ar)) (k:=dC (.int 20)) (δ:=e9 1 [.str (S l)]) ao (br (ac (af rfl) ak) h3) kf ao kf
   rw[this]
   congr 2
   rw[<-Bool.decide_and]
   refine decide_eq_decide.mpr ?_
   omega
  cases hb:im l with
  | false =>
   rw[hb] at h2
   refine lK hc ?_
   rw[Bool.false_and]
   exact sH (az (ds:=[.str (S l)]) (by walk_at "ev") h2)
  | true =>
   rw[hb] at h2
   refine lK hc (lK (az (ds:=[.str (S l)]) (by walk_at "ev") h2) ?_)
   cases l with
   | nil=>exact absurd rfl (qN hb)
   | cons c r =>
    refine ap (ap (af rfl) ao (yz (c:=c) hl (by decide) rfl)) ao ?_
    have:oNe (.str (S [c])) (.str (S [48]))=some (.bool (!decide ([c]=[48]))):=Bs (λd hd=>hu d (by rw[Ω] at hd;rw[hd];exact υ)) (by decide)
    refine Eq.trans this ?_
    congr 3
    refine decide_eq_decide.mpr ?_
    simp
end CT
namespace TX
theorem xR{l:List Nat}(c:Nat)(h:Uc l):Uc (pre c l):=λx hx=>h x ((List.takeWhile_sublist _).subset hx)
theorem lS{l:List Nat}(c:Nat)(h:Uc l):Uc (post c l):=λx hx=>h x ((List.dropWhile_sublist _).subset (List.mem_of_mem_drop hx))
noncomputable def pH(l:List Nat):List Nat:=pre 58 l
noncomputable def pM(l:List Nat):List Nat:=pre 58 (post 58 l)
noncomputable def pS(sg:Nat)(l:List Nat):List Nat:=pre sg (post 58 (post 58 l))
noncomputable def pT(sg:Nat)(l:List Nat):List Nat:=post sg (post 58 (post 58 l))
noncomputable def B9(sg k:Nat)(l:List Nat):Bool:=hrs (pH l)&&(six (pM l)&&six (pS sg l))&&m7 k (pT sg l)
theorem kT{k:Nat}{l:List Nat}(h:m7 k l=true):l.length=k/\im l=true:=by
 unfold m7 at h
 rw[Y0,decide_eq_true_eq] at h
 exact h
theorem o5{l:List Nat}(h:six l=true):l.length=2/\im l=true/\digitsVal l<60:=by
 unfold six at h
 rw[Y0,decide_eq_true_eq] at h
 exact⟨(kT h.1).1,(kT h.1).2,h.2⟩
theorem yD{l:List Nat}(h:hrs l=true):l.length<=20/\im l=true:=by
 unfold hrs at h
 simp only[Bool.or_eq_true,Y0,decide_eq_true_eq] at h
 rcases h with h | h
 ·have:=kT h
  exact⟨by omega,this.2⟩
 ·exact⟨h.1.2,h.2.1⟩
theorem m6{l:List Nat}(h:im l=true)(hl:l.length<=100):iP [.str (S l)]=some (.int ((digitsVal l:Nat):Int)):=qQ (sC h) (qN h) (by omega)
end TX
namespace CT
theorem Cm{δ:DS}{f:DS->M D}{z:Str}(h:f δ=M.ret (.str z)):dIs "str" f δ=M.ret (.bool true):=by
 rw[oN h]
 simp [isD,tyD]
theorem rO{l:List Nat}{sg k:Nat}(hl:l.length<=900)(hu:Uc l)(hk:k<=100)(hg:B9 sg k l=true) :
  fW [.str (S l),.str ⟨#[sg]⟩,.int (k:Nat)]=M.ret (.tuple [.int (digitsVal (pH l):Nat),.int (digitsVal (pM l):Nat),.int (digitsVal (pS sg l):Nat),.int (digitsVal (pT sg l):Nat)]):=by
 have hg0:=hg
 unfold B9 at hg0
 rw[Y0,Y0,Y0] at hg0
 obtain⟨⟨g1,g2,g3⟩,g4⟩:=hg0
 obtain⟨w1,p1⟩:=w8 (c:=58) (l:=l) (by omega)
 have l1:=tM 58 l
 obtain⟨w2,p2⟩:=w8 (c:=58) (l:=post 58 l) (by omega)
 have l2:=tM 58 (post 58 l)
 obtain⟨w3,p3⟩:=w8 (c:=sg) (l:=post 58 (post 58 l)) (by omega)
 have l3:=tM sg (post 58 (post 58 l))
 have e1:=uI (l:=pH l) (by unfold pH;omega) (xR _ hu)
 have e2:=jB (l:=pM l) (by unfold pM;omega) (xR _ (lS _ hu))
 have e3:=jB (l:=pS sg l) (by unfold pS;omega) (xR _ (lS _ (lS _ hu)))
 have e4:=io (l:=pT sg l) (k:=k) (by unfold pT;omega) (lS _ (lS _ (lS _ hu)))
 rw[g1] at e1
 rw[g2] at e2
 rw[g3] at e3
 rw[g4] at e4
 have i1:=m6 (yD g1).2 (by have:=(yD g1).1;omega)
 have i2:=m6 (o5 g2).2.1 (by have:=(o5 g2).1;omega)
 have i3:=m6 (o5 g3).2.1 (by have:=(o5 g3).1;omega)
 have i4:=m6 (kT g4).2 (by have:=(kT g4).1;omega)
 refine bq ?_
 unfold g9
 refine bN (b:=false) (d6 (b:=true) (bv (Cm (af rfl)))) rfl ?_
 refine aY (bF (cZ (af rfl) (ac ao ak) p1)) ?_
 refine aY (bF (cZ (ap (af rfl) ao rfl) (ac ao ak) p2)) ?_
 refine aY (bF (cZ (ap (af rfl) ao rfl) (ac (af rfl) ak) p3)) ?_
 refine bN (b:=false) (d6 (b:=true) (qW (b1:=true) (bv (az (ac (ap (af rfl) ao rfl) ak) e1)) (qW (b1:=true) (b2:=true) (bv (az (ac (ap (af rfl) ao rfl) ak) e2)) (bv (az (ac (ap (af rfl) ao rfl) ak) e3))))) rfl ?_
 refine bN (b:=false) (d6 (b:=true) (bv (az (ac (ap (af rfl) ao rfl) (ac (af rfl) ak)) e4))) rfl ?_
 refine bg (b8 (ac (br (ac (ap (af rfl) ao rfl) ak) i1) (ac (br (ac (ap (af rfl) ao rfl) ak) i2) (ac (br (ac (ap (af rfl) ao rfl) ak) i3) (ac (br (ac (ap (af rfl) ao rfl) ak) i4) ak)))) rfl)
end CT
namespace TX
theorem tU{v:Int}(h:v.natAbs<1267650600228229401496703205376):jr [.int v]=some (.str (Str.ofString (toString v))):=by
 refine if_pos ?_
 by_cases hz:v.natAbs=0
 ·rw[hz];decide
 ·have:v.natAbs.log2<100:=(Nat.log2_lt hz).mpr (by
   have e:(2:Nat) ^ 100=1267650600228229401496703205376:=by decide
   omega)
  omega
theorem vY{k n j:Nat}(h:n<10 ^ j):(fg k n).length<=k+j:=by
 unfold fg
 have:=nq j n h
 rw[ζ,U5]
 omega
theorem pads:∀k:Nat,k<=100->PadOk (k:Nat)=true:=λk hk=>(show ∀k:Nat,k<101->PadOk (k:Nat)=true by decide +kernel) k (by omega)
theorem EW{n k:Nat}(hk:1<=k)(hk2:k<=100):jK (Str.ofString (toString ((n:Nat):Int))) [.int (k:Nat)]=some (.str (S (fg k n))):=by
 unfold jK
 dsimp only
 rw[if_pos (pads k hk2),ze hk]
noncomputable def txt(sg k h m s t:Nat):List Nat:=fg 2 h++58::(fg 2 m++58::(fg 2 s++sg::fg k t))
theorem lP{n:Nat}(h:n≠0):∃c r,fS n=c::r/\c≠48:=by
 induction n using U8 with
 | _ n ih =>
  rw[eU h]
  by_cases hz:n / 10=0
  ·rw[hz,dY]
   exact⟨_,_,rfl,by omega⟩
  ·obtain⟨c,r,e,hc⟩:=ih (n / 10) (by omega) hz
   rw[e]
   exact⟨c,_,rfl,hc⟩
theorem Cg{k n:Nat}(hk:1<=k):fg k n≠[]:=by
 rw[EA (.inr (by omega))]
 simp
theorem hrs_fg{h:Nat}(hh:h<10 ^ 20):hrs (fg 2 h)=true:=by
 have hf:=m4 (Cg (k:=2) (n:=h) (by decide)) (cQ 2 h)
 unfold hrs m7
 by_cases h2:h<100
 ·rw[oh (k:=2) (by omega),hf]
  rfl
 ·have l1:=wg 2 h (by omega)
  have l2:=nq 20 h hh
  have e:fg 2 h=fS h:=by
   unfold fg
   rw[show 2-(fS h).length=0 by omega]
   rfl
  obtain⟨c,r,e2,hc⟩:=lP (n:=h) (by omega)
  rw[hf,e]
  rw[decide_eq_true (show 3<=(fS h).length/\(fS h).length<=20 by omega),e2,decide_eq_false (show ¬(U6 (c::r)=some 48) by simpa using hc)]
  simp
theorem AG{m:Nat}(hm:m<60):six (fg 2 m)=true:=by
 unfold six m7
 rw[oh (k:=2) (by omega),m4 (Cg (by decide)) (cQ 2 m),pK,decide_eq_true hm]
 rfl
theorem Et{k t:Nat}(hk:1<=k)(ht:t<10 ^ k):m7 k (fg k t)=true:=by
 unfold m7
 rw[oh ht,m4 (Cg hk) (cQ k t),decide_eq_true rfl]
 rfl
theorem xh{k n c:Nat}(hc:c<48\/57<c):c∉fg k n:=λh=>by
 have:=cQ k n c h
 omega
theorem sm{sg k h m s t:Nat}(hsg:sg<48\/57<sg):pH (txt sg k h m s t)=fg 2 h/\pM (txt sg k h m s t)=fg 2 m/\pS sg (txt sg k h m s t)=fg 2 s/\pT sg (txt sg k h m s t)=fg k t:=by
 unfold pH pM pS pT txt
 have e1:=iN (c:=58) (u:=fg 2 h) (v:=fg 2 m++58::(fg 2 s++sg::fg k t)) (xh (by omega))
 have e2:=iN (c:=58) (u:=fg 2 m) (v:=fg 2 s++sg::fg k t) (xh (by omega))
 have e3:=iN (c:=sg) (u:=fg 2 s) (v:=fg k t) (xh hsg)
 rw[e1.1,e1.2,e2.1,e2.2,e3.1,e3.2]
 exact⟨rfl,rfl,rfl,rfl⟩
theorem B8{sg k h m s t:Nat}(hsg:sg<48\/57<sg)(hh:h<10 ^ 20)(hm:m<60)(hs:s<60)(hk:1<=k)(ht:t<10 ^ k):B9 sg k (txt sg k h m s t)=true:=by
 obtain⟨e1,e2,e3,e4⟩:=sm (sg:=sg) (k:=k) (h:=h) (m:=m) (s:=s) (t:=t) hsg
 unfold B9
 rw[e1,e2,e3,e4,hrs_fg hh,AG hm,AG hs,Et hk ht]
 rfl
theorem Uc_txt{sg k h m s t:Nat}(hsg:sg<200):Uc (txt sg k h m s t):=by
 intro c hc
 unfold txt at hc
 simp only[Φ,Θ] at hc
 rcases hc with hc | rfl | hc | rfl | hc | rfl | hc
 ·have:=cQ _ _ c hc;omega
 ·omega
 ·have:=cQ _ _ c hc;omega
 ·omega
 ·have:=cQ _ _ c hc;omega
 ·omega
 ·have:=cQ _ _ c hc;omega
theorem xX{sg k h m s t:Nat}(hh:h<10 ^ 30)(hm:m<10 ^ 2)(hs:s<10 ^ 2)(ht:t<10 ^ k):(txt sg k h m s t).length<=39+k:=by
 have l1:=vY (k:=2) hh
 have l2:=oh hm
 have l3:=oh hs
 have l4:=oh ht
 unfold txt
 simp only[ζ,θ]
 omega
end TX
namespace DL
theorem lF(l:List Int):bj (l.map η)=true:=by
 induction l with
 | nil=>rfl
 | cons a r ih=>simp only[Δ,bj,dW,ih,Bool.and_self]
section
variable{δ δ':DS}{c:DS->M Bool}{f:DS->M D}{t:D->DS->Option DS}{y d:D}{ds ys:List D}
theorem v5(h1:t d δ=some δ')(hc:c δ'=M.ret true)(h2:f δ'=M.ret y)(h3:fA t (nX c) (nX f) ds δ'=M.ret ys):fA t (nX c) (nX f) (d::ds) δ=M.ret (y::ys):=by
 show(M.lift (t d δ)).thn _=_
 rw[h1,lz,aQ]
 show(noX (c δ')).thn _=_
 rw[hc]
 show(noX (f δ')).thn _=_
 rw[h2]
 show(fA _ _ _ _ _).thn _=_
 rw[h3]
 rfl
theorem v6(h1:t d δ=some δ')(hc:c δ'=M.ret false)(h3:fA t (nX c) (nX f) ds δ'=M.ret ys):fA t (nX c) (nX f) (d::ds) δ=M.ret ys:=by
 show(M.lift (t d δ)).thn _=_
 rw[h1,lz,aQ]
 show(noX (c δ')).thn _=_
 rw[hc]
 exact h3
end
theorem yE{T:List Int}{i:Nat}(h:i<T.length):oIx (.list (T.map η)) (.int (i:Int))=some (.int (T.getD i 0)):=by
 refine xo (by omega) ?_
 rw[W3,Z6,Y1 h,List.getD_eq_getElem?_getD,Y1 h]
 rfl
theorem du{body:D->DS->M Out}{d:D}{ds:List D}{δ δ':DS}{r:M Out}(h1:body d δ=M.ret (.nx δ'))(h2:jv body ds δ'=r):jv body (d::ds) δ=r:=by
 show(body d δ).thn _=_
 rw[h1]
 exact h2
section
variable{f fi:DS->M D}{δ:DS}{ds es:List D}{d:D}{i j m:Nat}{k n a:Int}
end
end DL
namespace CT
noncomputable def jn(c:Nat):List (List Nat)->List Nat
 | []=>[]
 | [a]=>a
 | a::b::r=>a++c::jn c (b::r)
theorem lA(c:Nat)(a:List Nat){r:List (List Nat)}(h:r≠[]):jn c (a::r)=a++c::jn c r:=by
 cases r with
 | nil=>exact absurd rfl h
 | cons b r=>rfl
theorem xn(c:Nat):∀ts:List (List Nat),(S [c]).join (ts.map S)=S (jn c ts)
 | []=>rfl
 | [a]=>rfl
 | a::b::r=>by
  have ih:=xn c (b::r)
  show S a++S [c]++(S [c]).join ((b::r).map S)=_
  rw[ih,wB,wB,Z4]
  rfl
noncomputable def tot:List (List Nat)->Nat
 | []=>0
 | a::r=>a.length+1+tot r
theorem mo(c:Nat):∀{ts:List (List Nat)},ts≠[]->(jn c ts).length+1=tot ts
 | [],h=>absurd rfl h
 | [a],_=>rfl
 | a::b::r,_=>by
  have ih:=mo c (ts:=b::r) (by simp)
  rw[lA c a (by simp),ζ,θ,tot]
  omega
theorem uV(ts:List (List Nat)):i0 (ts.map λl=>X8 (S l))=some (ts.map S):=by
 induction ts with
 | nil=>rfl
 | cons a r ih=>show(i0 (r.map _)).map _=_;rw[ih];rfl
theorem BV{c:Nat}{ts:List (List Nat)}(h:tot ts<=1000000):JoinOk (S [c]) (ts.map S)=true:=by
 have main:∀(ts:List (List Nat)) (a:Nat),(ts.map S).foldl (λx1 x2=>x1+x2.length+(S [c]).length) a=a+tot ts:=by
  intro ts
  induction ts with
  | nil=>intro a;rfl
  | cons t r ih =>
   intro a
   rw[Δ,List.foldl_cons,ih,dw,dw,tot]
   show a+t.length+1+tot r=_
   omega
 unfold JoinOk
 have e:=main ts 0
 rw[show Array.foldl (λx1 x2=>x1+x2.length+(S [c]).length) 0 (ts.map S).toArray=tot ts by rw[List.foldl_toArray' (h:=rfl),e];omega]
 show(!decide (tot ts > sizeLine))=true
 rw[sizeLine_eq,decide_eq_false (by omega)]
 rfl
theorem xa{c:Nat}{ts:List (List Nat)}(h:tot ts<=1000000):oB (S [c]) [.list (ts.map λl=>.str (S l))]=some (.str (S (jn c ts))):=by
 show(match i0 (ts.map λl=>X8 (S l)) with | some ts=>if JoinOk (S [c]) ts then some (X8 (Txt.join (S [c]) ts)) else none | none=>none)=_
 rw[uV]
 show(if JoinOk (S [c]) (ts.map S)=true then some (X8 (Builtin.Str.glued (S [c]) (ts.map S))) else none)=_
 rw[if_pos (BV h),StrLaws.glued_eq_join,xn]
theorem BX{c:Nat}:∀{ts us:List (List Nat)},ts≠[]->us≠[]->(∀t∈ts,c∉t)->(∀t∈us,c∉t)->jn c ts=jn c us->ts=us
 | [],_,h,_,_,_,_=>absurd rfl h
 | _,[],_,h,_,_,_=>absurd rfl h
 | [a],[b],_,_,_,_,e=>by rw[show a=b from e]
 | [a],b::b'::us,_,_,h1,_,e=>by
  have e:a=b++c::jn c (b'::us):=e
  exact absurd (by rw[e];simp:c∈a) (h1 a υ)
 | a::a'::ts,[b],_,_,_,h2,e=>by
  have e:a++c::jn c (a'::ts)=b:=e
  exact absurd (by rw[<-e];simp:c∈b) (h2 b υ)
 | a::a'::ts,b::b'::us,_,_,h1,h2,e=>by
  have e:a++c::jn c (a'::ts)=b++c::jn c (b'::us):=e
  have p1:=iN (v:=jn c (a'::ts)) (h1 a υ)
  have p2:=iN (v:=jn c (b'::us)) (h2 b υ)
  rw[e] at p1
  have q1:b=a:=p2.1.symm.trans p1.1
  have q2:jn c (b'::us)=jn c (a'::ts):=p2.2.symm.trans p1.2
  have ih:=BX (ts:=a'::ts) (us:=b'::us) (by simp) (by simp) (λt ht=>h1 t (χ _ ht)) (λt ht=>h2 t (χ _ ht)) q2.symm
  rw[q1,ih]
theorem AF(x y:Str):Txt.split x y≠[]:=by
 unfold Txt.split
 split
 ·simp
 ·split
  ·simp
  ·intro z
   have:=congrArg V8 z
   rw[length_partsBetween] at this
   simp at this
theorem uZ{c:Nat}{ts:List (List Nat)}(h0:ts≠[])(h:∀t∈ts,c∉t):Txt.split (S (jn c ts)) (S [c])=ts.map S:=by
 have e1:=StrLaws.join_split (S (jn c ts)) (S [c])
 have e2:∀p,p∈Txt.split (S (jn c ts)) (S [c])->¬c∈p.cps.toList:=λp=>StrLaws.split_free (S (jn c ts)) c p
 have e3:=AF (S (jn c ts)) (S [c])
 generalize Txt.split (S (jn c ts)) (S [c])=ps at *
 have hp:ps=(ps.map λp=>p.cps.toList).map S:=by
  rw[X0]
  conv=>lhs;rw[<-List.map_id ps]
  exact List.map_congr_left λp _=>(S_L p).symm
 rw[hp,xn] at e1
 have e4:=CP e1
 have:=BX (by simpa using e3) h0 (λt ht=>by
  obtain⟨p,hp,rfl⟩:=W6.mp ht
  exact e2 p hp) h e4
 rw[hp,this]
theorem ua:∀ts:List (List Nat),ts.length<=tot ts
 | []=>X9 _
 | a::r=>by have:=ua r;rw[θ,tot];omega
theorem pj{c:Nat}{ts:List (List Nat)}(h0:ts≠[])(h:∀t∈ts,c∉t)(hz:tot ts<=1000000):mf (S (jn c ts)) [.str (S [c])]=some (.list (ts.map λl=>.str (S l))):=by
 have hl:=mo c h0
 show(if mM (S (jn c ts)) (S [c])=true then some (Z1 ((Txt.split (S (jn c ts)) (S [c])).map X8)) else none)=_
 have ok:mM (S (jn c ts)) (S [c])=true:=by
  unfold mM
  have h1:((S [c]).length==0)==false:=by rw[dw];rfl
  have h2:bi (S (jn c ts)).length=true:=aW (by rw[dw];omega)
  have hts:=ua ts
  have h3:bi (Txt.split (S (jn c ts)) (S [c])).length=true:=aW (by rw[uZ h0 h,ι];omega)
  have h4:bi (Builtin.Str.partsBetween (S (jn c ts)) (Builtin.Str.occurrences (S (jn c ts)) (S [c]) 0 (S (jn c ts)).length ((S (jn c ts)).length+1)) (S [c]).length).length=true:=aW (by
   rw[length_partsBetween]
   have:=StrLaws.occ_length_le (S (jn c ts)) (S [c]) 0 (S (jn c ts)).length ((S (jn c ts)).length+1)
   rw[dw] at this ⊢
   omega)
  rw[h1,h2,h3,h4]
  rfl
 rw[if_pos ok,uZ h0 h,X0]
 rfl
theorem qh{l:List Nat}(hl:l.length<=900)(hu:Uc l)(hg:B9 46 3 l=true) :
  eY [.str (S l)]=M.ret (.int (1000*(60*(60*(digitsVal (pH l):Nat)+(digitsVal (pM l):Nat))+(digitsVal (pS 46 l):Nat))+(digitsVal (pT 46 l):Nat))):=by
 have h1:=rO hl hu (by decide) hg
 refine bq ?_
 unfold gq
 refine aY (bF (by first | exact az (ac (af rfl) (ac ao (ac ao ak))) h1 | exact Cq (ac (af rfl) (ac ao (ac ao ak))) h1)) ?_
 clear h1
 obtain⟨a,ha⟩:∃a:Int,a=((digitsVal (pH l):Nat):Int):=⟨_,rfl⟩
 obtain⟨b,hb⟩:∃a:Int,a=((digitsVal (pM l):Nat):Int):=⟨_,rfl⟩
 obtain⟨c,hc⟩:∃a:Int,a=((digitsVal (pS 46 l):Nat):Int):=⟨_,rfl⟩
 obtain⟨d,hd⟩:∃a:Int,a=((digitsVal (pT 46 l):Nat):Int):=⟨_,rfl⟩
 rw[<-ha,<-hb,<-hc,<-hd]
 walk_at "ev"
abbrev tx(l:List Nat):D:=.str (S l)
theorem w9{l:List Nat}(h:l.length<=1000000):dI [.str (S l)]=some (.int ((l.length:Nat):Int)):=by
 show(if bi (S l).length=true then _ else _)=_
 rw[dw,if_pos (aW (by omega))]
structure Wd(w:List Nat):Prop where
 ne:w≠[]
 free:∀c∈w,33<=c/\c<128
 len:w.length<=40
theorem Wd.no{w:List Nat}(h:Wd w):32∉w:=λz=>by have:=h.free 32 z;omega
end CT
namespace DL
theorem BA{d:D}(hc:d.canLay0=true)(hd:d.depth<=60):oNe d d=some (.bool false):=by
 unfold oNe flat
 rw[hc,decide_eq_true (by omega:min d.depth d.depth<=60),SeqAt.eqv_refl _ hc]
 rfl
theorem Cr{d:D}(hc:d.canLay0=true)(hd:d.depth<=60):oEq d d=some (.bool true):=by
 unfold oEq flat
 rw[hc,decide_eq_true (by omega:min d.depth d.depth<=60),SeqAt.eqv_refl _ hc]
 rfl
end DL
namespace CT
def wsg(c:Nat):Prop:=33<=c/\c<=126/\c≠37
structure Wq(w:List Nat):Prop where
 ne:w≠[]
 sg:∀c∈w,wsg c
 len:w.length<=30
theorem Wq.wd{w:List Nat}(h:Wq w):Wd w:=⟨h.ne,λc hc=>by have:=h.sg c hc;unfold wsg at this;omega,by have:=h.len;omega⟩
theorem BN(a b:Nat):(([a]:List Nat)<[b])↔a<b:=by
 constructor
 ·intro h
  cases h with
  | rel h=>exact h
  | cons h=>cases h
 ·exact λh=>.rel h
theorem px(a b:Nat):d0 (.str (S [a])) (.str (S [b]))=some (.bool (decide (a<=b))):=by
 show some (Y6 (!decide ((S [b]).cps.toList<(S [a]).cps.toList)))=_
 rw[L_S,L_S]
 by_cases h:a<=b
 ·rw[decide_eq_true h,decide_eq_false (by rw[BN];omega)];rfl
 ·rw[decide_eq_false h,decide_eq_true (by rw[BN];omega)];rfl
theorem o_ord(c:Nat):DY [.str (S [c])]=some (.int (c:Int)):=rfl
theorem ti{c:Nat}(h:wsg c):dz [.str (S [c])]=M.ret (.bool true):=by
 unfold wsg at h
 refine bq ?_
 unfold fM
 refine bg (h8 ?_ (ap (x:=.int (c:Int)) (br (ac (af rfl) ak) (o_ord c)) ao (by rw[o_ne,decide_eq_false (by omega)];rfl)))
 exact iu (x:=.str (S [33])) (y:=.str (S [c])) (w:=.str (S [126])) (b1:=true) (b2:=true) ao (af rfl) (by rw[px,decide_eq_true h.1]) ao (by rw[px,decide_eq_true h.2.1])
theorem allT{α:Type}(l:List α):(l.map λ_=>true).all id=true:=by
 induction l with
 | nil=>rfl
 | cons a r ih=>exact ih
theorem xK(l:List Bool):kj (l.map Y6)=some l:=by
 induction l with
 | nil=>rfl
 | cons a r ih=>show(kj (r.map Y6)).map _=_;rw[ih];rfl
theorem xb{α:Type}(l:List α):xf [.list ((l.map λ_=>true).map Y6)]=some (.bool true):=by
 show(kj ((l.map λ_=>true).map Y6)).map _=_
 rw[xK]
 show some (Y6 ((l.map λ_=>true).all id))=_
 rw[allT]
theorem yf(w:List Nat):ff (S w)=w.map λc=>.str (S [c]):=by
 unfold ff
 rw[L_S]
 rfl
theorem xq{w:List Nat}(h:Wq w):h9 [tx w]=M.ret (.bool true):=by
 have hl:=w9 (l:=w) (by have:=h.len;omega)
 have h1:=V3.mpr h.ne
 have h2:=h.len
 refine bq ?_
 unfold lD
 refine bg (h8 ?_ (br (ac (x:=.list ((w.map λ_=>true).map Y6)) (eT (ds:=w.map λc=>.str (S [c])) (gR (x:=tx w) (af rfl) (by show some (ff (S w))=_;rw[yf])) (aW (by rw[ι];omega)) ?_) ak) (xb w)))
 ·exact iu (x:=.int 1) (y:=.int ((w.length:Nat):Int)) (w:=.int 30) (b1:=true) (b2:=true) ao (br (ac (af rfl) ak) hl) (by rw[kf,decide_eq_true (by omega)]) ao (by rw[kf,decide_eq_true (by omega)])
 ·have main:∀(w:List Nat) (x:Sl),(∀c∈w,wsg c)->fA (tgN 0) (nX lW) (nX (aH (λds=>noX (dz ds)) (ag (ah 0) ar))) (w.map λc=>.str (S [c])) [x]=M.ret ((w.map λ_=>true).map Y6):=by
   intro w
   induction w with
   | nil=>intro x _;rfl
   | cons c w ih=>intro x hw;exact eo (δ':=[.vl (.str (S [c]))]) rfl (az (ac (af rfl) ak) (ti (hw c υ))) (ih _ λd hd=>hw d (χ _ hd))
  exact main w .un h.sg
theorem uH{ws:List (List Nat)}(h:∀w∈ws,Wq w)(h0:ws≠[])(hz:tot ws<=100000):gI [tx (jn 32 ws)]=M.ret (.bool true):=by
 have hs:=pj h0 (λw hw=>(h w hw).wd.no) (by omega)
 have hl:=ua ws
 refine bq ?_
 unfold iS
 refine bg (h8 (oN (d:=tx (jn 32 ws)) (af rfl)) (br (ac (x:=.list ((ws.map λ_=>true).map Y6)) (eT (ds:=ws.map λl=>.str (S l)) (gR (x:=.list (ws.map λl=>.str (S l))) (cZ (af rfl) (ac ao ak) hs) rfl) (aW (by rw[ι];omega)) ?_) ak) (xb ws)))
 clear hs hl hz h0
 have main:∀(ws:List (List Nat)) (x:Sl),(∀w∈ws,Wq w)->fA (tgN 0) (nX lW) (nX (aH (λds=>noX (h9 ds)) (ag (ah 0) ar))) (ws.map λl=>.str (S l)) [x]=M.ret ((ws.map λ_=>true).map Y6):=by
  intro w
  induction w with
  | nil=>intro x _;rfl
  | cons c w ih=>intro x hw;exact eo (δ':=[.vl (tx c)]) rfl (az (ac (af rfl) ak) (xq (hw c υ))) (ih _ λd hd=>hw d (χ _ hd))
 exact main ws .un h
structure Hd(h:List Nat):Prop where
 ne:h≠[]
 sg:∀c∈h,97<=c/\c<=122
 len:h.length<=8
theorem qL{h:List Nat}(hh:Hd h):gm [tx h]=M.ret (.bool true):=by
 have h2:=hh.len
 have hl:=w9 (l:=h) (by omega)
 have h1:=V3.mpr hh.ne
 refine bq ?_
 unfold lE
 refine bN (b:=false) (yP (b1:=false) (b2:=false) (d6 (b:=true) (bv (oN (d:=tx h) (af rfl)))) (d6 (b:=true) (bv ?_))) rfl ?_
 ·exact iu (x:=.int 1) (y:=.int ((h.length:Nat):Int)) (w:=.int 8) (b1:=true) (b2:=true) ao (br (ac (af rfl) ak) hl) (by rw[kf,decide_eq_true (by omega)]) ao (by rw[kf,decide_eq_true (by omega)])
 ·refine bg (br (ac (x:=.list ((h.map λ_=>true).map Y6)) (eT (ds:=h.map λc=>.str (S [c])) (gR (x:=tx h) (af rfl) (by show some (ff (S h))=_;rw[yf])) (aW (by rw[ι];omega)) ?_) ak) (xb h))
  have main:∀(w:List Nat) (x:Sl),(∀c∈w,97<=c/\c<=122)->fA (tgN 0) (nX lW) (nX (fU d0 d0 (dC (.str "a")) (ah 0) (dC (.str "z")))) (w.map λc=>.str (S [c])) [x]=M.ret ((w.map λ_=>true).map Y6):=by
   intro w
   induction w with
   | nil=>intro x _;rfl
   | cons c w ih =>
    intro x hw
    have hc:=hw c υ
    exact eo (δ':=[.vl (.str (S [c]))]) rfl (iu (x:=.str (S [97])) (y:=.str (S [c])) (w:=.str (S [122])) (b1:=true) (b2:=true) ao (af rfl) (by rw[px,decide_eq_true hc.1]) ao (by rw[px,decide_eq_true hc.2])) (ih _ λd hd=>hw d (χ _ hd))
  exact main h .un hh.sg
noncomputable def cu(b e:Int)(h w:List Nat):D:=.tuple [.int b,.int e,tx h,tx w]
theorem oK(i:Int):gl [.int i]=M.ret (.bool true):=rfl
theorem zS{b e:Int}{h:List Nat}{ws:List (List Nat)}(hb:0<=b)(he:b<e)(hh:Hd h)(hw:∀w∈ws,Wq w)(h0:ws≠[])(hz:tot ws<=100000):lq [cu b e h (jn 32 ws)]=M.ret (.bool true):=by
 have hn:=qL hh
 have ha:=uH hw h0 hz
 refine bq ?_
 unfold nh cu
 refine bN (b:=false) (yP (b1:=false) (b2:=false) (d6 (b:=true) (bv (oN (d:=.tuple [.int b,.int e,tx h,tx (jn 32 ws)]) (af rfl)))) (bv (ap (br (ac (af rfl) ak) Bt) ao rfl))) rfl ?_
 refine bN (b:=false) (yP (b1:=false) (b2:=false) (d6 (b:=true) (bv (az (ds:=[.int b]) (ac (ap (af rfl) ao rfl) ak) (oK b)))) (d6 (b:=true) (bv (az (ds:=[.int e]) (ac (ap (af rfl) ao rfl) ak) (oK e))))) rfl ?_
 refine bg (h8 ?_ (h8 (az (ds:=[tx h]) (ac (ap (af rfl) ao rfl) ak) hn) (az (ds:=[tx (jn 32 ws)]) (ac (ap (af rfl) ao rfl) ak) ha)))
 exact iu (x:=.int 0) (y:=.int b) (w:=.int e) (b1:=true) (b2:=true) ao (ap (af rfl) ao rfl) (by rw[kf,decide_eq_true hb]) (ap (af rfl) ao rfl) (by rw[qy,decide_eq_true he])
end CT
namespace TX
noncomputable def idx(c:Nat):List Nat->Nat->List Nat
 | [],_=>[]
 | x::r,k=>if x=c then k::idx c r (k+1) else idx c r (k+1)
theorem mK(w:List Nat)(c i:Nat):Builtin.Str.subAt (S w) (S [c]) i=true↔w[i]?=some c:=by
 unfold Builtin.Str.subAt S
 rw[beq_iff_eq,<-Array.toList_inj]
 show(w.toArray.extract i (i+1)).toList=[c]↔_
 rw[Array.toList_extract,List.extract_eq_drop_take]
 show((w.drop i).take (i+1-i))=[c]↔_
 rw[V4]
 cases h:w.drop i with
 | nil =>
  have:=List.drop_eq_nil_iff.mp h
  rw[List.getElem?_eq_none this]
  simp
 | cons x r =>
  have e:w[i]?=(w.drop i)[0]?:=by rw[List.getElem?_drop];rfl
  rw[e,h]
  simp
theorem mW(w:List Nat)(c limit:Nat):∀(n i:Nat) (st:Array Nat) (free:Nat),i+n=w.length+1->free<=i->st.size<=limit->(forIn (List.range' i n) (st,free) (StrLaws.occBody (S w) (S [c]) w.length limit)).run.fst.toList=st.toList++(idx c (w.drop i) i).take (limit-st.size)
 | 0,i,st,free,e,_,_=>by
  rw[List.drop_eq_nil_of_le (by omega)]
  show st.toList=st.toList++(([]:List Nat).take _)
  rw[List.take_nil,Z7]
 | n+1,i,st,free,e,hf,hs=>by
  rw[List.range'_succ,List.forIn_cons]
  have hl:(S [c]).length=1:=by rw[dw];rfl
  have yes:((st.size<limit/\free<=i)/\i+1<=w.length)/\w[i]?=some c->StrLaws.occBody (S w) (S [c]) w.length limit i (st,free)=pure (ForInStep.yield (st.push i,i+1)):=λz=>by
   unfold StrLaws.occBody
   rw[if_pos ⟨⟨z.1.1,by rw[hl];exact z.1.2⟩,(mK w c i).mpr z.2⟩,hl]
  have no:¬(((st.size<limit/\free<=i)/\i+1<=w.length)/\w[i]?=some c)->StrLaws.occBody (S w) (S [c]) w.length limit i (st,free)=pure (ForInStep.yield (st,free)):=λz=>by
   unfold StrLaws.occBody
   rw[if_neg λq=>z ⟨⟨q.1.1,by have:=q.1.2;rw[hl] at this;exact this⟩,(mK w c i).mp q.2⟩]
  by_cases hi:i<w.length
  ·have hd:w.drop i=w[i]::w.drop (i+1):=List.drop_eq_getElem_cons hi
   rw[hd]
   by_cases hc:w[i]=c
   ·have e1:idx c (w[i]::w.drop (i+1)) i=i::idx c (w.drop (i+1)) (i+1):=if_pos hc
    rw[e1]
    by_cases hz:st.size<limit
    ·rw[yes ⟨⟨⟨hz,hf⟩,by omega⟩,by rw[Y1 hi,hc]⟩]
     have ih:=mW w c limit n (i+1) (st.push i) (i+1) (by omega) (ρ _) (by rw[Array.size_push];omega)
     refine ih.trans ?_
     rw[Array.toList_push,Array.size_push,Z4]
     obtain⟨k,hk⟩:∃k,limit-st.size=k+1:=⟨limit-st.size-1,by omega⟩
     rw[hk,show limit-(st.size+1)=k by omega,List.take_succ_cons]
     rfl
    ·rw[no (λz=>hz z.1.1.1)]
     have ih:=mW w c limit n (i+1) st free (by omega) (by omega) hs
     refine ih.trans ?_
     rw[show limit-st.size=0 by omega]
     rfl
   ·rw[no (λz=>hc (by have:=z.2;rw[Y1 hi] at this;exact Option.some.inj this))]
    have e1:idx c (w[i]::w.drop (i+1)) i=idx c (w.drop (i+1)) (i+1):=if_neg hc
    rw[e1]
    exact mW w c limit n (i+1) st free (by omega) (by omega) hs
  ·rw[no (λz=>by have:=z.1.2;omega)]
   rw[List.drop_eq_nil_of_le (by omega)]
   have ih:=mW w c limit n (i+1) st free (by omega) (by omega) hs
   rw[List.drop_eq_nil_of_le (by omega)] at ih
   exact ih
theorem Bq(w:List Nat)(c limit:Nat):Builtin.Str.occurrences (S w) (S [c]) 0 (S w).length limit=(idx c w 0).take limit:=by
 rw[StrLaws.occ_eq,dw]
 exact mW w c limit (w.length+1) 0 #[] 0 (by omega) (ρ _) (X9 _)
theorem vU{c:Nat}:∀{a:List Nat} (b:List Nat) (k:Nat),c∉a->idx c (a++b) k=idx c b (k+a.length)
 | [],b,k,_=>rfl
 | x::a,b,k,h=>by
  have h1:¬x=c:=λz=>h (z▸υ)
  show(if x=c then _ else idx c (a++b) (k+1))=_
  rw[if_neg h1,vU b (k+1) λz=>h (χ _ z),θ]
  congr 1
  omega
theorem xu{c:Nat}{a:List Nat}(b:List Nat)(k:Nat)(h:c∉a):idx c (a++c::b) k=(k+a.length)::idx c b (k+a.length+1):=by
 rw[vU _ k h]
 exact if_pos rfl
theorem yb(w:List Nat)(i j:Nat):Builtin.Str.strSub (S w) i j=S ((w.drop i).take (j-i)):=by
 rw[<-S_L (Builtin.Str.strSub _ _ _),StrLaws.strSub_toList,L_S]
theorem zP{w:List Nat}{c:Nat}(h:∀x∈w,x<128)(hc:c<128):(decide ((S w).length<(S [c]).length)||decide (Builtin.Str.strKind (S w)<Builtin.Str.strKind (S [c])))=decide (w.length<1):=by
 have k1:Builtin.Str.strKind (S w)=1:=by
  unfold Builtin.Str.strKind S
  rw[if_pos (by simp;intro i hi;have:=h _ hi;omega)]
 have k2:Builtin.Str.strKind (S [c])=1:=by
  unfold Builtin.Str.strKind S
  rw[if_pos (by simp;omega)]
 rw[k1,k2,dw,dw]
 simp
theorem zk{a b d e:List Nat}{c:Nat}(hc:c<128)(ha:c∉a)(hb:c∉b)(hd:c∉d)(hw:∀x∈a++c::(b++c::(d++c::e)),x<128):Txt.splitMax (S (a++c::(b++c::(d++c::e)))) (S [c]) 3=[S a,S b,S d,S e]:=by
 obtain⟨w,hwd⟩:∃w,w=a++c::(b++c::(d++c::e)):=⟨_,rfl⟩
 have hl:w.length=a.length+(b.length+(d.length+(e.length+1)+1)+1):=by rw[hwd];simp
 have ho:Builtin.Str.occurrences (S w) (S [c]) 0 (S w).length (limitOf (S w) 3)=[a.length,a.length+1+b.length,a.length+1+b.length+1+d.length]:=by
  rw[Bq,hwd,xu _ _ ha,xu _ _ hb,xu _ _ hd,Nat.zero_add]
  rfl
 rw[<-hwd] at hw ⊢
 unfold Txt.splitMax
 rw[zP hw hc,decide_eq_false (by omega),if_neg Ξ,ho,if_neg (by simp)]
 unfold Builtin.Str.partsBetween
 have hc1:(S [c]).length=1:=by rw[dw];rfl
 rw[hc1]
 show [Builtin.Str.strSub (S w) 0 a.length,Builtin.Str.strSub (S w) (a.length+1) (a.length+1+b.length),Builtin.Str.strSub (S w) (a.length+1+b.length+1) (a.length+1+b.length+1+d.length),Builtin.Str.strSub (S w) (a.length+1+b.length+1+d.length+1) (S w).length]=_
 rw[yb,yb,yb,yb,dw]
 have d1:w.drop (a.length+1)=b++c::(d++c::e):=by rw[hwd,<-W2,List.drop_left];rfl
 have d2:w.drop (a.length+1+b.length+1)=d++c::e:=by rw[<-W2,<-W2,d1,List.drop_left];rfl
 have d3:w.drop (a.length+1+b.length+1+d.length+1)=e:=by rw[<-W2,<-W2,d2,List.drop_left];rfl
 rw[d1,d2,d3,List.drop_zero,Nat.sub_zero,V4,V4]
 have t1:w.take a.length=a:=by rw[hwd,List.take_left]
 rw[t1,List.take_left,List.take_left,List.take_of_length_le (by omega)]
end TX
namespace CT
structure Rl where
 lo:Nat
 hi:Nat
 le:Int
 w:Option Int
 why:D
noncomputable def wD:Option Int->D
 | none=>.none
 | some w=>.int w
noncomputable def rl(r:Rl):D:=.tuple [.int (r.lo:Int),.int (r.hi:Int),.int r.le,wD r.w,r.why]
noncomputable def lk(T:List Int)(r:Rl):Int:=max 0 (r.le-(T.getD r.hi 0-T.getD r.lo 0))
def Pts(n:Nat)(rs:List Rl):Prop:=∀r∈rs,r.lo<n/\r.hi<n
theorem Ej(r:Rl):cC [rl r]=M.ret (.bool r.w.isNone):=by
 refine bq ?_
 unfold fL
 refine bg (ap (x:=wD r.w) (y:=.none) (ap (af rfl) ao rfl) ao ?_)
 cases r.w<;>rfl
noncomputable def brk(T:List Int):Nat->List Rl->List Int
 | _,[]=>[]
 | k,r::rs=>if r.w.isNone=true/\0<lk T r then (k:Int)::brk T (k+1) rs else brk T (k+1) rs
theorem lL:∀(n:Nat) (xs:List D) (i:Nat),(fv n xs)[i]?=xs[i]?.map λx=>.tuple [.int ((n+i:Nat):Int),x]
 | n,[],i=>by simp [fv]
 | n,x::xs,0=>by simp [fv]
 | n,x::xs,i+1=>by
  rw[fv,List.getElem?_cons_succ,List.getElem?_cons_succ,lL (n+1) xs i,show n+1+i=n+(i+1) by omega]
theorem xm{T:List Int}{r:Rl}(h1:r.lo<T.length)(h2:r.hi<T.length):gk [rl r,.list (T.map η)]=M.ret (.int (lk T r)):=by
 have a1:=yE h1
 have a2:=yE h2
 refine bq ?_
 unfold lC
 unfold rl
 walk_at "ev"
 exact oF
theorem Ao{T:List Int}{rs:List Rl}(hp:Pts T.length rs)(hz:rs.length<=16000000):lr [.list (rs.map rl),.list (T.map η)]=M.ret (.list ((brk T 0 rs).map η)):=by
 refine bq ?_
 unfold ni
 refine bg (eT (kW (ac (af rfl) ak)) (aW (by rw[oi,ι];exact hz)) ?_)
 have main:∀(rs:List Rl) (k:Nat) (x0 x1:Sl),Pts T.length rs->fA (ee 2 (aX (tgN 0) (aX (tgN 1) eM))) (nX (jy (dB (aH (λds=>noX (cC ds)) (ag (ah 1) ar))) (dB (d2 oGt (aH (λds=>noX (gk ds)) (ag (ah 1) (ag (ah 2) ar))) (dC (.int 0)))))) (nX (ah 0)) (fv k (rs.map rl)) [x0,x1,.vl (.list (T.map η))]=M.ret ((brk T k rs).map η):=by
  intro rs
  induction rs with
  | nil=>intro k x0 x1 _;rfl
  | cons r rs ih =>
   intro k x0 x1 h
   have h':Pts T.length rs:=λq hq=>h q (χ _ hq)
   have hk:=Ej r
   have hl:=xm (T:=T) (h r υ).1 (h r υ).2
   have ih:=ih (k+1) (.vl (.int (k:Int))) (.vl (rl r)) h'
   have ev1:dB (aH (λds=>noX (cC ds)) (ag (ah 1) ar)) [.vl (.int (k:Int)),.vl (rl r),.vl (.list (T.map η))]=M.ret r.w.isNone:=bv (az (ac (af rfl) ak) hk)
   have ev2:dB (d2 oGt (aH (λds=>noX (gk ds)) (ag (ah 1) (ag (ah 2) ar))) (dC (.int 0))) [.vl (.int (k:Int)),.vl (rl r),.vl (.list (T.map η))]=M.ret (decide (0<lk T r)):=bv (ap (az (ac (af rfl) (ac (af rfl) ak)) hl) ao vG)
   have ec:=qW ev1 ev2
   by_cases hb:r.w.isNone=true/\0<lk T r
   ·rw[show brk T k (r::rs)=(k:Int)::brk T (k+1) rs from if_pos hb,Δ,Δ]
    refine v5 (δ':=[.vl (.int (k:Int)),.vl (rl r),.vl (.list (T.map η))]) rfl ?_ (af rfl) ih
    rw[ec,hb.1,decide_eq_true hb.2];rfl
   ·rw[show brk T k (r::rs)=brk T (k+1) rs from if_neg hb,Δ]
    refine v6 (δ':=[.vl (.int (k:Int)),.vl (rl r),.vl (.list (T.map η))]) rfl ?_ ih
    rw[ec]
    by_cases h1:r.w.isNone=true
    ·have h2:¬0<lk T r:=λz=>hb ⟨h1,z⟩
     rw[h1,decide_eq_false h2];rfl
    ·rw[Bool.eq_false_iff.mpr h1];rfl
 exact main rs 0 .un .un hp
structure Set7 where
 sign:Int
 least:Int
 most:Int
 apart:Int
 shy:Int
 beg:Int
 fin:Int
noncomputable def stE(s:Set7):List (Key×D):=[(.inr "sign",.int s.sign),(.inr "least",.int s.least),(.inr "most",.int s.most),(.inr "apart",.int s.apart),(.inr "shy",.int s.shy),(.inr "begin",.int s.beg),(.inr "end",.int s.fin)]
noncomputable def stD(s:Set7):D:=.dict ((stE s).map λe=>(il e.1,e.2))
theorem xx(s:Set7):bT (stD s) (.str "sign")=some (.int s.sign):=by kernel_rfl
theorem ug(s:Set7):bT (stD s) (.str "least")=some (.int s.least):=by kernel_rfl
theorem xy(s:Set7):bT (stD s) (.str "most")=some (.int s.most):=by kernel_rfl
theorem uh(s:Set7):bT (stD s) (.str "apart")=some (.int s.apart):=by kernel_rfl
theorem na(s:Set7):bT (stD s) (.str "shy")=some (.int s.shy):=by kernel_rfl
theorem Ce(s:Set7):bT (stD s) (.str "begin")=some (.int s.beg):=by kernel_rfl
theorem Cd(s:Set7):bT (stD s) (.str "end")=some (.int s.fin):=by kernel_rfl
noncomputable def mk(lo hi le:Int)(w why:D):D:=.tuple [.int lo,.int hi,.int le,w,why]
noncomputable def wh1(x:Str)(n:Int):D:=.tuple [.str x,.int n]
noncomputable def wh2(x:Str)(n k:Int):D:=.tuple [.str x,.int n,.int k]
structure Cu where
 b:Int
 e:Int
 h:Str
 w:Str
 L:Int
noncomputable def cuD(c:Cu):D:=.tuple [.int c.b,.int c.e,.str c.h,.str c.w]
def uC(c:Cu):Prop:=dI [.str c.w]=some (.int c.L)/\0<=c.L/\c.L<=1000000
theorem sS(n:Int):bb [.int n]=M.ret (.int (2*n+1)):=by
 refine bq ?_
 unfold gr
 exact bg (ap (ap ao (af rfl) (oE (rG (by decide) (by decide)))) ao cr)
theorem yT(n:Int):bX [.int n]=M.ret (.int (2*n+2)):=by
 refine bq ?_
 unfold iR
 exact bg (ap (ap ao (af rfl) (oE (rG (by decide) (by decide)))) ao cr)
noncomputable def vK(s:Set7)(c:Cu):Int:=max s.least (s.sign*c.L)
noncomputable def iH(s:Set7)(c:Cu)(n:Int):List D:=[mk 0 (2*n+1) 0 .none (wh1 "start" n),mk (2*n+1) (2*n+2) (vK s c) .none (wh1 "long" n),mk (2*n+2) (2*n+1) (-s.most) .none (wh1 "most" n)]
noncomputable def ku(s:Set7)(c:Cu)(n:Int):List D:=[mk 0 (2*n+1) c.b (.int s.beg) (wh1 "wish" n),mk (2*n+1) 0 (-c.b) (.int s.beg) (wh1 "wish" n),mk 0 (2*n+2) c.e (.int s.fin) (wh1 "wish" n),mk (2*n+2) 0 (-c.e) (.int s.fin) (wh1 "wish" n)]
theorem CO(s:Set7){c:Cu}(hc:uC c)(n:Int):dZ [stD s,cuD c,.int n]=M.ret (.list (iH s c n)):=by
 obtain⟨c1,c2,c3⟩:=hc
 refine bq ?_
 unfold gn
 refine cY (bF (az (ac (af rfl) ak) (sS n))) ?_
 refine cY (bF (az (ac (af rfl) ak) (yT n))) ?_
 refine cY (bF (d:=.int (vK s c)) (br (ac (ap (af rfl) ao (ug s)) (ac (ap (ap (af rfl) ao (xx s)) (br (ac (ap (x:=cuD c) (d:=.str c.w) (af rfl) ao rfl) ak) c1) (oE (xN (by omega) (by omega)))) ak)) oF)) ?_
 refine bg (v8 (ds:=iH s c n) (dL (ac (b8 (ac ao (ac (af rfl) (ac ao (ac ao (ac (b8 (ac ao (ac (af rfl) ak)) rfl) ak))))) rfl) (ac (b8 (ac (af rfl) (ac (af rfl) (ac (af rfl) (ac ao (ac (b8 (ac ao (ac (af rfl) ak)) rfl) ak))))) rfl) (ac (b8 (ac (af rfl) (ac (af rfl) (ac (mt (ap (af rfl) ao (xy s)) rfl) (ac ao (ac (b8 (ac ao (ac (af rfl) ak)) rfl) ak))))) rfl) ak))) rfl) rfl)
theorem CY(s:Set7)(c:Cu)(n:Int):jD [stD s,cuD c,.int n]=M.ret (.list (ku s c n)):=by
 refine bq ?_
 unfold m9
 refine cY (bF (az (ac (af rfl) ak) (sS n))) ?_
 refine cY (bF (az (ac (af rfl) ak) (yT n))) ?_
 refine cY (bF (d:=wh1 "wish" n) (b8 (ac ao (ac (af rfl) ak)) rfl)) ?_
 have b0:∀x3 x4 x5,d2 oIx (ah 1) (dC (.int 0)) [.vl (stD s),.vl (cuD c),.vl (.int n),x3,x4,x5]=M.ret (.int c.b):=λx3 x4 x5=>ap (af rfl) ao rfl
 have b1:∀x3 x4 x5,d2 oIx (ah 1) (dC (.int 1)) [.vl (stD s),.vl (cuD c),.vl (.int n),x3,x4,x5]=M.ret (.int c.e):=λx3 x4 x5=>ap (af rfl) ao rfl
 refine bg (v8 (ds:=ku s c n) (dL (ac (b8 (ac ao (ac (af rfl) (ac (b0 _ _ _) (ac (ap (af rfl) ao (Ce s)) (ac (af rfl) ak))))) rfl) (ac (b8 (ac (af rfl) (ac ao (ac (mt (b0 _ _ _) rfl) (ac (ap (af rfl) ao (Ce s)) (ac (af rfl) ak))))) rfl) (ac (b8 (ac ao (ac (af rfl) (ac (b1 _ _ _) (ac (ap (af rfl) ao (Cd s)) (ac (af rfl) ak))))) rfl) (ac (b8 (ac (af rfl) (ac ao (ac (mt (b1 _ _ _) rfl) (ac (ap (af rfl) ao (Cd s)) (ac (af rfl) ak))))) rfl) ak)))) rfl) rfl)
noncomputable def rR(shy b e n k t:Int):List D :=
 if b<=t-shy/\t+shy<=e then [mk (2*n+1) 0 (shy-t) .none (wh2 "early" n k),mk 0 (2*n+2) (t+shy) .none (wh2 "late" n k)]
 else if b+e<=2*t then [mk (2*n+2) 0 (-t) .none (wh2 "ahead" n k)]
 else [mk 0 (2*n+1) t .none (wh2 "behind" n k)]
theorem cut_ev(shy:Int)(c:Cu)(n k t:Int):cB [.int shy,cuD c,.int n,.int k,.int t]=M.ret (.list (rR shy c.b c.e n k t)):=by
 refine bq ?_
 unfold fJ
 refine cY (bF (az (ac (af rfl) ak) (sS n))) ?_
 refine cY (bF (az (ac (af rfl) ak) (yT n))) ?_
 have b0:d2 oIx (ah 1) (dC (.int 0)) [.vl (.int shy),.vl (cuD c),.vl (.int n),.vl (.int k),.vl (.int t),.vl (.int (2*n+1)),.vl (.int (2*n+2))]=M.ret (.int c.b):=ap (af rfl) ao rfl
 have b1:d2 oIx (ah 1) (dC (.int 1)) [.vl (.int shy),.vl (cuD c),.vl (.int n),.vl (.int k),.vl (.int t),.vl (.int (2*n+1)),.vl (.int (2*n+2))]=M.ret (.int c.e):=ap (af rfl) ao rfl
 have c1:jy (dB (d2 d0 (d2 oIx (ah 1) (dC (.int 0))) (d2 ml (ah 4) (ah 0)))) (dB (d2 d0 (d2 bm (ah 4) (ah 0)) (d2 oIx (ah 1) (dC (.int 1))))) [.vl (.int shy),.vl (cuD c),.vl (.int n),.vl (.int k),.vl (.int t),.vl (.int (2*n+1)),.vl (.int (2*n+2))]=M.ret (decide (c.b<=t-shy/\t+shy<=c.e)):=by
  have:=qW (bv (ap (h:=d0) (f:=d2 oIx (ah 1) (dC (.int 0))) (g:=d2 ml (ah 4) (ah 0)) b0 (ap (af rfl) (af rfl) ke) kf)) (bv (ap (h:=d0) (f:=d2 bm (ah 4) (ah 0)) (g:=d2 oIx (ah 1) (dC (.int 1))) (ap (af rfl) (af rfl) cr) b1 kf))
  rw[this,<-Bool.decide_and]
 unfold rR
 by_cases h1:c.b<=t-shy/\t+shy<=c.e
 ·rw[if_pos h1]
  rw[decide_eq_true h1] at c1
  refine ul c1 (kg rfl (bg (v8 (dL (ac (b8 (ac (af rfl) (ac ao (ac (ap (af rfl) (af rfl) ke) (ac ao (ac (b8 (ac ao (ac (af rfl) (ac (af rfl) ak))) rfl) ak))))) rfl) (ac (b8 (ac ao (ac (af rfl) (ac (ap (af rfl) (af rfl) cr) (ac ao (ac (b8 (ac ao (ac (af rfl) (ac (af rfl) ak))) rfl) ak))))) rfl) ak)) rfl) rfl)))
 ·rw[if_neg h1]
  rw[decide_eq_false h1] at c1
  refine ul c1 (sB rfl ?_)
  have c2:dB (d2 d0 (d2 bm (d2 oIx (ah 1) (dC (.int 0))) (d2 oIx (ah 1) (dC (.int 1)))) (d2 kn (dC (.int 2)) (ah 4))) [.vl (.int shy),.vl (cuD c),.vl (.int n),.vl (.int k),.vl (.int t),.vl (.int (2*n+1)),.vl (.int (2*n+2))]=M.ret (decide (c.b+c.e<=2*t)):=bv (ap (ap b0 b1 cr) (ap ao (af rfl) (oE (rG (by decide) (by decide)))) kf)
  by_cases h2:c.b+c.e<=2*t
  ·rw[if_pos h2]
   rw[decide_eq_true h2] at c2
   exact ul c2 (kg rfl (bg (v8 (dL (ac (b8 (ac (af rfl) (ac ao (ac (mt (af rfl) rfl) (ac ao (ac (b8 (ac ao (ac (af rfl) (ac (af rfl) ak))) rfl) ak))))) rfl) ak) rfl) rfl)))
  ·rw[if_neg h2]
   rw[decide_eq_false h2] at c2
   exact ul c2 (sB rfl (bg (v8 (dL (ac (b8 (ac ao (ac (af rfl) (ac (af rfl) (ac ao (ac (b8 (ac ao (ac (af rfl) (ac (af rfl) ak))) rfl) ak))))) rfl) ak) rfl) rfl)))
theorem wp(shy b e n k t:Int):(rR shy b e n k t).length<=2:=by
 unfold rR
 split
 ·exact ρ _
 ·split<;>exact U4 _
theorem Af(shy b e n k t:Int):bj (rR shy b e n k t)=true:=by
 unfold rR
 split
 ·rfl
 ·split<;>rfl
noncomputable def ki(shy b e n:Int):Nat->List Int->List D
 | _,[]=>[]
 | k,t::ts=>rR shy b e n k t++ki shy b e n (k+1) ts
theorem EO(s:Set7)(c:Cu)(n:Int)(A B F P:D):∀(ts:List Int) (k:Nat) (acc:List D) (x8 x9:Sl),acc.length+2*ts.length<=1000000->∃y8 y9,jv (dG (ee 2 (aX (tgN 8) (aX (tgN 9) eM))) (nj 4 (nF (aH (λds=>noX (cB ds)) (ag (d2 bT (ah 0) (dC (.str "shy"))) (ag (ah 6) (ag (ah 7) (ag (ah 8) (ag (ah 9) ar))))))))) (fv k (ts.map η)) [.vl (stD s),.vl A,.vl B,.vl F,.ow acc,.vl P,.vl (cuD c),.vl (.int n),x8,x9]=M.ret (.nx [.vl (stD s),.vl A,.vl B,.vl F,.ow (acc++ki s.shy c.b c.e n k ts),.vl P,.vl (cuD c),.vl (.int n),y8,y9]):=by
 intro ts
 induction ts with
 | nil=>intro k acc x8 x9 _;exact⟨x8,x9,by rw[ki,Z7];rfl⟩
 | cons t ts ih =>
  intro k acc x8 x9 hl
  rw[θ] at hl
  have hlen:=wp s.shy c.b c.e n k t
  obtain⟨y8,y9,hI⟩:=ih (k+1) (acc++rR s.shy c.b c.e n k t) (.vl (.int (k:Int))) (.vl (.int t)) (by rw[ζ];omega)
  refine⟨y8,y9,?_⟩
  rw[ki,<-Z4]
  refine du (eJ (δ':=[.vl (stD s),.vl A,.vl B,.vl F,.ow acc,.vl P,.vl (cuD c),.vl (.int n),.vl (.int (k:Int)),.vl (.int t)]) rfl ?_) hI
  exact qV rfl (yQ (az (ds:=[.int s.shy,cuD c,.int n,.int (k:Int),.int t]) (ac (ap (af rfl) ao (na s)) (ac (af rfl) (ac (af rfl) (ac (af rfl) (ac (af rfl) ak))))) (cut_ev s.shy c n k t)) (Af ..)) (aW (by omega))
noncomputable def nxt(h:Str):Nat->List Cu->Option Nat
 | _,[]=>none
 | w,c::cs=>if c.h=h then some w else nxt h (w+1) cs
noncomputable def dO(s:Set7)(c:Cu)(rest:List Cu)(n:Int):List D :=
 (if rest=[] then [] else [mk (2*n+1) (2*(n+1)+1) 0 .none (wh2 "order" n (n+1))])++(match nxt c.h 1 rest with | some w=>[mk (2*n+2) (2*(n+(w:Int))+1) s.apart .none (wh2 "apart" n (n+(w:Int)))] | none=>[])
noncomputable def i8(s:Set7)(ts:List Int):Int->List Cu->List D
 | _,[]=>[]
 | n,c::rest=>iH s c n++ku s c n++dO s c rest n++ki s.shy c.b c.e n 0 ts++i8 s ts (n+1) rest
def hOk(c:Cu):Prop:=V0 c.h=true
theorem o_eqH{a b:Cu}(ha:hOk a)(hb:hOk b):oEq (.str a.h) (.str b.h)=some (.bool (decide (a.h=b.h))):=by
 rw[o_eqS ha hb]
 congr 2
theorem yA{cs:List Cu}{i:Nat}{c:Cu}(h:cs[i]?=some c):oIx (.list (cs.map cuD)) (.int (i:Int))=some (cuD c):=by
 refine xo (by omega) ?_
 rw[W3,Z6,h]
 rfl
theorem se(j m:Nat):fD (j:Int) (m+1)=.int (j:Int)::fD ((j+1:Nat):Int) m:=by
 unfold fD
 rw[List.range_succ_eq_map,Δ,X0]
 congr 1
 refine List.map_congr_left λi _=>?_
 show η ((j:Int)+((i+1:Nat):Int))=η (((j+1:Nat):Int)+(i:Int))
 congr 1
 omega
theorem Ap(s:Set7){cs:List Cu}{p:Nat}{c:Cu}{rest:List Cu}(hok:∀c∈cs,hOk c)(hp:cs.drop p=c::rest)(hl:cs.length<=1000)(n:Int):dy [stD s,.list (cs.map cuD),.int (p:Int),.int n]=M.ret (.list (dO s c rest n)):=by
 have hlen:cs.length=p+(rest.length+1):=by
  have h1:=congrArg V8 hp
  rw[List.length_drop,θ] at h1
  omega
 have hln:dI [.list (cs.map cuD)]=some (.int ((cs.length:Nat):Int)):=by rw[mj,ι]
 have hc:cs[p]?=some c:=by
  have:=congrArg U6 hp
  rw[V6] at this
  exact this
 have hcm:c∈cs:=Y3 hc
 have hrest:cs.drop (p+1)=rest:=by
  rw[<-W2,hp]
  rfl
 refine bq ?_
 unfold fK
 refine cY (hG (ds:=[]) (dL ak rfl)) ?_
 generalize hCS:Z1 (cs.map cuD)=CS at *
 have c1:dB (d2 oLt (d2 bm (ah 2) (dC (.int 1))) (dCB dI (ag (ah 1) ar))) [.vl (stD s),.vl CS,.vl (.int (p:Int)),.vl (.int n),.ow [],.un,.un]=M.ret (decide ((p:Int)+1<((cs.length:Nat):Int))):=bv (ap (ap (af rfl) ao cr) (br (ac (af rfl) ak) hln) qy)
 obtain⟨A,hA,hord⟩:∃A:List D,(A=if rest=[] then [] else [mk (2*n+1) (2*(n+1)+1) 0 .none (wh2 "order" n (n+1))])/\gIf (dB (d2 oLt (d2 bm (ah 2) (dC (.int 1))) (dCB dI (ag (ah 1) ar)))) (ko 4 (d9 (ag (aH (λds=>noX (bb ds)) (ag (ah 3) ar)) (ag (aH (λds=>noX (bb ds)) (ag (d2 bm (ah 3) (dC (.int 1))) ar)) (ag (dC (.int 0)) (ag (dC .none) (ag (d9 (ag (dC (.str "order")) (ag (ah 3) (ag (d2 bm (ah 3) (dC (.int 1))) ar)))) ar))))))) bV [.vl (stD s),.vl CS,.vl (.int (p:Int)),.vl (.int n),.ow [],.un,.un]=M.ret (.nx [.vl (stD s),.vl CS,.vl (.int (p:Int)),.vl (.int n),.ow A,.un,.un]):=by
  by_cases hr:rest=[]
  ·refine⟨[],by rw[if_pos hr],gE c1 (decide_eq_false (by rw[hlen,hr];simp))⟩
  ·have:0<rest.length:=V3.mpr hr
   refine⟨[mk (2*n+1) (2*(n+1)+1) 0 .none (wh2 "order" n (n+1))],by rw[if_neg hr],j0 c1 (kg (decide_eq_true (by omega)) (kX (ds:=[]) (d:=mk (2*n+1) (2*(n+1)+1) 0 .none (wh2 "order" n (n+1))) rfl (b8 (ds:=[.int (2*n+1),.int (2*(n+1)+1),.int 0,.none,wh2 "order" n (n+1)]) (ac (az (ac (af rfl) ak) (sS n)) (ac (az (ac (ap (af rfl) ao cr) ak) (sS (n+1))) (ac ao (ac ao (ac (b8 (ac ao (ac (af rfl) (ac (ap (af rfl) ao cr) ak))) rfl) ak))))) rfl) rfl))⟩
 refine cY hord ?_
 have main:∀(q:List Cu) (w:Nat) (x5 x6:Sl),cs.drop (p+w)=q->∃y5 y6,jv (dG (tgN 5) (gIf (dB (d2 oEq (d2 oIx (d2 oIx (ah 1) (d2 bm (ah 2) (ah 5))) (dC (.int 2))) (d2 oIx (d2 oIx (ah 1) (ah 2)) (dC (.int 2))))) (bf (cM (d2 bm (ah 3) (ah 5)) (tgN 6))
  (bf (ko 4 (d9 (ag (aH (λds=>noX (bX ds)) (ag (ah 3) ar)) (ag (aH (λds=>noX (bb ds)) (ag (ah 6) ar)) (ag (d2 bT (ah 0) (dC (.str "apart"))) (ag (dC .none) (ag (d9 (ag (dC (.str "apart")) (ag (ah 3) (ag (ah 6) ar)))) ar)))))))
  ui)) bV)) (fD (w:Int) q.length) [.vl (stD s),.vl CS,.vl (.int (p:Int)),.vl (.int n),.ow A,x5,x6]=M.ret (.nx [.vl (stD s),.vl CS,.vl (.int (p:Int)),.vl (.int n),.ow (A++(match nxt c.h w q with | some w=>[mk (2*n+2) (2*(n+(w:Int))+1) s.apart .none (wh2 "apart" n (n+(w:Int)))] | none=>[])),y5,y6]):=by
  intro q
  induction q with
  | nil=>intro w x5 x6 _;exact⟨x5,x6,by rw[nxt,Z7];rfl⟩
  | cons c' q ih =>
   intro w x5 x6 hq
   have hc':cs[p+w]?=some c':=by
    have:=congrArg U6 hq
    rw[V6] at this
    exact this
   have hm':c'∈cs:=Y3 hc'
   have hq':cs.drop (p+(w+1))=q:=by
    rw[<-Nat.add_assoc,<-W2,hq]
    rfl
   rw[θ,se,nxt]
   have i1:oIx CS (.int ((p:Int)+(w:Int)))=some (cuD c'):=by
    rw[<-hCS,show(p:Int)+(w:Int)=((p+w:Nat):Int) by omega]
    exact yA hc'
   have i2:oIx CS (.int (p:Int))=some (cuD c):=by rw[<-hCS];exact yA hc
   have cd:dB (d2 oEq (d2 oIx (d2 oIx (ah 1) (d2 bm (ah 2) (ah 5))) (dC (.int 2))) (d2 oIx (d2 oIx (ah 1) (ah 2)) (dC (.int 2)))) [.vl (stD s),.vl CS,.vl (.int (p:Int)),.vl (.int n),.ow A,.vl (.int (w:Int)),x6]=M.ret (decide (c'.h=c.h)):=bv (ap (x:=.str c'.h) (y:=.str c.h) (ap (ap (af rfl) (ap (af rfl) (af rfl) cr) i1) ao rfl) (ap (ap (af rfl) (af rfl) i2) ao rfl) (o_eqH (hok c' hm') (hok c hcm)))
   by_cases hh:c'.h=c.h
   ·rw[if_pos hh]
    rw[decide_eq_true hh] at cd
    refine⟨.vl (.int (w:Int)),.vl (.int (n+(w:Int))),?_⟩
    have hA2:A.length<=1:=by rw[hA];split<;>simp
    have bd:dG (tgN 5) (gIf (dB (d2 oEq (d2 oIx (d2 oIx (ah 1) (d2 bm (ah 2) (ah 5))) (dC (.int 2))) (d2 oIx (d2 oIx (ah 1) (ah 2)) (dC (.int 2))))) (bf (cM (d2 bm (ah 3) (ah 5)) (tgN 6))
  (bf (ko 4 (d9 (ag (aH (λds=>noX (bX ds)) (ag (ah 3) ar)) (ag (aH (λds=>noX (bb ds)) (ag (ah 6) ar)) (ag (d2 bT (ah 0) (dC (.str "apart"))) (ag (dC .none) (ag (d9 (ag (dC (.str "apart")) (ag (ah 3) (ag (ah 6) ar)))) ar)))))))
  ui)) bV) (.int (w:Int)) [.vl (stD s),.vl CS,.vl (.int (p:Int)),.vl (.int n),.ow A,x5,x6]=M.ret (.bk [.vl (stD s),.vl CS,.vl (.int (p:Int)),.vl (.int n),.ow (A++[mk (2*n+2) (2*(n+(w:Int))+1) s.apart .none (wh2 "apart" n (n+(w:Int)))]),.vl (.int (w:Int)),.vl (.int (n+(w:Int)))]):=by
     refine eJ (δ':=[.vl (stD s),.vl CS,.vl (.int (p:Int)),.vl (.int n),.ow A,.vl (.int (w:Int)),x6]) rfl (j0 cd (kg rfl ?_))
     refine aY (bF (d:=.int (n+(w:Int))) (ap (af rfl) (af rfl) cr)) ?_
     exact aY (kX (ds:=A) (d:=mk (2*n+2) (2*(n+(w:Int))+1) s.apart .none (wh2 "apart" n (n+(w:Int)))) rfl (b8 (ac (az (ac (af rfl) ak) (yT n)) (ac (az (ac (af rfl) ak) (sS (n+(w:Int)))) (ac (ap (af rfl) ao (uh s)) (ac ao (ac (b8 (ac ao (ac (af rfl) (ac (af rfl) ak))) rfl) ak))))) rfl) (aW (by omega))) rfl
    show(dG _ _ _ _).thn _=_
    rw[bd]
    rfl
   ·rw[if_neg hh]
    rw[decide_eq_false hh] at cd
    obtain⟨y5,y6,hI⟩:=ih (w+1) (.vl (.int (w:Int))) x6 hq'
    exact⟨y5,y6,du (eJ (δ':=[.vl (stD s),.vl CS,.vl (.int (p:Int)),.vl (.int n),.ow A,.vl (.int (w:Int)),x6]) rfl (gE cd rfl)) hI⟩
 obtain⟨y5,y6,hf⟩:=main rest 1 .un .un hrest
 have hr:wQ [.int 1,.int (((cs.length:Nat):Int)-(p:Int))]=some (fD ((1:Nat):Int) rest.length):=by
  show(if (b62 1&&b62 (((cs.length:Nat):Int)-(p:Int)))=true then some (fD 1 ((((cs.length:Nat):Int)-(p:Int))-1).toNat) else none)=_
  rw[if_pos (by unfold b62;simp;omega)]
  congr 2
  omega
 refine cY (e7 (pC (ac ao (ac (ap (br (ac (af rfl) ak) hln) (af rfl) ke) ak)) hr) hf) ?_
 have hfl:bj (dO s c rest n)=true:=by
  unfold dO
  split<;>(cases nxt c.h 1 rest<;>rfl)
 unfold dO at hfl ⊢
 rw[<-hA] at hfl ⊢
 exact yN rfl hfl
theorem xM(s:Set7)(c:Cu)(rest:List Cu)(n:Int):(dO s c rest n).length<=2/\bj (dO s c rest n)=true:=by
 unfold dO
 constructor
 ·split<;>(cases nxt c.h 1 rest<;>simp)
 ·split<;>(cases nxt c.h 1 rest<;>rfl)
theorem sL(shy b e n:Int):∀(ts:List Int) (k:Nat),(ki shy b e n k ts).length<=2*ts.length
 | [],_=>X9 _
 | t::ts,k=>by
  have:=sL shy b e n ts (k+1)
  have:=wp shy b e n k t
  rw[ki,ζ,θ]
  omega
theorem AN(s:Set7){cs:List Cu}(hok:∀c∈cs,uC c/\hOk c)(n:Int)(ts:List Int)(hl:cs.length<=100)(ht:ts.length<=100):dP [stD s,.list (cs.map cuD),.list (ts.map η),.int n]=M.ret (.list (i8 s ts n cs)):=by
 refine bq ?_
 unfold jU
 refine aY (hG (ds:=[]) (dL ak rfl)) ?_
 have main:∀(q:List Cu) (p:Nat) (acc:List D) (x5 x6 x7 x8 x9:Sl),cs.drop p=q->acc.length<=300*p->p<=cs.length->∃y5 y6 y7 y8 y9,jv (dG (ee 2 (aX (tgN 5) (aX (tgN 6) eM))) (bf (cM (d2 bm (ah 3) (ah 5)) (tgN 7))
  (bf (nj 4 (nF (aH (λds=>noX (dZ ds)) (ag (ah 0) (ag (ah 6) (ag (ah 7) ar))))))
  (bf (nj 4 (nF (aH (λds=>noX (jD ds)) (ag (ah 0) (ag (ah 6) (ag (ah 7) ar))))))
  (bf (nj 4 (nF (aH (λds=>noX (dy ds)) (ag (ah 0) (ag (ah 1) (ag (ah 5) (ag (ah 7) ar)))))))
  (ir (nv (ag (ah 2) ar)) (ee 2 (aX (tgN 8) (aX (tgN 9) eM))) (nj 4 (nF (aH (λds=>noX (cB ds)) (ag (d2 bT (ah 0) (dC (.str "shy"))) (ag (ah 6) (ag (ah 7) (ag (ah 8) (ag (ah 9) ar)))))))))))))) (fv p (q.map cuD)) [.vl (stD s),.vl (.list (cs.map cuD)),.vl (.list (ts.map η)),.vl (.int n),.ow acc,x5,x6,x7,x8,x9]=M.ret (.nx [.vl (stD s),.vl (.list (cs.map cuD)),.vl (.list (ts.map η)),.vl (.int n),.ow (acc++i8 s ts (n+(p:Int)) q),y5,y6,y7,y8,y9]):=by
  intro q
  induction q with
  | nil=>intro p acc x5 x6 x7 x8 x9 _ _ _;exact⟨x5,x6,x7,x8,x9,by rw[i8,Z7];rfl⟩
  | cons c q ih =>
   intro p acc x5 x6 x7 x8 x9 hq hacc hp
   have hlen:cs.length=p+(q.length+1):=by
    have h1:=congrArg V8 hq
    rw[List.length_drop,θ] at h1
    omega
   have hcm:c∈cs:=List.mem_of_mem_drop (by rw[hq];exact υ)
   have hq':cs.drop (p+1)=q:=by rw[<-W2,hq];rfl
   obtain⟨b1,b2⟩:=xM s c q (n+(p:Int))
   have b3:=sL s.shy c.b c.e (n+(p:Int)) ts 0
   have hbh:=Ap s (λc hc=>(hok c hc).2) hq (by omega) (n+(p:Int))
   have hal:=CO s (hok c hcm).1 (n+(p:Int))
   have hwi:=CY s c (n+(p:Int))
   have la:(iH s c (n+(p:Int))).length=3:=rfl
   have lw:(ku s c (n+(p:Int))).length=4:=rfl
   have fa:bj (iH s c (n+(p:Int)))=true:=rfl
   have fw:bj (ku s c (n+(p:Int)))=true:=rfl
   obtain⟨y8,y9,hf⟩:=EO s c (n+(p:Int)) (.list (cs.map cuD)) (.list (ts.map η)) (.int n) (.int (p:Int)) ts 0 (((acc++iH s c (n+(p:Int)))++ku s c (n+(p:Int)))++dO s c q (n+(p:Int))) x8 x9 (by simp only[ζ,la,lw];omega)
   obtain⟨z5,z6,z7,z8,z9,hI⟩:=ih (p+1) ((((acc++iH s c (n+(p:Int)))++ku s c (n+(p:Int)))++dO s c q (n+(p:Int)))++ki s.shy c.b c.e (n+(p:Int)) 0 ts) (.vl (.int (p:Int))) (.vl (cuD c)) (.vl (.int (n+(p:Int)))) y8 y9 hq' (by simp only[ζ,la,lw];omega) (by omega)
   refine⟨z5,z6,z7,z8,z9,?_⟩
   rw[show n+((p+1:Nat):Int)=n+(p:Int)+1 by omega] at hI
   have ea:acc++i8 s ts (n+(p:Int)) (c::q)=(((acc++iH s c (n+(p:Int)))++ku s c (n+(p:Int)))++dO s c q (n+(p:Int)))++ki s.shy c.b c.e (n+(p:Int)) 0 ts++i8 s ts (n+(p:Int)+1) q:=by
    rw[i8]
    simp only[Z4]
   rw[ea]
   refine du (eJ (δ':=[.vl (stD s),.vl (.list (cs.map cuD)),.vl (.list (ts.map η)),.vl (.int n),.ow acc,.vl (.int (p:Int)),.vl (cuD c),x7,x8,x9]) rfl ?_) hI
   generalize iH s c (n+(p:Int))=AL at *
   generalize ku s c (n+(p:Int))=WI at *
   generalize dO s c q (n+(p:Int))=BE at *
   refine aY (bF (d:=.int (n+(p:Int))) (ap (af rfl) (af rfl) cr)) ?_
   refine aY (qV (ds:=acc) (es:=AL) rfl (yQ (az (ac (af rfl) (ac (af rfl) (ac (af rfl) ak))) hal) fa) (aW (by omega))) ?_
   refine aY (qV (ds:=acc++AL) (es:=WI) rfl (yQ (az (ac (af rfl) (ac (af rfl) (ac (af rfl) ak))) hwi) fw) (aW (by rw[ζ];omega))) ?_
   refine aY (qV (ds:=acc++AL++WI) (es:=BE) rfl (yQ (az (ac (af rfl) (ac (af rfl) (ac (af rfl) (ac (af rfl) ak)))) hbh) b2) (aW (by rw[ζ,ζ];omega))) ?_
   exact e7 (kW (ac (af rfl) ak)) hf
 obtain⟨y5,y6,y7,y8,y9,hf⟩:=main cs 0 [] .un .un .un .un .un rfl (X9 _) (X9 _)
 rw[W4,show n+((0:Nat):Int)=n from Int.add_zero n] at hf
 exact aY (e7 (kW (ac (af rfl) ak)) hf) rfl
theorem nN{n:Nat}:∀{ws:List (List Nat)},(∀w∈ws,w.length<=n)->tot ws<=(n+1)*ws.length
 | [],_=>X9 _
 | w::ws,h=>by
  have:=nN (n:=n) (ws:=ws) λv hv=>h v (χ _ hv)
  have:=h w υ
  rw[tot,θ,Nat.mul_succ]
  omega
def Wsq(ws:List (List Nat)):Prop:=(∀w∈ws,Wq w)/\ws≠[]/\ws.length<=12
structure Cz where
 b:Nat
 e:Nat
 h:List Nat
 ws:List (List Nat)
noncomputable def cz(c:Cz):D:=.tuple [.int (c.b:Int),.int (c.e:Int),tx c.h,tx (jn 32 c.ws)]
structure czOk(c:Cz):Prop where
 b1:c.b<10 ^ 18
 e1:c.e<10 ^ 19
 be:c.b<c.e
 hd:Hd c.h
 wq:Wsq c.ws
structure Tm(CK:D)(n:Nat)(t:List Nat):Prop where
 rd:∀{fo:DS->M D} {fa:DS->M (List D)} {δ:DS},fo δ=M.ret CK->fa δ=M.ret [tx t]->dMe "Thousandths" "read" (λds=>noX (bz ds)) fo fa δ=M.ret (.int (n:Int))
 len:t.length<=60
 sg:∀c∈t,46<=c/\c<=59
theorem at_T:oR "Thousandths" (gP "Thousandths" [])=some []:=by kernel_rfl
theorem txt_sg{sg k h m s t:Nat}(hg:46<=sg/\sg<=59):∀c∈txt sg k h m s t,46<=c/\c<=59:=by
 intro c hc
 unfold txt at hc
 simp only[Φ,Θ] at hc
 rcases hc with hc | rfl | hc | rfl | hc | rfl | hc
 ·have:=cQ _ _ c hc;omega
 ·decide
 ·have:=cQ _ _ c hc;omega
 ·decide
 ·have:=cQ _ _ c hc;omega
 ·exact hg
 ·have:=cQ _ _ c hc;omega
noncomputable def tT(n:Nat):List Nat:=txt 46 3 (n / 3600000) (n / 60000 % 60) (n / 1000 % 60) (n % 1000)
theorem mJ{n:Nat}(hn:n<10 ^ 19):Tm (gP "Thousandths" []) n (tT n):=by
 refine⟨λh1 h2=>?_,?_,txt_sg (by decide)⟩
 ·have hr:=qh (l:=txt 46 3 (n / 3600000) (n / 60000 % 60) (n / 1000 % 60) (n % 1000)) (by
   have:=xX (sg:=46) (k:=3) (h:=n / 3600000) (m:=n / 60000 % 60) (s:=n / 1000 % 60) (t:=n % 1000) (by omega) (by omega) (by omega) (by omega)
   omega) (Uc_txt (by decide)) (B8 (by decide) (by omega) (by omega) (by omega) (by decide) (by omega))
  obtain⟨v1,v2,v3,v4⟩:=sm (sg:=46) (k:=3) (h:=n / 3600000) (m:=n / 60000 % 60) (s:=n / 1000 % 60) (t:=n % 1000) (by decide)
  rw[v1,v2,v3,v4,pK,pK,pK,pK] at hr
  have e:(1000*(60*(60*((n / 3600000:Nat):Int)+((n / 60000 % 60:Nat):Int))+((n / 1000 % 60:Nat):Int))+((n % 1000:Nat):Int))=(n:Int):=by omega
  rw[e] at hr
  refine Cj h1 at_T rfl h2 (bq ?_)
  unfold dJ
  exact bg (az (ac (af rfl) ak) hr)
 ·show(txt 46 3 (n / 3600000) (n / 60000 % 60) (n / 1000 % 60) (n % 1000)).length<=60
  have:=xX (sg:=46) (k:=3) (h:=n / 3600000) (m:=n / 60000 % 60) (s:=n / 1000 % 60) (t:=n % 1000) (by omega) (by omega) (by omega) (by omega)
  omega
def Ck(CK:D)(T:Nat->List Nat):Prop:=∀n,n<10 ^ 19->Tm CK n (T n)
noncomputable def bS(T:Nat->List Nat)(c:Cz):List Nat:=T c.b++32::(T c.e++32::(c.h++32::jn 32 c.ws))
theorem jn_sg:∀{l:List (List Nat)},(∀w∈l,Wq w)->∀x∈jn 32 l,32<=x/\x<=126
 | [],_,x,hx=>nomatch hx
 | [a],h,x,hx=>by have:=(h a υ).sg x hx;unfold wsg at this;omega
 | a::b::r,h,x,hx=>by
  rw[lA 32 a (by simp)] at hx
  rcases Φ.mp hx with hx | hx
  ·have:=(h a υ).sg x hx;unfold wsg at this;omega
  ·rcases Θ.mp hx with rfl | hx
   ·decide
   ·exact jn_sg (λw hw=>h w (χ _ hw)) x hx
theorem As{ws:List (List Nat)}(h:Wsq ws):tot ws<=400:=by
 obtain⟨h1,h2,h3⟩:=h
 have ht:=nN (n:=30) (ws:=ws) λw hw=>(h1 w hw).len
 have h31:(30+1)*ws.length<=31*12:=Nat.mul_le_mul (ρ _) (by omega)
 omega
theorem Au{ws:List (List Nat)}(h:Wsq ws):(jn 32 ws).length<=400:=by
 have:=mo 32 h.2.1
 have:=As h
 omega
theorem AQ{CK:D}{T:Nat->List Nat}(hT:Ck CK T){c:Cz}(h:czOk c):∀x∈bS T c,32<=x/\x<=126:=by
 have a:=hT c.b (by have:=h.b1;omega)
 have b:=hT c.e h.e1
 intro x hx
 unfold bS at hx
 simp only[Φ,Θ] at hx
 rcases hx with hx | rfl | hx | rfl | hx | rfl | hx
 ·have:=a.sg x hx;omega
 ·decide
 ·have:=b.sg x hx;omega
 ·decide
 ·have:=h.hd.sg x hx;omega
 ·decide
 ·exact jn_sg h.wq.1 x hx
theorem lu{CK:D}{T:Nat->List Nat}(hT:Ck CK T){c:Cz}(h:czOk c):(bS T c).length<=600:=by
 have a:=(hT c.b (by have:=h.b1;omega)).len
 have b:=(hT c.e h.e1).len
 have:=h.hd.len
 have:=Au h.wq
 unfold bS
 simp only[ζ,θ]
 omega
theorem vp{CK:D}{T:Nat->List Nat}(hT:Ck CK T){c:Cz}(h:czOk c)(k:D):iK [CK,tx (bS T c),k]=M.ret (cz c):=by
 have a:=hT c.b (by have:=h.b1;omega)
 have b:=hT c.e h.e1
 have hsg:=AQ hT h
 have hlen:=lu hT h
 have hmax:Txt.splitMax (S (bS T c)) (S [32]) 3=[S (T c.b),S (T c.e),S c.h,S (jn 32 c.ws)]:=zk (by decide) (λz=>by have:=a.sg 32 z;omega) (λz=>by have:=b.sg 32 z;omega) (λz=>by have:=h.hd.sg 32 z;omega) (λx hx=>by have:=hsg x hx;omega)
 have hs:o6 (S (bS T c)) [.str (S [32]),.int 3]=some (.list [tx (T c.b),tx (T c.e),tx c.h,tx (jn 32 c.ws)]):=by
  have e1:(((S [32]).length==0)==false&&bi (S (bS T c)).length&&bi (Txt.splitMax (S (bS T c)) (S [32]) 3).length&&!(decide ((3:Int) < -(2 ^ 63:Int))||decide ((3:Int) ≥ 2 ^ 63)))=true:=by
   rw[hmax,aW (by rw[dw];omega)]
   rfl
  show(if _=true then some (Z1 ((Txt.splitMax (S (bS T c)) (S [32]) 3).map X8)) else none)=_
  rw[if_pos e1,hmax]
  rfl
 have hc:=zS (b:=(c.b:Int)) (e:=(c.e:Int)) (h:=c.h) (ws:=c.ws) (by omega) (by have:=h.be;omega) h.hd h.wq.1 h.wq.2.1 (by have:=As h.wq;omega)
 refine bq ?_
 unfold jV
 refine aY (bF (d:=.list [tx (T c.b),tx (T c.e),tx c.h,tx (jn 32 c.ws)]) (cZ (z:=S (bS T c)) (af rfl) (ac (x:=.str (S [32])) ao (ac ao ak)) hs)) ?_
 refine bN (b:=false) (bv (ap (br (ac (af rfl) ak) rfl) ao rfl)) rfl ?_
 refine aY (EB (o:=.nx [.vl CK,.vl (tx (bS T c)),.vl k,.vl (.list [tx (T c.b),tx (T c.e),tx c.h,tx (jn 32 c.ws)]),.vl (cz c)]) (bF (d:=cz c) (b8 (ac (a.rd (af rfl) (ac (ap (af rfl) ao rfl) ak)) (ac (b.rd (af rfl) (ac (ap (af rfl) ao rfl) ak)) (ac (ap (af rfl) ao rfl) (ac (ap (af rfl) ao rfl) ak)))) rfl))) ?_
 refine bN (b:=false) (d6 (b:=true) (bv (az (ds:=[cz c]) (ac (af rfl) ak) hc))) rfl ?_
 exact bg (af rfl)
theorem Ef(xs:List D)(x:D):oIx (.list (xs++[x])) (.int (-1))=some x:=by
 show L2.atI (xs++[x]) (-1)=some x
 unfold L2.atI L2.ixN
 rw[if_neg (by omega),if_pos (by simp;omega)]
 show(xs++[x])[(-1+((xs++[x]).length:Int)).toNat]?=_
 rw[ζ,Z5,show(-1+((xs.length+1:Nat):Int)).toNat=xs.length by omega]
 simp
theorem sh{CK:D}{T:Nat->List Nat}(hT:Ck CK T)(X:D):∀(q:List Cz) (j:Nat) (cs:List Cz) (x3 x4 x5:Sl),(∀c∈q,czOk c)->(cs++q).Pairwise (λx y=>x.b<=y.b)->cs.length+q.length<=100->∃y3 y4 y5,jv (dG (ee 2 (aX (tgN 3) (aX (tgN 4) eM))) gx) (fv j ((q.map (bS T)).map tx)) [.vl CK,.vl X,.ow (cs.map cz),x3,x4,x5]=M.ret (.nx [.vl CK,.vl X,.ow ((cs++q).map cz),y3,y4,y5])
 | [],j,cs,x3,x4,x5,_,_,_=>⟨x3,x4,x5,by rw[Z7];rfl⟩
 | c::q,j,cs,x3,x4,x5,h,hp,hl=>by
  rw[θ] at hl
  have hr:=vp hT (h c υ) (.int (j:Int))
  obtain⟨y3,y4,y5,hI⟩:=sh hT X q (j+1) (cs++[c]) (.vl (.int (j:Int))) (.vl (tx (bS T c))) (.vl (cz c)) (λe he=>h e (χ _ he)) (by rw[Z4];exact hp) (by rw[ζ,Z5];omega)
  refine⟨y3,y4,y5,?_⟩
  rw[Z4,Z3] at hI
  rw[Δ,Δ]
  refine du (eJ (δ':=[.vl CK,.vl X,.ow (cs.map cz),.vl (.int (j:Int)),.vl (tx (bS T c)),x5]) rfl ?_) hI
  unfold gx
  refine aY (bF (d:=cz c) (az (ds:=[CK,tx (bS T c),.int (j:Int)]) (ac (af rfl) (ac (af rfl) (ac (af rfl) ak))) hr)) ?_
  refine bN (b:=false) (Cl ?_) rfl ?_
  ·rcases List.eq_nil_or_concat cs with rfl | ⟨cs0,c',rfl⟩
   ·exact kY (by show dTr (ah 2) _=_;unfold dTr;rw[af (d:=.list []) rfl];rfl)
   ·have hb:c'.b<=c.b:=by
     have:=List.pairwise_append.mp hp
     exact this.2.2 c' (by simp) c (by simp)
    have hli:=Ef (cs0.map cz) (cz c')
    have eC:(cs0.concat c').map cz=cs0.map cz++[cz c']:=by rw[List.concat_eq_append,Z3];rfl
    rw[eC]
    refine iw (by show dTr (ah 2) _=_;unfold dTr;rw[af (d:=.list (cs0.map cz++[cz c'])) rfl,aQ];show M.lift (some (!(cs0.map cz++[cz c']).isEmpty))=_;simp [M.lift,M.ret]) ?_
    exact bv (ap (x:=.int (c.b:Int)) (y:=.int (c'.b:Int)) (ap (x:=cz c) (af rfl) ao rfl) (ap (x:=cz c') (ap (x:=.list (cs0.map cz++[cz c'])) (af rfl) (mt ao rfl) hli) ao rfl) (by rw[qy,decide_eq_false (by omega)]))
  ·exact kX (ds:=cs.map cz) (d:=cz c) rfl (af rfl) (aW (by rw[ι];omega))
theorem yM(cs:List Cz):bj (cs.map cz)=true:=by
 induction cs with
 | nil=>rfl
 | cons c cs ih=>show(dW (cz c)&&bj (cs.map cz))=true;rw[ih];rfl
theorem Ek{CK:D}{T:Nat->List Nat}(hT:Ck CK T){cs:List Cz}(h:∀c∈cs,czOk c):∀w∈cs.map (bS T),10∉w:=λw hw z=>by
 obtain⟨c,hc,rfl⟩:=W6.mp hw
 have:=AQ hT (h c hc) 10 z
 omega
theorem wP{CK:D}{T:Nat->List Nat}(hT:Ck CK T){cs:List Cz}(h:∀c∈cs,czOk c)(hl:cs.length<=63):jE [tx (jn 10 (cs.map (bS T)))]=M.ret (.list ((cs.map (bS T)).map tx)):=by
 have htot:=nN (n:=600) (ws:=cs.map (bS T)) λw hw=>by
  obtain⟨c,hc,rfl⟩:=W6.mp hw
  exact lu hT (h c hc)
 have h601:(600+1)*(cs.map (bS T)).length<=601*63:=Nat.mul_le_mul (ρ _) (by rw[ι];exact hl)
 refine bq ?_
 unfold lB
 refine bg ?_
 cases cs with
 | nil =>
  refine vZ (b:=false) (by unfold dTr;rw[af (d:=tx []) rfl];rfl) ?_
  rw[if_neg Ξ]
  exact d7 (ds:=[]) ak rfl
 | cons c cs =>
  have h0:(c::cs).map (bS T)≠[]:=by simp
  have hlen:=mo 10 h0
  have hpos:1<=(jn 10 ((c::cs).map (bS T))).length:=by
   have e1:tot ((c::cs).map (bS T))=(bS T c).length+1+tot (cs.map (bS T)):=rfl
   have e2:1<=(bS T c).length:=by unfold bS;simp only[ζ,θ];omega
   omega
  have hsp:=pj (c:=10) h0 (Ek hT h) (by omega)
  refine vZ (b:=true) (by
   unfold dTr
   rw[af (d:=tx (jn 10 ((c::cs).map (bS T)))) rfl,aQ]
   show M.lift (if bi (S (jn 10 ((c::cs).map (bS T)))).length then some (((S (jn 10 ((c::cs).map (bS T)))).length:Int) != 0) else none)=_
   rw[if_pos (aW (by rw[dw];omega)),dw]
   have:((((jn 10 ((c::cs).map (bS T))).length:Nat):Int) != 0)=true:=by simp only[bne_iff_ne,ne_eq];omega
   rw[this]
   rfl) ?_
  rw[if_pos rfl]
  exact cZ (z:=S (jn 10 ((c::cs).map (bS T)))) (af rfl) (ac (x:=.str (S [10])) ao ak) hsp
theorem tJ{CK:D}{T:Nat->List Nat}(hT:Ck CK T){cs:List Cz}(h:∀c∈cs,czOk c)(hp:cs.Pairwise (λx y=>x.b<=y.b))(hl:cs.length<=63):gH [CK,tx (jn 10 (cs.map (bS T)))]=M.ret (.list (cs.map cz)):=by
 have hr:=wP hT h hl
 obtain⟨y3,y4,y5,hL⟩:=sh hT (tx (jn 10 (cs.map (bS T)))) cs 1 [] .un .un .un h hp (by show 0+_<=_;omega)
 rw[W4] at hL
 refine bq ?_
 unfold iQ
 refine cY (δ':=[.vl CK,.vl (tx (jn 10 (cs.map (bS T)))),.un,.un,.un,.un]) (gE (b:=false) (d6 (b:=true) (bv (oN (d:=tx (jn 10 (cs.map (bS T)))) (af rfl)))) rfl) ?_
 refine cY (hG (ds:=[]) (dL ak rfl)) ?_
 refine cY (e7 (Co (ac (az (ac (af rfl) ak) hr) ak)) hL) ?_
 exact yN rfl (yM cs)
theorem yu{c:Nat}{l:List Nat}(hl:l.length<=900000):∃w,dh (S l) [.str ⟨#[c]⟩]=some (.tuple [.str (S (pre c l)),.str w,.str (S (post c l))]):=by
 obtain⟨w,e⟩:=vF c l
 refine⟨w,?_⟩
 unfold dh
 dsimp only
 rw[if_pos,e]
 rw[Y0]
 refine⟨rfl,?_⟩
 rw[dw]
 exact aW (by omega)
theorem BW{c d:Nat}(hcd:c≠d):∀{ts:List (List Nat)},(∀x∈ts,c∉x)->c∉jn d ts
 | [],_,z=>nomatch z
 | [a],h,z=>h a υ z
 | a::b::r,h,z=>by
  rw[lA d a (by simp)] at z
  rcases Φ.mp z with z | z
  ·exact h a υ z
  ·rcases Θ.mp z with z | z
   ·exact hcd z
   ·exact BW hcd (λx hx=>h x (χ _ hx)) z
theorem gB{xs:List D}{x:D}{i:Nat}(h:xs[i]?=some x):oIx (.list xs) (.int (i:Int))=some x:=by
 show L2.atI xs (i:Int)=some x
 unfold L2.atI L2.ixN
 have:=(ω.mp h).1
 rw[if_pos (by omega),if_pos (by omega),W3]
 exact h
theorem wC{w:List Nat}{ws:List (List Nat)}(hn:∀x∈w::ws,32∉x)(h10:∀x∈w::ws,10∉x)(hz:tot (w::ws)<=900000)(hc:oEq (tx w) (.str "cues")=some (.bool false)):bE [tx (jn 32 (w::ws))]=M.ret (.tuple [.list ((w::ws).map tx),.str ""]):=by
 have hl:=mo 32 (ts:=w::ws) (by simp)
 have hno:10∉jn 32 (w::ws):=BW (by decide) h10
 obtain⟨q,hp⟩:=yu (c:=10) (l:=jn 32 (w::ws)) (by omega)
 rw[(wU hno).1,(wU hno).2] at hp
 have hs:=pj (c:=32) (ts:=w::ws) (by simp) hn (by omega)
 refine bq ?_
 unfold dr
 refine bN (b:=false) (d6 (b:=true) (bv (oN (d:=tx (jn 32 (w::ws))) (af rfl)))) rfl ?_
 refine aY (bF (d:=.tuple [tx (jn 32 (w::ws)),.str q,tx []]) (cZ (z:=S (jn 32 (w::ws))) (af rfl) (ac (x:=.str ⟨#[10]⟩) ao ak) hp)) ?_
 refine aY (bF (d:=.list ((w::ws).map tx)) (cZ (z:=S (jn 32 (w::ws))) (ap (x:=.tuple [tx (jn 32 (w::ws)),.str q,tx []]) (af rfl) ao rfl) (ac (x:=.str (S [32])) ao ak) hs)) ?_
 refine bN (b:=false) (bv (ap (x:=tx w) (ap (x:=.list ((w::ws).map tx)) (af rfl) ao (gB (i:=0) rfl)) ao hc)) rfl ?_
 exact bg (b8 (ac (cZ (z:=S (jn 32 (w::ws))) (af rfl) (ac (x:=.str (S [32])) ao ak) hs) (ac ao ak)) rfl)
theorem CW{n t:List Nat}(hn:32∉n)(h10:10∉n)(hz:n.length+t.length<=800000):bE [tx ([99,117,101,115,32]++n++10::t)]=M.ret (.tuple [.list [tx [99,117,101,115],tx n],tx t]):=by
 have e:[99,117,101,115,32]++n=jn 32 [[99,117,101,115],n]:=rfl
 have hno:10∉[99,117,101,115,32]++n:=λz=>by
  rcases Φ.mp z with z | z
  ·revert z;decide
  ·exact h10 z
 obtain⟨q,hp⟩:=yu (c:=10) (l:=[99,117,101,115,32]++n++10::t) (by simp only[ζ,θ,X1];omega)
 rw[(iN hno).1,(iN hno).2] at hp
 have hs:=pj (c:=32) (ts:=[[99,117,101,115],n]) (by simp) (λx hx=>by
  rcases Θ.mp hx with rfl | hx
  ·decide
  ·rw[Ω.mp hx];exact hn) (by show 4+1+(n.length+1+0)<=_;omega)
 rw[<-e] at hs
 generalize hX:tx ([99,117,101,115,32]++n++10::t)=X
 refine bq ?_
 unfold dr
 refine bN (b:=false) (d6 (b:=true) (bv (by rw[<-hX];exact oN (d:=tx ([99,117,101,115,32]++n++10::t)) (af rfl)))) rfl ?_
 refine aY (bF (d:=.tuple [tx ([99,117,101,115,32]++n),.str q,tx t]) (cZ (z:=S ([99,117,101,115,32]++n++10::t)) (by rw[<-hX];exact af rfl) (ac (x:=.str ⟨#[10]⟩) ao ak) hp)) ?_
 refine aY (bF (d:=.list [tx [99,117,101,115],tx n]) (cZ (z:=S ([99,117,101,115,32]++n)) (ap (x:=.tuple [tx ([99,117,101,115,32]++n),.str q,tx t]) (af rfl) ao rfl) (ac (x:=.str (S [32])) ao ak) hs)) ?_
 refine pB (j0 (b:=true) (bv (ap (x:=tx [99,117,101,115]) (ap (x:=.list [tx [99,117,101,115],tx n]) (af rfl) ao rfl) ao (by kernel_rfl))) (by rw[if_pos rfl];exact bg (b8 (ac (af rfl) (ac (ap (x:=.tuple [tx ([99,117,101,115,32]++n),.str q,tx t]) (af rfl) ao rfl) ak)) rfl)))
theorem BZ(w:Str)(n:Int)(h:(fC dF (.inr w)).getD .none=.int n)(δ:DS)(f:DS->M D)(hf:f δ=M.ret (.str w)):uA dF f δ=M.ret (.int n):=by
 unfold uA
 rw[hf,aQ]
 show M.ret ((fC dF (.inr w)).getD .none)=_
 rw[h]
theorem ju{w:Str}{ws:List D}{n:Nat}(hc:oEq (.str w) (.str "clock")=some (.bool false))(hm:oEq (.str w) (.str "move")=some (.bool false))(h:(fC dF (.inr w)).getD .none=.int (n:Int))(hl:ws.length+1=n):iM [.list (.str w::ws)]=M.ret (.bool true):=by
 refine bq ?_
 unfold ng
 refine bN (b:=false) (bv (ap (x:=.str w) (ap (x:=.list (.str w::ws)) (af rfl) ao (gB (i:=0) rfl)) ao hc)) rfl ?_
 refine bN (b:=false) (bv (ap (x:=.str w) (ap (x:=.list (.str w::ws)) (af rfl) ao (gB (i:=0) rfl)) ao hm)) rfl ?_
 refine bg (ap (x:=.int (n:Int)) (y:=.int (n:Int)) (BZ w n h _ _ (ap (x:=.list (.str w::ws)) (af rfl) ao (gB (i:=0) rfl))) (br (ac (af rfl) ak) ?_) ?_)
 ·show some (η ((.str w::ws:List D).length:Int))=_
  rw[θ,hl]
 ·rw[qz,decide_eq_true rfl]
noncomputable def nT(n:Nat):List Nat:=if n=0 then [48] else fS n
theorem xi(n:Nat):Str.ofString (toString ((n:Nat):Int))=S (nT n):=ye n
theorem lP:∀(n:Nat),0<n->∃c r,fS n=c::r/\49<=c/\c<=57:=by
 intro n
 induction n using U8 with
 | ind n ih =>
  intro h
  rw[eU (by omega)]
  by_cases h10:n<10
  ·rw[show n / 10=0 by omega,dY]
   exact⟨48+n % 10,[],rfl,by omega,by omega⟩
  ·obtain⟨c,r,e,h1,h2⟩:=ih (n / 10) (by omega) (by omega)
   exact⟨c,r++[48+n % 10],by rw[e];rfl,h1,h2⟩
theorem tW(n:Nat):∀c∈nT n,48<=c/\c<=57:=by
 unfold nT
 split
 ·intro c hc;rw[Ω.mp hc];decide
 ·exact lf n
theorem nT_ne(n:Nat):nT n≠[]:=by
 unfold nT
 split
 ·simp
 ·obtain⟨c,r,e,_⟩:=lP n (by omega)
  rw[e];simp
theorem jb{n:Nat}(h:n<10 ^ 18):(nT n).length<=18:=by
 unfold nT
 split
 ·simp
 ·exact nq 18 n h
theorem nT_val(n:Nat):digitsVal (nT n)=n:=by
 unfold nT
 split
 ·rename_i h;rw[h];rfl
 ·exact uP n
theorem BF(n:Nat):Uc (nT n):=λc hc=>by have:=tW n c hc;omega
theorem qg{n:Nat}{lo hi:Int}(hn:n<10 ^ 18)(h1:lo<=(n:Int))(h2:(n:Int)<=hi):eX [tx (nT n),.int lo,.int hi]=M.ret (.int (n:Int)):=by
 have hl:=jb hn
 have hfig:im (nT n)=true:=m4 (nT_ne n) (tW n)
 have ha:=iG (l:=nT n) (by omega) (BF n)
 rw[hfig] at ha
 have hi':=m6 hfig (by omega)
 rw[nT_val] at hi'
 have hln:=lenT (l:=nT n) (by omega)
 obtain⟨c,r,hc⟩:∃c r,nT n=c::r:=by
  cases e:nT n with
  | nil=>exact absurd e (nT_ne n)
  | cons c r=>exact⟨c,r,rfl⟩
 have hix:oIx (tx (nT n)) (.int 0)=some (.str (S [c])):=yz (i:=0) (by omega) (by omega) (by rw[hc];rfl)
 have e0:oEq (.str (S [c])) (.str (S [48]))=some (.bool (decide (c=48))):=by
  rw[o_eqT (λx hx=>by rw[Ω.mp hx];have:=BF n c (by rw[hc];exact υ);exact this) (λx hx=>by rw[Ω.mp hx];decide)]
  simp
 have e1:oNe (tx (nT n)) (.str (S [48]))=some (.bool (!decide (nT n=[48]))):=Bs (BF n) (λx hx=>by rw[Ω.mp hx];decide)
 have hz:c=48->nT n=[48]:=λh=>by
  by_cases h0:n=0
  ·rw[h0];rfl
  ·obtain⟨c',r',e,h3,_⟩:=lP n (by omega)
   have e':nT n=fS n:=if_neg h0
   rw[e',e] at hc
   cases hc
   omega
 generalize hX:tx (nT n)=X at ha hi' hix e1 hln ⊢
 have hi':iP [X]=some (.int (n:Int)):=by rw[<-hX];exact hi'
 have hln:dI [X]=some (.int ((nT n).length:Int)):=by rw[<-hX];exact hln
 have ha:bZ [X]=M.ret (.bool true):=by rw[<-hX];exact ha
 refine bq ?_
 unfold gp
 refine bN (b:=false) ?_ rfl ?_
 ·refine yO (d6 (b:=true) (bv (az (ac (af rfl) ak) ha))) (yO (bv (ap (br (ac (af rfl) ak) hln) ao (by rw[vG,decide_eq_false (by omega)]))) ?_)
  by_cases h48:c=48
  ·refine iw (bv (ap (ap (x:=X) (af rfl) ao hix) (y:=.str (S [48])) ao (by rw[e0,decide_eq_true h48]))) ?_
   exact bv (ap (x:=X) (y:=.str (S [48])) (af rfl) ao (by rw[e1,decide_eq_true (hz h48)];rfl))
  ·exact kY (bv (ap (ap (x:=X) (af rfl) ao hix) (y:=.str (S [48])) ao (by rw[e0,decide_eq_false h48])))
 refine bN (b:=false) ?_ rfl (bg (br (ac (af rfl) ak) hi'))
 exact d6 (b:=true) (bv (iu (b1:=true) (b2:=true) (x:=.int lo) (y:=.int (n:Int)) (af rfl) (br (ac (af rfl) ak) hi') (by rw[kf,decide_eq_true h1]) (w:=.int hi) (af rfl) (by rw[kf,decide_eq_true h2])))
noncomputable def iI(s:Set7)(c:Cu)(k:Nat):List Rl:=[⟨0,2*k+1,0,none,wh1 "start" k⟩,⟨2*k+1,2*k+2,vK s c,none,wh1 "long" k⟩,⟨2*k+2,2*k+1,-s.most,none,wh1 "most" k⟩]
noncomputable def kA(s:Set7)(c:Cu)(k:Nat):List Rl:=[⟨0,2*k+1,c.b,some s.beg,wh1 "wish" k⟩,⟨2*k+1,0,-c.b,some s.beg,wh1 "wish" k⟩,⟨0,2*k+2,c.e,some s.fin,wh1 "wish" k⟩,⟨2*k+2,0,-c.e,some s.fin,wh1 "wish" k⟩]
noncomputable def ga(rest:List Cu)(k:Nat):List Rl:=if rest=[] then [] else [⟨2*k+1,2*(k+1)+1,0,none,wh2 "order" k (k+1)⟩]
noncomputable def gT(s:Set7)(c:Cu)(rest:List Cu)(k:Nat):List Rl:=match nxt c.h 1 rest with
 | some w=>[⟨2*k+2,2*(k+w)+1,s.apart,none,wh2 "apart" k (k+(w:Int))⟩]
 | none=>[]
noncomputable def ro(shy b e:Int)(n k:Nat)(t:Int):List Rl :=
 if b<=t-shy/\t+shy<=e then [⟨2*n+1,0,shy-t,none,wh2 "early" n k⟩,⟨0,2*n+2,t+shy,none,wh2 "late" n k⟩]
 else if b+e<=2*t then [⟨2*n+2,0,-t,none,wh2 "ahead" n k⟩]
 else [⟨0,2*n+1,t,none,wh2 "behind" n k⟩]
noncomputable def gW(shy b e:Int)(n:Nat):Nat->List Int->List Rl
 | _,[]=>[]
 | k,t::ts=>ro shy b e n k t++gW shy b e n (k+1) ts
noncomputable def cP(s:Set7)(ts:List Int):Nat->List Cu->List Rl
 | _,[]=>[]
 | k,c::rest=>iI s c k++kA s c k++(ga rest k++gT s c rest k)++gW s.shy c.b c.e k 0 ts++cP s ts (k+1) rest
theorem rD(k:Nat):((2*k+1:Nat):Int)=2*(k:Int)+1:=by omega
theorem wv(k:Nat):((2*k+2:Nat):Int)=2*(k:Int)+2:=by omega
theorem wn(shy b e:Int)(n:Nat):∀(ts:List Int) (k:Nat),(gW shy b e n k ts).map rl=ki shy b e n k ts
 | [],_=>rfl
 | t::ts,k=>by
  show(ro shy b e n k t++gW shy b e n (k+1) ts).map rl=rR shy b e n k t++ki shy b e n (k+1) ts
  rw[Z3,wn shy b e n ts (k+1)]
  congr 1
  unfold ro rR
  split
  ·show [_,_]=[_,_]
   unfold rl mk
   dsimp only
   rw[rD,wv]
   rfl
  ·split
   ·show [_]=[_]
    unfold rl mk
    dsimp only
    rw[wv]
    rfl
   ·show [_]=[_]
    unfold rl mk
    dsimp only
    rw[rD]
    rfl
theorem nW(s:Set7)(ts:List Int):∀(cs:List Cu) (k:Nat),(cP s ts k cs).map rl=i8 s ts (k:Int) cs
 | [],_=>rfl
 | c::rest,k=>by
  have ih:=nW s ts rest (k+1)
  have e1:(iI s c k).map rl=iH s c k:=by
   show [_,_,_]=[_,_,_]
   unfold rl mk
   dsimp only
   rw[rD,wv]
   rfl
  have e2:(kA s c k).map rl=ku s c k:=by
   show [_,_,_,_]=[_,_,_,_]
   unfold rl mk
   dsimp only
   rw[rD,wv]
   rfl
  have e3:(ga rest k++gT s c rest k).map rl=dO s c rest k:=by
   unfold ga gT dO
   rw[Z3]
   congr 1
   ·by_cases h:rest=[]
    ·rw[if_pos h,if_pos h];rfl
    ·rw[if_neg h,if_neg h]
     show [_]=[_]
     unfold rl mk
     dsimp only
     rw[rD,rD,Int.natCast_add]
     rfl
   ·cases nxt c.h 1 rest with
    | none=>rfl
    | some w =>
     show [_]=[_]
     unfold rl mk
     dsimp only
     rw[rD,wv,Int.natCast_add]
     rfl
  show(iI s c k++kA s c k++(ga rest k++gT s c rest k)++gW s.shy c.b c.e k 0 ts++cP s ts (k+1) rest).map rl=iH s c k++ku s c k++dO s c rest k++ki s.shy c.b c.e k 0 ts++i8 s ts ((k:Int)+1) rest
  rw[Z3,Z3,Z3,Z3,e1,e2,e3,wn,ih]
  rfl
theorem xg{h:Str}:∀{rest:List Cu} {w n:Nat},nxt h n rest=some w->n<=w/\w<n+rest.length
 | [],w,n,e=>by cases e
 | c::rest,w,n,e=>by
  unfold nxt at e
  by_cases z:c.h=h
  ·rw[if_pos z] at e
   cases e
   exact⟨ρ _,by rw[θ];omega⟩
  ·rw[if_neg z] at e
   have:=xg e
   rw[θ]
   omega
theorem sM{shy b e:Int}{n:Nat}{N:Nat}(hn:2*n+2<N):∀(ts:List Int) (k:Nat),Pts N (gW shy b e n k ts)
 | [],_=>λr h=>nomatch h
 | t::ts,k=>λr h=>by
  rcases Φ.mp (show r∈ro shy b e n k t++gW shy b e n (k+1) ts from h) with h | h
  ·unfold ro at h
   split at h
   ·simp only[Θ,Y9,or_false] at h
    rcases h with rfl | rfl<;>(constructor<;>dsimp only<;>omega)
   ·split at h<;>(rw[Ω.mp h];constructor<;>dsimp only<;>omega)
  ·exact sM hn ts (k+1) r h
theorem qe(s:Set7)(ts:List Int):∀(cs:List Cu) (k N:Nat),2*(k+cs.length)<N->Pts N (cP s ts k cs)
 | [],_,_,_=>λr h=>nomatch h
 | c::rest,k,N,hN=>λr h=>by
  rw[θ] at hN
  have h:r∈iI s c k++kA s c k++(ga rest k++gT s c rest k)++gW s.shy c.b c.e k 0 ts++cP s ts (k+1) rest:=h
  rcases Φ.mp h with h | h
  ·rcases Φ.mp h with h | h
   ·rcases Φ.mp h with h | h
    ·rcases Φ.mp h with h | h
     ·simp only[iI,Θ,Y9,or_false] at h
      rcases h with rfl | rfl | rfl<;>(constructor<;>dsimp only<;>omega)
     ·simp only[kA,Θ,Y9,or_false] at h
      rcases h with rfl | rfl | rfl | rfl<;>(constructor<;>dsimp only<;>omega)
    ·rcases Φ.mp h with h | h
     ·unfold ga at h
      split at h
      ·cases h
      ·rename_i hne
       have:0<rest.length:=V3.mpr hne
       rw[Ω.mp h];constructor<;>dsimp only<;>omega
     ·unfold gT at h
      cases hx:nxt c.h 1 rest with
      | none=>rw[hx] at h;cases h
      | some w =>
       rw[hx] at h
       have:=xg hx
       rw[Ω.mp h];constructor<;>dsimp only<;>omega
   ·exact sM (by omega) ts 0 r h
  ·exact qe s ts rest (k+1) N (by omega) r h
noncomputable def tmL(cs:List Cu):List Int:=cs.flatMap λc=>[c.b,c.e]
theorem pO:∀(cs:List Cu) (A:Sl) (acc:List Int) (x:Sl),acc.length+2*cs.length<=1000->∃y,jv (dG (tgN 2) hV) (cs.map cuD) [A,.ow (acc.map η),x]=M.ret (.nx [A,.ow ((acc++tmL cs).map η),y])
 | [],A,acc,x,_=>⟨x,by rw[show tmL []=[] from rfl,Z7];rfl⟩
 | c::cs,A,acc,x,h=>by
  rw[θ] at h
  obtain⟨y,ih⟩:=pO cs A (acc++[c.b,c.e]) (.vl (cuD c)) (by rw[ζ];show acc.length+2+_<=_;omega)
  refine⟨y,?_⟩
  rw[show tmL (c::cs)=[c.b,c.e]++tmL cs from rfl,<-Z4,Δ]
  rw[Z3 (l₁:=acc)] at ih
  refine du (eJ (δ':=[A,.ow (acc.map η),.vl (cuD c)]) rfl ?_) ih
  unfold hV
  exact qV (ds:=acc.map η) (es:=[.int c.b,.int c.e]) rfl (dL (ac (ap (x:=cuD c) (af rfl) ao rfl) (ac (ap (x:=cuD c) (af rfl) ao rfl) ak)) rfl) (aW (by rw[ι];show acc.length+2<=_;omega))
theorem Ay{cs:List Cu}(hl:cs.length<=400):iJ [.list (cs.map cuD)]=M.ret (.list ((0::tmL cs).map η)):=by
 obtain⟨y,hL⟩:=pO cs (.vl (.list (cs.map cuD))) [0] .un (by show 1+_<=_;omega)
 refine bq ?_
 unfold jT
 refine aY (hG (ds:=[.int 0]) (dL (ac ao ak) rfl)) ?_
 exact aY (e7 (gR (x:=.list (cs.map cuD)) (af rfl) rfl) hL) rfl
theorem Cp{F:List D->M D}{fa:DS->M (List D)}{δ:DS}{ds:List D}{d:D}(h1:fa δ=M.ret ds)(h2:F (ds++[.int 0])=M.ret d):aH (λds=>noX (F (ds++[.int 0]))) fa δ=M.ret d:=by
 unfold aH
 rw[h1,aQ,h2]
 rfl
noncomputable def swT:D->List Nat
 | .tuple [.str x,.int n]=>x.cps.toList++32::nT n.toNat
 | .tuple [.str x,.int n,.int k]=>x.cps.toList++32::(nT n.toNat++32::nT k.toNat)
 | _=>[]
def zj:D->Prop
 | .tuple [.str x,.int n]=>x.length<=20/\0<=n/\n<1000
 | .tuple [.str x,.int n,.int k]=>x.length<=20/\0<=n/\n<1000/\0<=k/\k<1000
 | _=>False
theorem uW(z:Str):vH [.str z]=some (.str z):=rfl
theorem pQ{n:Int}(h0:0<=n)(h1:n<1000):vH [.int n]=some (tx (nT n.toNat)):=by
 obtain⟨m,rfl⟩:∃m:Nat,n=(m:Int):=⟨n.toNat,by omega⟩
 show jr [.int (m:Int)]=_
 rw[tU (by omega),W3,xi]
theorem BG{n:Int}(h0:0<=n)(h1:n<1000):(nT n.toNat).length<=18:=jb (by omega)
theorem oA{w:D}(h:zj w):gj [w]=M.ret (tx (swT w))/\(swT w).length<=60:=by
 unfold zj at h
 split at h
 ·rename_i x n
  obtain⟨h1,h2,h3⟩:=h
  have hl:=BG h2 h3
  have hx:x.cps.toList.length=x.length:=by show x.cps.toList.length=x.cps.size;simp
  have hj:=xa (c:=32) (ts:=[x.cps.toList,nT n.toNat]) (by show x.cps.toList.length+1+((nT n.toNat).length+1+0)<=_;omega)
  refine⟨bq ?_,by show(x.cps.toList++32::nT n.toNat).length<=60;simp only[ζ,θ];omega⟩
  unfold ip
  refine bg (cZ (z:=S [32]) ao (ac (x:=.list ([x.cps.toList,nT n.toNat].map tx)) (eT (ds:=[.str x,.int n]) (gR (x:=.tuple [.str x,.int n]) (af rfl) rfl) rfl ?_) ak) hj)
  refine eo (δ':=[.vl (.str x)]) rfl (br (ac (af rfl) ak) ?_) (eo (δ':=[.vl (.int n)]) rfl (br (ac (af rfl) ak) (pQ h2 h3)) rfl)
  rw[uW]
  show some (X8 x)=some (X8 (S x.cps.toList))
  rw[S_L]
 ·rename_i x n k
  obtain⟨h1,h2,h3,h4,h5⟩:=h
  have hl:=BG h2 h3
  have hl2:=BG h4 h5
  have hx:x.cps.toList.length=x.length:=by show x.cps.toList.length=x.cps.size;simp
  have hj:=xa (c:=32) (ts:=[x.cps.toList,nT n.toNat,nT k.toNat]) (by show x.cps.toList.length+1+((nT n.toNat).length+1+((nT k.toNat).length+1+0))<=_;omega)
  refine⟨bq ?_,by show(x.cps.toList++32::(nT n.toNat++32::nT k.toNat)).length<=60;simp only[ζ,θ];omega⟩
  unfold ip
  refine bg (cZ (z:=S [32]) ao (ac (x:=.list ([x.cps.toList,nT n.toNat,nT k.toNat].map tx)) (eT (ds:=[.str x,.int n,.int k]) (gR (x:=.tuple [.str x,.int n,.int k]) (af rfl) rfl) rfl ?_) ak) hj)
  refine eo (δ':=[.vl (.str x)]) rfl (br (ac (af rfl) ak) ?_) (eo (δ':=[.vl (.int n)]) rfl (br (ac (af rfl) ak) (pQ h2 h3)) (eo (δ':=[.vl (.int k)]) rfl (br (ac (af rfl) ak) (pQ h4 h5)) rfl))
  rw[uW]
  show some (X8 x)=some (X8 (S x.cps.toList))
  rw[S_L]
 ·exact h.elim
noncomputable def dD(T:List Int)(rs:List Rl):List (List Nat):=(rs.filter λr=>decide (r.w.isNone=true/\0<lk T r)).map λr=>swT r.why
theorem uM{T:List Int}{all:List Rl}:∀(rs:List Rl) (k:Nat) (x:Sl),(∀i,all[k+i]?=rs[i]?)->(∀r∈rs,r.w=none->zj r.why)->fA (tgN 0) (nX lW) (nX (aH (λds=>noX (gj ds)) (ag (d2 oIx (d2 oIx (ah 1) (ah 0)) (dC (.int 4))) ar))) ((brk T k rs).map η) [x,.vl (.list (all.map rl))]=M.ret ((dD T rs).map tx)
 | [],k,x,_,_=>rfl
 | r::rs,k,x,ha,hw=>by
  have h0:=ha 0
  have ih:=λx=>uM (T:=T) rs (k+1) x (λi=>by rw[Nat.add_assoc,Nat.add_comm 1 i];exact ha (i+1)) λq hq=>hw q (χ _ hq)
  unfold dD
  by_cases hb:r.w.isNone=true/\0<lk T r
  ·rw[show brk T k (r::rs)=(k:Int)::brk T (k+1) rs from if_pos hb,Δ,List.filter_cons_of_pos (by simpa using hb),Δ,Δ]
   have hix:oIx (.list (all.map rl)) (.int (k:Int))=some (rl r):=gB (by rw[Z6];rw[Nat.add_zero] at h0;rw[h0];rfl)
   exact eo (δ':=[.vl (.int (k:Int)),.vl (.list (all.map rl))]) rfl (az (ds:=[r.why]) (ac (ap (x:=rl r) (ap (x:=.list (all.map rl)) (af rfl) (af rfl) hix) ao rfl) ak) (oA (hw r υ (by simpa using hb.1))).1) (ih _)
  ·rw[show brk T k (r::rs)=brk T (k+1) rs from if_neg hb,List.filter_cons_of_neg (by simpa using hb)]
   exact ih x
theorem C4(W:List (List Nat)):i0 (W.map tx)=some (W.map S):=uV W
noncomputable def wA(W:List (List Nat)):D:=if W=[] then .str "none" else .str (Txt.join (Str.ofString ", ") (W.map S))
theorem qK{W:List (List Nat)}(h:W.length<=1000)(hl:∀w∈W,w.length<=60):oB (Str.ofString ", ") [.list (W.map tx)]=some (.str (Txt.join (Str.ofString ", ") (W.map S))):=by
 have main:∀(W:List (List Nat)) (a:Nat),(∀w∈W,w.length<=60)->(W.map S).foldl (λx1 x2=>x1+x2.length+(Str.ofString ", ").length) a<=a+62*W.length:=by
  intro W
  induction W with
  | nil=>intro a _;exact ρ _
  | cons w W ih =>
   intro a h
   have h1:=ih (a+(S w).length+(Str.ofString ", ").length) λv hv=>h v (χ _ hv)
   have h2:=h w υ
   have h3:(Str.ofString ", ").length=2:=by decide +kernel
   rw[Δ,List.foldl_cons,θ]
   rw[dw] at h1
   rw[dw]
   omega
 have hj:JoinOk (Str.ofString ", ") (W.map S)=true:=by
  unfold JoinOk
  have e:=main W 0 hl
  rw[show Array.foldl (λx1 x2=>x1+x2.length+(Str.ofString ", ").length) 0 (W.map S).toArray=(W.map S).foldl (λx1 x2=>x1+x2.length+(Str.ofString ", ").length) 0 by rw[List.foldl_toArray' (h:=rfl)]]
  show(!decide (_ > sizeLine))=true
  rw[sizeLine_eq,decide_eq_false (by omega)]
  rfl
 show(match i0 (W.map tx) with | some ts=>if JoinOk (Str.ofString ", ") ts then some (X8 (Txt.join (Str.ofString ", ") ts)) else none | none=>none)=_
 rw[C4]
 show(if JoinOk (Str.ofString ", ") (W.map S)=true then _ else none)=_
 rw[if_pos hj]
theorem wm{shy b e:Int}{n:Nat}(hn:n<1000):∀(ts:List Int) (k:Nat),k+ts.length<=1000->(∀r∈gW shy b e n k ts,zj r.why)/\(gW shy b e n k ts).length<=2*ts.length
 | [],_,_=>⟨λr h=>(nomatch h),ρ _⟩
 | t::ts,k,hk=>by
  rw[θ] at hk
  obtain⟨i1,i2⟩:=wm (shy:=shy) (b:=b) (e:=e) hn ts (k+1) (by omega)
  have hc:(∀r∈ro shy b e n k t,zj r.why)/\(ro shy b e n k t).length<=2:=by
   unfold ro
   split
   ·refine⟨λr h=>?_,ρ _⟩
    simp only[Θ,Y9,or_false] at h
    rcases h with rfl | rfl<;>exact⟨by decide +kernel,by omega,by omega,by omega,by omega⟩
   ·split<;>(refine⟨λr h=>?_,U4 _⟩;rw[Ω.mp h];exact⟨by decide +kernel,by omega,by omega,by omega,by omega⟩)
  refine⟨λr h=>?_,?_⟩
  ·rcases Φ.mp (show r∈ro shy b e n k t++gW shy b e n (k+1) ts from h) with h | h
   ·exact hc.1 r h
   ·exact i1 r h
  ·show(ro shy b e n k t++gW shy b e n (k+1) ts).length<=_
   rw[ζ,θ]
   omega
theorem r9(s:Set7){ts:List Int}(ht:ts.length<=1000):∀(cs:List Cu) (k:Nat),k+cs.length<1000->(∀r∈cP s ts k cs,r.w=none->zj r.why)/\(cP s ts k cs).length<=(9+2*ts.length)*cs.length
 | [],_,_=>⟨λr h=>(nomatch h),ρ _⟩
 | c::rest,k,hk=>by
  rw[θ] at hk
  obtain⟨i1,i2⟩:=r9 s ht rest (k+1) (by omega)
  obtain⟨j1,j2⟩:=wm (shy:=s.shy) (b:=c.b) (e:=c.e) (n:=k) (by omega) ts 0 (by omega)
  have ho:(ga rest k).length<=1:=by unfold ga;split<;>simp
  have ha:(gT s c rest k).length<=1:=by unfold gT;split<;>simp
  refine⟨λr h hw=>?_,?_⟩
  ·have h:r∈iI s c k++kA s c k++(ga rest k++gT s c rest k)++gW s.shy c.b c.e k 0 ts++cP s ts (k+1) rest:=h
   rcases Φ.mp h with h | h
   ·rcases Φ.mp h with h | h
    ·rcases Φ.mp h with h | h
     ·rcases Φ.mp h with h | h
      ·simp only[iI,Θ,Y9,or_false] at h
       rcases h with rfl | rfl | rfl<;>exact⟨by decide +kernel,by omega,by omega⟩
      ·simp only[kA,Θ,Y9,or_false] at h
       rcases h with rfl | rfl | rfl | rfl<;>cases hw
     ·rcases Φ.mp h with h | h
      ·unfold ga at h
       split at h
       ·cases h
       ·rename_i hne
        have:0<rest.length:=V3.mpr hne
        rw[Ω.mp h]
        exact⟨by decide +kernel,by omega,by omega,by omega,by omega⟩
      ·unfold gT at h
       cases hx:nxt c.h 1 rest with
       | none=>rw[hx] at h;cases h
       | some w =>
        rw[hx] at h
        have:=xg hx
        rw[Ω.mp h]
        exact⟨by decide +kernel,by omega,by omega,by omega,by omega⟩
    ·exact j1 r h
   ·exact i1 r h hw
  ·show(iI s c k++kA s c k++(ga rest k++gT s c rest k)++gW s.shy c.b c.e k 0 ts++cP s ts (k+1) rest).length<=_
   simp only[ζ,θ]
   rw[Nat.mul_succ]
   have e1:(iI s c k).length=3:=rfl
   have e2:(kA s c k).length=4:=rfl
   omega
noncomputable def dkD(CD SD TD:D):D:=gP "Desk" [("cues",CD),("clock",gP "Thousandths" []),("settings",SD),("cuts",TD)]
theorem yY(a b c:D):kM "Desk" "cues" (dkD a b c)=some a:=by kernel_rfl
theorem re(a b c:D):kM "Desk" "clock" (dkD a b c)=some (gP "Thousandths" []):=by kernel_rfl
theorem wc(a b c:D):kM "Desk" "settings" (dkD a b c)=some b:=by kernel_rfl
theorem uu(a b c:D):kM "Desk" "cuts" (dkD a b c)=some c:=by kernel_rfl
noncomputable def ma(s:Set7)(ts:List Int)(cs:List Cu):D:=wA (dD (0::tmL cs) (cP s ts 0 cs))
theorem xZ:∀cs:List Cu,(tmL cs).length=2*cs.length
 | []=>rfl
 | c::cs=>by
  have h:=xZ cs
  rw[show tmL (c::cs)=[c.b,c.e]++tmL cs from rfl,ζ,h,θ (a:=c)]
  show 2+_=_
  omega
theorem CZ(s:Set7){ts:List Int}{cs:List Cu}(CD:D)(hok:∀c∈cs,uC c/\hOk c)(hl:cs.length<=8)(ht:ts.length<=50):cg [dkD CD (stD s) (.list (ts.map η)),.list (cs.map cuD)]=M.ret (ma s ts cs):=by
 have hr:=AN s hok 0 ts (by omega) (by omega)
 have hT:(0::tmL cs).length=2*cs.length+1:=by rw[θ,xZ]
 obtain⟨w1,w2⟩:=r9 s (ts:=ts) (by omega) cs 0 (by omega)
 have hm:(9+2*ts.length)*cs.length<=109*8:=Nat.mul_le_mul (by omega) hl
 have hb:=Ao (T:=0::tmL cs) (rs:=cP s ts 0 cs) (qe s ts cs 0 _ (by rw[hT];omega)) (by omega)
 rw[nW] at hb
 have ht':=Ay (cs:=cs) (by omega)
 have hc:=uM (T:=0::tmL cs) (all:=cP s ts 0 cs) (cP s ts 0 cs) 0 .un (λi=>by rw[Nat.zero_add]) w1
 rw[nW] at hc
 have hwl:∀w∈dD (0::tmL cs) (cP s ts 0 cs),w.length<=60:=λw hw=>by
  unfold dD at hw
  obtain⟨r,hr,rfl⟩:=W6.mp hw
  obtain⟨h1,h2⟩:=Y8.mp hr
  exact(oA (w1 r h1 (by have:=of_decide_eq_true h2;simpa using this.1))).2
 have hwn:(dD (0::tmL cs) (cP s ts 0 cs)).length<=1000:=by
  unfold dD
  rw[ι]
  have:=List.length_filter_le (λr=>decide (r.w.isNone=true/\0<lk (0::tmL cs) r)) (cP s ts 0 cs)
  omega
 have hbl:(brk (0::tmL cs) 0 (cP s ts 0 cs)).length<=1000:=by
  have main:∀(rs:List Rl) (k:Nat),(brk (0::tmL cs) k rs).length<=rs.length:=by
   intro rs
   induction rs with
   | nil=>intro k;exact ρ _
   | cons r rs ih =>
    intro k
    have:=ih (k+1)
    unfold brk
    split
    ·rw[θ,θ];omega
    ·rw[θ];omega
  have:=main (cP s ts 0 cs) 0
  omega
 unfold ma
 generalize dD (0::tmL cs) (cP s ts 0 cs)=W at hc hwl hwn
 generalize brk (0::tmL cs) 0 (cP s ts 0 cs)=B at hb hc hbl
 have hj:=qK hwn hwl
 generalize hRR:Z1 (i8 s ts ((0:Nat):Int) cs)=RR at hb hc
 have hr:dP [stD s,.list (cs.map cuD),.list (ts.map η),.int 0]=M.ret RR:=by rw[<-hRR];exact hr
 generalize hCS:Z1 (cs.map cuD)=CS at hr ht' ⊢
 refine bq ?_
 unfold cK
 refine aY (bF (d:=RR) (Cp (ds:=[stD s,CS,.list (ts.map η)]) (ac (mt (x:=dkD CD (stD s) (.list (ts.map η))) (af rfl) (wc _ _ _)) (ac (af rfl) (ac (mt (x:=dkD CD (stD s) (.list (ts.map η))) (af rfl) (uu _ _ _)) ak))) hr)) ?_
 refine aY (bF (d:=.list (W.map tx)) (eT (ds:=B.map η) (gR (x:=.list (B.map η)) (az (ds:=[RR,.list ((0::tmL cs).map η)]) (ac (af rfl) (ac (az (ds:=[CS]) (ac (af rfl) ak) ht') ak)) hb) rfl) (aW (by rw[ι];omega)) hc)) ?_
 refine bg ?_
 cases W with
 | nil =>
  refine vZ (b:=false) (by unfold dTr;rw[af (d:=.list []) rfl];rfl) ?_
  rw[if_neg Ξ]
  exact ao
 | cons w W =>
  refine vZ (b:=true) (by unfold dTr;rw[af (d:=.list ((w::W).map tx)) rfl];rfl) ?_
  rw[if_pos rfl]
  exact cZ (z:=Str.ofString ", ") ao (ac (x:=.list ((w::W).map tx)) (af rfl) ak) hj
end CT
namespace K62
open SL
noncomputable def el:DS->M Out:=(bf (gIf (dB (d2 oLt (ah 1) (dCB dI (ag (ah 0) ar)))) (ce (d2 oIx (ah 0) (ah 1))) bV)
  (ce (dC (.int 0))))
noncomputable def cF:List D->M D:=run 2 el
noncomputable def jA:DS->M Out:=(bf (cM (d2 gc (d2 kn (d2 bm (d2 bm (ah 3) (ah 4)) (dC (.int 1))) (dC (.int 48271))) (dC (.int 2147483647))) (tgN 3))
  (ko 2 (ah 3)))
noncomputable def ek:DS->M Out:=(bf (kh 2 (jt ar))
  (bf (cM (d2 gc (ah 0) (dC (.int 2147483647))) (tgN 3))
  (bf (ir (uz zu (ag (ah 1) ar)) (tgN 4) jA)
  (sF 2))))
noncomputable def cE:List D->M D:=run 5 ek
noncomputable def gv:DS->M Out:=(bf (cM (dCB ly (ag (ah 0) (ag (dC (.int 1000)) ar))) (ee 2 (aX (tgN 2) (aX (tgN 3) eM))))
  (bf (cM (dCB ly (ag (ah 2) (ag (dC (.int 60)) ar))) (ee 2 (aX (tgN 4) (aX (tgN 2) eM))))
  (bf (cM (dCB ly (ag (ah 4) (ag (dC (.int 60)) ar))) (ee 2 (aX (tgN 5) (aX (tgN 4) eM))))
  (bf (cM (d2 bm (d2 bm (d2 bm (d2 bm (eV jK (dCB jr (ag (ah 5) ar)) (ag (dC (.int 2)) ar)) (dC (.str ":"))) (eV jK (dCB jr (ag (ah 4) ar)) (ag (dC (.int 2)) ar))) (dC (.str ":"))) (eV jK (dCB jr (ag (ah 2) ar)) (ag (dC (.int 2)) ar))) (tgN 1))
  (ce (d2 bm (d2 bm (ah 1) (dC (.str "."))) (eV jK (dCB jr (ag (ah 3) ar)) (ag (dC (.int 3)) ar))))))))
noncomputable def bL:List D->M D:=run 6 gv
noncomputable def fm:SL.SG:=(cA (ic 4 (bR (aH (λds=>noX (cE ds)) (ag (ah 3) (ag (dC (.int 3)) ar)))))
  (cA (sIf (eN (dB (d2 oEq (d2 gc (ah 3) (dC (.int 2))) (dC (.int 0))))) (cA (ic 7 (bR (d2 oIx (kr (ag (dC (.str "sign")) (ag (dC (.str "least")) (ag (dC (.str "most")) (ag (dC (.str "apart")) (ag (dC (.str "shy")) (ag (dC (.str "begin")) (ag (dC (.str "end")) ar)))))))) (d2 gc (d2 oIx (ah 4) (dC (.int 0))) (dC (.int 7))))))
  (cA (ic 8 (bR (dCB iP (ag (d2 (mX false) (ah 7) (kr (ag (dC (.str "least")) (ag (dC (.str "shy")) ar)))) ar))))
  (cA (ic 9 (bR (d2 DX (dC (.int 10)) (dC (.int 9)))))
  (cA (sIf (eN (dB (d2 (mX false) (ah 7) (kr (ag (dC (.str "begin")) (ag (dC (.str "end")) ar)))))) (ic 9 (bR (dC (.int 99)))) gz)
  (cA (qc (cO 0) (cO 7) (bR (d2 oIx (kr (ag (ah 8) (ag (d2 bm (ah 8) (d2 gc (d2 oIx (ah 4) (dC (.int 1))) (dC (.int 99)))) (ag (d2 gc (d2 oIx (ah 4) (dC (.int 1))) (dC (.int 9000))) (ag (ah 9) ar))))) (d2 gc (d2 oIx (ah 4) (dC (.int 2))) (dC (.int 4))))))
  (cA (qc (cO 0) (cO 7) (fj (dCB tV (ag (ah 8) (ag (dCB DZ (ag (ah 9) (ag (d2 bT (ah 0) (ah 7)) ar))) ar)))))
  (mR (fj (d2 bm (d2 bm (d2 bm (dC (.str "set ")) (ah 7)) (dC (.str " "))) (dCB jr (ag (d2 bT (ah 0) (ah 7)) ar))))))))))) gz)
  (cA (yi (agTup 2 (xP (agN 10) (xP (agN 11) agNil))) (bR (sJ (d2 oIx (ah 2) (d2 gc (d2 Bw (d2 oIx (ah 4) (dC (.int 2))) (dC (.int 8))) (dCB dI (ag (ah 2) ar)))) pG (rn (dC (.int 2))))))
  (cA (ic 5 (fj (d2 oIx (kr (ag (ah 10) (ag (ah 11) (ag (d2 bm (ah 10) (d2 bT (ah 0) (dC (.str "shy")))) (ag (d2 ml (ah 11) (d2 bT (ah 0) (dC (.str "shy")))) (ag (d2 Bw (d2 bm (ah 10) (ah 11)) (dC (.int 2))) ar)))))) (d2 gc (d2 oIx (ah 4) (dC (.int 0))) (dC (.int 5))))))
  (cA (ic 6 (bR (dCB tV (ag (dC (.int 0)) (ag (d2 ml (d2 bm (ah 5) (d2 gc (d2 oIx (ah 4) (dC (.int 1))) (dC (.int 3)))) (dC (.int 1))) ar)))))
  (cA (sIf (md (jy (dB (d2 oEq (d2 gc (d2 oIx (ah 4) (dC (.int 2))) (dC (.int 4))) (dC (.int 0)))) (dB (d2 oGt (dCB dI (ag (ah 1) ar)) (dC (.int 0)))))) (cA (ic 6 (fj (d2 oIx (ah 1) (d2 gc (d2 oIx (ah 4) (dC (.int 0))) (dCB dI (ag (ah 1) ar))))))
  (cA (lX (De (cO 1) (cO 6)))
  (mR (bR (d2 bm (dC (.str "uncut ")) (aH (λds=>noX (bL ds)) (ag (ah 6) ar))))))) gz)
  (cA (sIf (md (jy (dB (d2 oEq (d2 gc (d2 oIx (ah 4) (dC (.int 2))) (dC (.int 4))) (dC (.int 1)))) (dB (d2 (mX true) (ah 6) (ah 1))))) (mR (bR (d2 bm (dC (.str "uncut ")) (aH (λds=>noX (bL ds)) (ag (ah 6) ar))))) gz)
  (cA (sIf (md (dB (d2 (mX true) (ah 6) (ah 1)))) (lX (Dg (cO 1) (cO 6))) gz)
  (mR (bR (d2 bm (dC (.str "cut ")) (aH (λds=>noX (bL ds)) (ag (ah 6) ar)))))))))))))
noncomputable def df:List SL.Val->SL.Sto->SL.R (SL.Val×SL.Sto):=SL.mh 12 fm
noncomputable def xU:List D->M D:=SL.asD df
noncomputable def iV:DS->M Out:=(bf (cM (ah 1) (ee 4 (aX (tgN 4) (aX (tgN 5) (aX (tgN 6) (aX (tgN 7) eM))))))
  (bf (gIf (jy (dB (d2 d0 (d2 bm (ah 4) (d2 bT (ah 0) (dC (.str "shy")))) (ah 3))) (dB (d2 d0 (d2 bm (ah 3) (d2 bT (ah 0) (dC (.str "shy")))) (ah 5)))) (ce (dC (.str ""))) bV)
  (bf (gIf (dB (d2 d0 (d2 bm (ah 4) (ah 5)) (d2 kn (dC (.int 2)) (ah 3)))) (bf (gIf (dB (d2 oGt (ah 5) (ah 3))) (ce (dC (.str "ahead"))) bV)
  (ce (dC (.str "")))) bV)
  (bf (gIf (dB (d2 oLt (ah 4) (ah 3))) (ce (dC (.str "behind"))) bV)
  (ce (dC (.str "")))))))
noncomputable def gK:List D->M D:=run 8 iV
noncomputable def cm:DS->M Out:=(gIf (dB (d2 oEq (d2 oIx (d2 oIx (ah 1) (ah 3)) (dC (.int 2))) (d2 oIx (d2 oIx (ah 1) (ah 2)) (dC (.int 2))))) (bf (gIf (dB (d2 oLt (d2 oIx (d2 oIx (ah 1) (ah 3)) (dC (.int 0))) (d2 bm (d2 oIx (d2 oIx (ah 1) (ah 2)) (dC (.int 1))) (d2 bT (ah 0) (dC (.str "apart")))))) (ce (kr (ag (d2 bm (d2 bm (d2 bm (dC (.str "apart ")) (dCB jr (ag (ah 2) ar))) (dC (.str " "))) (dCB jr (ag (ah 3) ar))) ar))) bV)
  (ce (kr ar))) bV)
noncomputable def hE:DS->M Out:=(bf (ir (uz wQ (ag (d2 bm (ah 2) (dC (.int 1))) (ag (dCB dI (ag (ah 1) ar)) ar))) (tgN 3) cm)
  (ce (kr ar)))
noncomputable def fX:List D->M D:=run 4 hE
noncomputable def hZ:DS->M Out:=(bf (cM (aH (λds=>noX (gK ds)) (ag (ah 0) (ag (ah 5) (ag (ah 10) (ag (ah 11) ar))))) (tgN 12))
  (gIf (dB (d2 oNe (ah 12) (dC (.str "")))) (ko 3 (d2 bm (d2 bm (d2 bm (d2 bm (ah 12) (dC (.str " "))) (dCB jr (ag (ah 4) ar))) (dC (.str " "))) (dCB jr (ag (ah 10) ar)))) bV))
noncomputable def fV:DS->M Out:=(bf (cM (ah 5) (ee 4 (aX (tgN 6) (aX (tgN 7) (aX (tgN 8) (aX (tgN 9) eM))))))
  (bf (gIf (dB (d2 oLt (d2 ml (ah 7) (ah 6)) (dCB tV (ag (d2 bT (ah 0) (dC (.str "least"))) (ag (d2 kn (d2 bT (ah 0) (dC (.str "sign"))) (dCB dI (ag (ah 9) ar))) ar))))) (ko 3 (d2 bm (dC (.str "long ")) (dCB jr (ag (ah 4) ar)))) bV)
  (bf (gIf (dB (d2 oGt (d2 ml (ah 7) (ah 6)) (d2 bT (ah 0) (dC (.str "most"))))) (ko 3 (d2 bm (dC (.str "most ")) (dCB jr (ag (ah 4) ar)))) bV)
  (bf (kh 3 (Ea 3 (BH (ah 3) (aH (λds=>noX (fX ds)) (ag (ah 0) (ag (ah 1) (ag (ah 4) ar)))))))
  (ir (nv (ag (dCB jQ (ag (ah 2) ar)) ar)) (ee 2 (aX (tgN 10) (aX (tgN 11) eM))) hZ)))))
noncomputable def jX:DS->M Out:=(bf (kh 3 (jt ar))
  (bf (ir (nv (ag (ah 1) ar)) (ee 2 (aX (tgN 4) (aX (tgN 5) eM))) fV)
  (Ew 3 (bf (gIf (dB (d2 oEq (ah 3) (kr ar))) (ce (dC (.str "none"))) bV)
  (ce (eV oB (dC (.str ", ")) (ag (ah 3) ar)))))))
noncomputable def dl:List D->M D:=run 13 jX
noncomputable def eW:DS->M Out:=(bf (cM (aH (λds=>noX (cE ds)) (ag (ah 3) (ag (dC (.int 4)) ar))) (tgN 4))
  (bf (cM (d2 bm (ah 2) (d2 oIx (kr (ag (dC (.int 0)) (ag (d2 gc (d2 oIx (ah 4) (dC (.int 0))) (dC (.int 100))) (ag (d2 gc (d2 oIx (ah 4) (dC (.int 0))) (dC (.int 9000))) (ag (d2 gc (d2 oIx (ah 4) (dC (.int 0))) (d2 DX (dC (.int 10)) (dC (.int 9)))) ar))))) (d2 gc (d2 oIx (ah 4) (dC (.int 1))) (dC (.int 4))))) (tgN 2))
  (bf (cM (d2 oIx (kr (ag (dC (.str "ab")) (ag (dC (.str "ab cd")) (ag (dC (.str "a b c d e f g h")) ar)))) (d2 gc (d2 oIx (ah 4) (dC (.int 3))) (dC (.int 3)))) (tgN 5))
  (ko 1 (d9 (ag (ah 2) (ag (d2 bm (d2 bm (ah 2) (dC (.int 1))) (d2 gc (d2 oIx (ah 4) (dC (.int 2))) (dC (.int 9000)))) (ag (d2 oIx (kr (ag (dC (.str "ann")) (ag (dC (.str "bob")) (ag (dC (.str "ann")) ar)))) (d2 gc (d2 Bw (d2 oIx (ah 4) (dC (.int 1))) (dC (.int 4))) (dC (.int 3)))) (ag (ah 5) ar)))))))))
noncomputable def iW:DS->M Out:=(bf (kh 1 (jt ar))
  (bf (cM (dC (.int 0)) (tgN 2))
  (bf (ir (jl (ah 0)) (tgN 3) eW)
  (sF 1))))
noncomputable def gL:List D->M D:=run 6 iW
noncomputable def gy:DS->M Out:=(ko 1 (d2 bm (d2 bm (d2 bm (d2 bm (d2 bm (d2 bm (aH (λds=>noX (bL ds)) (ag (ah 2) ar)) (dC (.str " "))) (aH (λds=>noX (bL ds)) (ag (ah 3) ar))) (dC (.str " "))) (ah 4)) (dC (.str " "))) (ah 5)))
noncomputable def iU:DS->M Out:=(bf (kh 1 (jt ar))
  (bf (ir (jl (ah 0)) (ee 4 (aX (tgN 2) (aX (tgN 3) (aX (tgN 4) (aX (tgN 5) eM))))) gy)
  (Ew 1 (ce (eV oB (dC (.str "\n")) (ag (ah 1) ar))))))
noncomputable def eD:List D->M D:=run 6 iU
noncomputable def lR:SL.SG:=(cA (sIf (sBl (o2 oNe (lU "Desk" "say" bt (cO 5) (eg (yh df (eg (cO 3) (eg (cO 4) (eg (cO 2) (eg (cO 6) jL))))) jL)) (bR (dC (.str "ok"))))) (mR (bR (dC (.bool false)))) gz)
  (sIf (sBl (o2 oNe (lU "Desk" "say" bt (cO 5) (eg (bR (dC (.str "broken a"))) jL)) (fj (aH (λds=>noX (dl ds)) (ag (ah 3) (ag (ah 2) (ag (ah 4) ar))))))) (mR (bR (dC (.bool false)))) gz))
noncomputable def yF:SL.SG:=(cA (ic 1 (bR (d2 bm (dC (.int 1)) (d2 gc (aH (λds=>noX (cF ds)) (ag (ah 0) (ag (dC (.int 0)) ar))) (dC (.int 4))))))
  (cA (ic 2 (bR (aH (λds=>noX (gL ds)) (ag (eB 1 [0] (tgN 0) (uz zu (ag (ah 1) ar)) lW (d2 bm (aH (λds=>noX (cF ds)) (ag (ah 1) (ag (d2 bm (dC (.int 1)) (ah 0)) ar))) (d2 kn (dC (.int 977)) (ah 0)))) ar))))
  (cA (ic 3 (r8 (eO (dC (.str "sign")) (dC (.int 60)) (eO (dC (.str "least")) (dC (.int 1000)) (eO (dC (.str "most")) (dC (.int 7000)) (eO (dC (.str "apart")) (dC (.int 80)) (eO (dC (.str "shy")) (dC (.int 200)) (eO (dC (.str "begin")) (dC (.int 2)) (eO (dC (.str "end")) (dC (.int 1)) DN)))))))))
  (cA (ic 4 (r6 (jt ar)))
  (cA (ic 5 (sMk "Desk" eK jL))
  (cA (sIf (sOr (sBl (o2 oNe (lU "Desk" "say" bt (cO 5) (eg (bR (d2 bm (dC (.str "cues a\n")) (aH (λds=>noX (eD ds)) (ag (ah 2) ar)))) jL)) (bR (dC (.str "ok"))))) (sBl (o2 oNe (lU "Desk" "say" bt (cO 5) (eg (bR (dC (.str "broken a"))) jL)) (fj (aH (λds=>noX (dl ds)) (ag (ah 3) (ag (ah 2) (ag (ah 4) ar)))))))) (mR (bR (dC (.bool false)))) gz)
  (cA (Df (jl (sJ (ah 0) (rn (dC (.int 5))) (rn (dC (.int 17))))) (agN 6) lR)
  (cA (ic 7 (sMk "Desk" eK jL))
  (cA (sIf (sOr (sBl (o2 oNe (lU "Desk" "say" bt (cO 7) (eg (bR (d2 bm (dC (.str "cues a\n")) (aH (λds=>noX (eD ds)) (ag (ah 2) ar)))) jL)) (bR (dC (.str "ok"))))) (sBl (o2 oNe (lU "Desk" "say" bt (cO 5) (eg (bR (dC (.str "broken a"))) jL)) (fj (aH (λds=>noX (dl ds)) (ag (ah 3) (ag (ah 2) (ag (ah 4) ar)))))))) (mR (bR (dC (.bool false)))) gz)
  (cA (ic 3 (r8 (eO (dC (.str "sign")) (dC (.int 60)) (eO (dC (.str "least")) (dC (.int 1000)) (eO (dC (.str "most")) (dC (.int 7000)) (eO (dC (.str "apart")) (dC (.int 80)) (eO (dC (.str "shy")) (dC (.int 200)) (eO (dC (.str "begin")) (dC (.int 2)) (eO (dC (.str "end")) (dC (.int 1)) DN)))))))))
  (mR (o2 oEq (lU "Desk" "say" bt (cO 7) (eg (bR (dC (.str "broken a"))) jL)) (fj (aH (λds=>noX (dl ds)) (ag (ah 3) (ag (ah 2) (ag (kr ar) ar)))))))))))))))))
noncomputable def uK:List SL.Val->SL.Sto->SL.R (SL.Val×SL.Sto):=SL.mh 8 yF
noncomputable def zd:List D->M D:=SL.asD uK
end K62
namespace CT
theorem n8{n k:Nat}(hk:0<k)(hk2:k<1073741824):ly [.int (n:Int),.int (k:Int)]=some (.tuple [.int ((n / k:Nat):Int),.int ((n % k:Nat):Int)]):=by
 show(if decide (0<(k:Int)/\(k:Int)<1073741824)=true then some (W1 [.int ((n:Int) / (k:Int)),.int ((n:Int) % (k:Int))]) else none)=_
 rw[if_pos (by exact decide_eq_true ⟨by omega,by omega⟩),Int.natCast_ediv,Int.natCast_emod]
theorem jC{a b:List Nat}(h:a.length+b.length<=1000000):bm (.str (S a)) (.str (S b))=some (.str (S (a++b))):=by
 rw[o_addS (aW (by rw[dw,dw];omega)),wB]
end CT
namespace K62
theorem je{n:Nat}(hn:n<10 ^ 19):bL [.int (n:Int)]=M.ret (tx (tT n)):=by
 have st:∀n:Nat,n<10 ^ 30->jr [.int (n:Nat)]=some (.str (Str.ofString (toString ((n:Nat):Int)))):=λn hn=>tU (by omega)
 have h1:n / 1000 / 60 / 60=n / 3600000:=by omega
 have h2:n / 1000 / 60 % 60=n / 60000 % 60:=by omega
 have hh:n / 3600000<10 ^ 30:=by omega
 have hm:n / 60000 % 60<10 ^ 30:=by omega
 have hs:n / 1000 % 60<10 ^ 30:=by omega
 have hr:n % 1000<10 ^ 30:=by omega
 have l1:=vY (k:=2) hh
 have l2:=vY (k:=2) hm
 have l3:=vY (k:=2) hs
 have l4:=vY (k:=3) hr
 have z:∀{m k:Nat} {f:DS->M D} {δ:DS},m<10 ^ 30->1<=k->k<=100->f δ=M.ret (.int (m:Int))->eV jK (dCB jr (ag f ar)) (ag (dC (.int (k:Int))) ar) δ=M.ret (.str (S (fg k m))) :=
  λh1 h2 h3 hf=>cZ (br (ac hf ak) (st _ h1)) (ac ao ak) (EW h2 h3)
 refine bq ?_
 unfold gv
 refine aY (lJ (br (ac (af rfl) (ac ao ak)) (n8 (n:=n) (k:=1000) (by decide) (by decide))) rfl) ?_
 refine aY (lJ (br (ac (af rfl) (ac ao ak)) (n8 (n:=n / 1000) (k:=60) (by decide) (by decide))) rfl) ?_
 refine aY (lJ (br (ac (af rfl) (ac ao ak)) (n8 (n:=n / 1000 / 60) (k:=60) (by decide) (by decide))) rfl) ?_
 rw[h1,h2]
 refine aY (bF (d:=.str (S (fg 2 (n / 3600000)++[58]++fg 2 (n / 60000 % 60)++[58]++fg 2 (n / 1000 % 60)))) (ap (ap (ap (ap (z (k:=2) hh (by decide) (by decide) (af rfl)) (ao (d:=.str (S [58]))) (jC (by simp only[ζ,Z5];omega))) (z (k:=2) hm (by decide) (by decide) (af rfl)) (jC (by simp only[ζ,Z5];omega))) (ao (d:=.str (S [58]))) (jC (by simp only[ζ,Z5];omega))) (z (k:=2) hs (by decide) (by decide) (af rfl)) (jC (by simp only[ζ,Z5];omega)))) ?_
 refine bg (Eq.trans (ap (ap (af rfl) (ao (d:=.str (S [46]))) (jC (by simp only[ζ,Z5];omega))) (z (k:=3) hr (by decide) (by decide) (af rfl)) (jC (by simp only[ζ,Z5];omega))) ?_)
 show M.ret (X8 (S _))=M.ret (X8 (S (tT n)))
 unfold tT txt
 simp only[Z4,U0,W4]
theorem nw:Ck (gP "Thousandths" []) tT:=λ_ h=>mJ h
theorem rX(X:D):∀(q cs:List Cz) (x2 x3 x4 x5:Sl),(∀c∈q,czOk c)->cs.length+q.length<=100->∃y2 y3 y4 y5,jv (dG (ee 4 (aX (tgN 2) (aX (tgN 3) (aX (tgN 4) (aX (tgN 5) eM))))) gy) (q.map cz) [.vl X,.ow ((cs.map (bS tT)).map tx),x2,x3,x4,x5]=M.ret (.nx [.vl X,.ow (((cs++q).map (bS tT)).map tx),y2,y3,y4,y5])
 | [],cs,x2,x3,x4,x5,_,_=>⟨x2,x3,x4,x5,by rw[Z7];rfl⟩
 | c::q,cs,x2,x3,x4,x5,h,hl=>by
  rw[θ] at hl
  have hc:=h c υ
  have hz:=lu nw hc
  obtain⟨y2,y3,y4,y5,hI⟩:=rX X q (cs++[c]) (.vl (.int (c.b:Int))) (.vl (.int (c.e:Int))) (.vl (tx c.h)) (.vl (tx (jn 32 c.ws))) (λe he=>h e (χ _ he)) (by rw[ζ,Z5];omega)
  refine⟨y2,y3,y4,y5,?_⟩
  rw[Z4,Z3,Z3] at hI
  rw[Δ]
  refine du (eJ (δ':=[.vl X,.ow ((cs.map (bS tT)).map tx),.vl (.int (c.b:Int)),.vl (.int (c.e:Int)),.vl (tx c.h),.vl (tx (jn 32 c.ws))]) rfl ?_) hI
  unfold gy
  have m1:=je (n:=c.b) (by have:=hc.b1;omega)
  have m2:=je (n:=c.e) hc.e1
  unfold bS at hz
  simp only[ζ,θ] at hz
  have a:∀{u v:List Nat},u.length+v.length<=1000->bm (tx u) (tx v)=some (tx (u++v)):=λh=>jC (by omega)
  refine kX (ds:=(cs.map (bS tT)).map tx) (d:=tx (bS tT c)) rfl (Eq.trans (ap (ap (ap (ap (ap (ap (az (ds:=[.int (c.b:Int)]) (ac (af rfl) ak) m1) (ao (d:=tx [32])) (a (by simp only[ζ,Z5];omega))) (az (ds:=[.int (c.e:Int)]) (ac (af rfl) ak) m2) (a (by simp only[ζ,Z5];omega))) (ao (d:=tx [32])) (a (by simp only[ζ,Z5];omega))) (af rfl) (a (by simp only[ζ,Z5];omega))) (ao (d:=tx [32])) (a (by simp only[ζ,Z5];omega))) (af rfl) (a (by simp only[ζ,Z5];omega))) ?_) (aW (by rw[ι,ι];omega))
  show M.ret (tx _)=M.ret (tx (bS tT c))
  unfold bS
  simp only[Z4,U0,W4]
theorem vP{cs:List Cz}(h:∀c∈cs,czOk c)(hl:cs.length<=63):eD [.list (cs.map cz)]=M.ret (tx (jn 10 (cs.map (bS tT)))):=by
 obtain⟨y2,y3,y4,y5,hI⟩:=rX (.list (cs.map cz)) cs [] .un .un .un .un h (by show 0+_<=_;omega)
 have ht:tot (cs.map (bS tT))<=1000000:=by
  have:=nN (n:=600) (ws:=cs.map (bS tT)) (λw hw=>by obtain⟨c,hc,rfl⟩:=W6.mp hw;exact lu nw (h c hc))
  rw[ι] at this
  omega
 refine bq ?_
 unfold iU
 refine aY (hG (dL ak rfl)) ?_
 refine aY (e7 (gR (x:=.list (cs.map cz)) (af rfl) rfl) hI) ?_
 refine Cn (bg ?_)
 exact cZ (z:=S [10]) ao (ac (x:=.list ((cs.map (bS tT)).map tx)) (af rfl) ak) (xa ht)
theorem mm(c:Int)(n:Nat)(hn:n<=100):∃l:List Int,l.length=n/\(∀x∈l,0<=x/\x<2147483647)/\cE [.int c,.int (n:Int)]=M.ret (.list (l.map η)):=by
 have main:∃l:List Int,(l.length=n/\(∀x∈l,0<=x/\x<2147483647))/\ek (e9 5 [.int c,.int (n:Int)])=M.ret (.rt (.list (l.map η))):=by
  unfold ek
  have hr:zu [.int (n:Int)]=some (fD 0 n):=by
   show(if b62 (n:Int)=true then some (fD 0 (n:Int).toNat) else none)=_
   rw[if_pos (by unfold b62;simp;omega),W3]
  have hlen:(fD 0 n).length=n:=by unfold fD;rw[ι,List.length_range]
  have body:∀(p:List D) (d:D) (q:List D) (δ:DS),fD 0 n=p++d::q->(∃(l:List Int) (m:Int) (x4:Sl),l.length=p.length/\(∀x∈l,0<=x/\x<2147483647)/\(0<=m/\m<2147483647)/\δ=[.vl (.int c),.vl (.int (n:Int)),.ow (l.map η),.vl (.int m),x4]) ->
    ∃δ',dG (tgN 4) (bf (cM (d2 gc (d2 kn (d2 bm (d2 bm (ah 3) (ah 4)) (dC (.int 1))) (dC (.int 48271))) (dC (.int 2147483647))) (tgN 3)) (ko 2 (ah 3))) d δ=M.ret (.nx δ')/\∃(l:List Int) (m:Int) (x4:Sl),l.length=(p++[d]).length/\(∀x∈l,0<=x/\x<2147483647)/\(0<=m/\m<2147483647)/\δ'=[.vl (.int c),.vl (.int (n:Int)),.ow (l.map η),.vl (.int m),x4]:=by
   rintro p d q δ e ⟨l,m,x4,h1,h2,h3,rfl⟩
   have hd:d∈fD 0 n:=by rw[e];exact Y7 _ υ
   obtain⟨k,rfl,k1,k2⟩:=BL hd
   have hp:p.length<n:=by
    have:=congrArg V8 e
    rw[hlen,ζ,θ] at this
    omega
   refine⟨[.vl (.int c),.vl (.int (n:Int)),.ow (l.map η++[.int ((m+k+1)*48271 % 2147483647)]),.vl (.int ((m+k+1)*48271 % 2147483647)),.vl (.int k)],?_,l++[(m+k+1)*48271 % 2147483647],(m+k+1)*48271 % 2147483647,.vl (.int k),by rw[ζ,ζ,h1];rfl,?_,by omega,by rw[Z3];rfl⟩
   ·refine eJ (δ':=[.vl (.int c),.vl (.int (n:Int)),.ow (l.map η),.vl (.int m),.vl (.int k)]) rfl ?_
    refine aY (bF (d:=.int ((m+k+1)*48271 % 2147483647)) (by walk_at "ev")) ?_
    exact kX (d:=.int ((m+k+1)*48271 % 2147483647)) rfl (af rfl) (aW (by rw[ι];omega))
   ·intro x hx
    rcases Φ.mp hx with hx | hx
    ·exact h2 x hx
    ·rw[Ω] at hx
     omega
  obtain⟨δ',h3,l,m,x4,q1,q2,q3,rfl⟩:=vX (λp δ=>∃(l:List Int) (m:Int) (x4:Sl),l.length=p.length/\(∀x∈l,0<=x/\x<2147483647)/\(0<=m/\m<2147483647)/\δ=[.vl (.int c),.vl (.int (n:Int)),.ow (l.map η),.vl (.int m),x4]) (fD 0 n) [] [.vl (.int c),.vl (.int (n:Int)),.ow (([]:List Int).map η),.vl (.int (c % 2147483647)),.un] ⟨[],_,_,rfl,(λx hx=>nomatch hx),by omega,rfl⟩ (λp d q δ e=>body p d q δ e)
  refine⟨l,⟨by rw[q1];exact hlen,q2⟩,?_⟩
  refine aY (hG (ds:=[]) (dL ak rfl)) ?_
  refine aY (bF (d:=.int (c % 2147483647)) (by walk_at "ev")) ?_
  exact aY (e7 (pC (ac (af rfl) ak) hr) h3) rfl
 obtain⟨l,⟨h1,h2⟩,h3⟩:=main
 exact⟨l,h1,h2,bq h3⟩
theorem B7{m:Int}(h0:0<=m)(h1:m<3):∃h:List Nat,Hd h/\oIx (.list [.str "ann",.str "bob",.str "ann"]) (.int m)=some (tx h):=by
 have:m=0\/m=1\/m=2:=by omega
 rcases this with rfl | rfl | rfl
 ·exact⟨[97,110,110],⟨by simp,by decide,by decide⟩,rfl⟩
 ·exact⟨[98,111,98],⟨by simp,by decide,by decide⟩,rfl⟩
 ·exact⟨[97,110,110],⟨by simp,by decide,by decide⟩,rfl⟩
theorem Av{m:Int}(h0:0<=m)(h1:m<3):∃ws:List (List Nat),Wsq ws/\oIx (.list [.str "ab",.str "ab cd",.str "a b c d e f g h"]) (.int m)=some (tx (jn 32 ws)):=by
 have hw:∀{ws:List (List Nat)},ws.all (λw=>!w.isEmpty&&decide (w.length<=30)&&w.all (λc=>decide (97<=c/\c<=104)))=true->∀w∈ws,Wq w:=λh w hw=>by
  have:=U7.mp h w hw
  simp only[Y0,decide_eq_true_eq,Bool.not_eq_true',List.isEmpty_eq_false_iff] at this
  refine⟨this.1.1,λc hc=>?_,this.1.2⟩
  have:=U7.mp this.2 c hc
  rw[decide_eq_true_eq] at this
  unfold wsg
  omega
 have:m=0\/m=1\/m=2:=by omega
 rcases this with rfl | rfl | rfl
 ·exact⟨[[97,98]],⟨hw rfl,by simp,by decide⟩,rfl⟩
 ·exact⟨[[97,98],[99,100]],⟨hw rfl,by simp,by decide⟩,rfl⟩
 ·exact⟨[[97],[98],[99],[100],[101],[102],[103],[104]],⟨hw rfl,by simp,by decide⟩,rfl⟩
theorem CJ{l m:Int}(l0:0<=l)(h0:0<=m)(h1:m<4):∃v:Nat,v<10 ^ 9/\oIx (.list [.int 0,.int (l % 100),.int (l % 9000),.int (l % 1000000000)]) (.int m)=some (.int (v:Int)):=by
 have:m=0\/m=1\/m=2\/m=3:=by omega
 rcases this with rfl | rfl | rfl | rfl
 ·exact⟨0,by decide,rfl⟩
 ·exact⟨(l % 100).toNat,by omega,by rw[U2 (by omega)];rfl⟩
 ·exact⟨(l % 9000).toNat,by omega,by rw[U2 (by omega)];rfl⟩
 ·exact⟨(l % 1000000000).toNat,by omega,by rw[U2 (by omega)];rfl⟩
theorem Ag(X:D)(acc:List Cz)(B:Nat)(hB:B<10 ^ 17)(hz:acc.length<=100)(m:Int)(x3 x4 x5:Sl):∃(c:Cz) (y3 y4 y5:Sl),czOk c/\c.e<10 ^ 18/\B<=c.b/\c.b<B+10 ^ 9/\dG (tgN 3) eW (.int m) [.vl X,.ow (acc.map cz),.vl (.int (B:Int)),x3,x4,x5]=M.ret (.nx [.vl X,.ow (acc.map cz++[cz c]),.vl (.int (c.b:Int)),y3,y4,y5]):=by
 obtain⟨l,hl,hb,hn⟩:=mm m 4 (by decide)
 match l,hl with
 | [a,b,c,d],_ =>
 have ha:=hb a (by simp)
 have hbb:=hb b (by simp)
 have hc:=hb c (by simp)
 have hd:=hb d (by simp)
 obtain⟨v,hv,e1⟩:=CJ (l:=a) (m:=b % 4) ha.1 (by omega) (by omega)
 obtain⟨ws,hw,e2⟩:=Av (m:=d % 3) (by omega) (by omega)
 obtain⟨h,hh,e3⟩:=B7 (m:=b / 4 % 3) (by omega) (by omega)
 refine⟨⟨B+v,B+v+1+(c % 9000).toNat,h,ws⟩,.vl (.int m),.vl (.list ([a,b,c,d].map η)),.vl (tx (jn 32 ws)),⟨by show B+v<_;omega,by show B+v+1+_<_;omega,by show B+v<B+v+1+_;omega,hh,hw⟩,by show B+v+1+(c % 9000).toNat<_;omega,by show B<=B+v;omega,by show B+v<_;omega,?_⟩
 refine eJ (δ':=[.vl X,.ow (acc.map cz),.vl (.int (B:Int)),.vl (.int m),x4,x5]) rfl ?_
 unfold eW
 generalize hL:Z1 ([a,b,c,d].map η)=L at hn ⊢
 have g0:oIx L (.int 0)=some (.int a):=by rw[<-hL];rfl
 have g1:oIx L (.int 1)=some (.int b):=by rw[<-hL];rfl
 have g2:oIx L (.int 2)=some (.int c):=by rw[<-hL];rfl
 have g3:oIx L (.int 3)=some (.int d):=by rw[<-hL];rfl
 refine aY (bF (d:=L) (az (ds:=[.int m,.int 4]) (ac (af rfl) (ac ao ak)) hn)) ?_
 have vL:∀{δ:DS} {k:Int} {x:D},δ[4]?=some (.vl L)->oIx L (.int k)=some x->d2 oIx (ah 4) (dC (.int k)) δ=M.ret x:=λh e=>ap (af h) ao e
 refine aY (bF (d:=.int ((B+v:Nat):Int)) (ap (x:=.int (B:Int)) (y:=.int (v:Int)) (af rfl) (ap (x:=.list [.int 0,.int (a % 100),.int (a % 9000),.int (a % 1000000000)]) (y:=.int (b % 4)) (d7 (ac ao (ac (ap (vL rfl g0) ao (cw (by decide))) (ac (ap (vL rfl g0) ao (cw (by decide))) (ac (ap (vL rfl g0) (ap ao ao w6) (cw (by decide))) ak)))) rfl) (ap (vL rfl g1) ao (cw (by decide))) e1) (by rw[cr,Int.natCast_add]))) ?_
 refine aY (bF (d:=tx (jn 32 ws)) (ap (y:=.int (d % 3)) (d7 (ac ao (ac ao (ac ao ak))) rfl) (ap (vL rfl g3) ao (cw (by decide))) e2)) ?_
 refine kX (ds:=acc.map cz) rfl (Eq.trans (b8 (ac (af rfl) (ac (ap (ap (af rfl) ao cr) (ap (vL rfl g2) ao (cw (by decide))) cr) (ac (ap (y:=.int (b / 4 % 3)) (d7 (ac ao (ac ao (ac ao ak))) rfl) (ap (ap (vL rfl g1) ao (oG (by decide))) ao (cw (by decide))) e3) (ac (af rfl) ak)))) rfl) ?_) (aW (by rw[ι];omega))
 show M.ret (W1 _)=M.ret (W1 _)
 have e4:((B+v+1+(c % 9000).toNat:Nat):Int)=((B+v:Nat):Int)+1+c % 9000:=by omega
 show M.ret (W1 [_,_,_,_])=M.ret (W1 [_,.int ((B+v+1+(c % 9000).toNat:Nat):Int),_,_])
 rw[e4]
theorem sO(X:D):∀(q:List Int) (acc:List Cz) (B:Nat) (x3 x4 x5:Sl),(∀c∈acc,(czOk c/\c.e<10 ^ 18)/\c.b<=B)->acc.Pairwise (λx y=>x.b<=y.b)->B+q.length*10 ^ 9<10 ^ 17->acc.length+q.length<=100->∃(cs:List Cz) (B':Nat) (y3 y4 y5:Sl),cs.length=acc.length+q.length/\(∀c∈cs,czOk c/\c.e<10 ^ 18)/\cs.Pairwise (λx y=>x.b<=y.b)/\jv (dG (tgN 3) eW) (q.map η) [.vl X,.ow (acc.map cz),.vl (.int (B:Int)),x3,x4,x5]=M.ret (.nx [.vl X,.ow (cs.map cz),.vl (.int (B':Int)),y3,y4,y5])
 | [],acc,B,x3,x4,x5,h,hp,_,_=>⟨acc,B,x3,x4,x5,rfl,λc hc=>(h c hc).1,hp,rfl⟩
 | m::q,acc,B,x3,x4,x5,h,hp,hB,hl=>by
  rw[θ] at hl hB
  obtain⟨c,y3,y4,y5,hc,hce,h1,h2,hs⟩:=Ag X acc B (by omega) (by omega) m x3 x4 x5
  obtain⟨cs,B',z3,z4,z5,k1,k2,k3,k4⟩:=sO X q (acc++[c]) c.b y3 y4 y5 (λe he=>by
   rcases Φ.mp he with he | he
   ·exact⟨(h e he).1,X5 (h e he).2 h1⟩
   ·rw[Ω.mp he];exact⟨⟨hc,hce⟩,ρ _⟩) (List.pairwise_append.mpr ⟨hp,List.pairwise_singleton _ _,λa ha b hb=>by rw[Ω.mp hb];exact X5 (h a ha).2 h1⟩) (by omega) (by rw[ζ,Z5];omega)
  refine⟨cs,B',z3,z4,z5,by rw[k1,ζ,Z5,θ];omega,k2,k3,?_⟩
  rw[Z3] at k4
  exact du hs k4
theorem vR(ms:List Int)(hl:ms.length<=4):∃cs:List Cz,cs.length=ms.length/\(∀c∈cs,czOk c/\c.e<10 ^ 18)/\cs.Pairwise (λx y=>x.b<=y.b)/\gL [.list (ms.map η)]=M.ret (.list (cs.map cz)):=by
 obtain⟨cs,B',y3,y4,y5,k1,k2,k3,k4⟩:=sO (.list (ms.map η)) ms [] 0 .un .un .un (λc h=>nomatch h) .nil (by omega) (by show 0+_<=_;omega)
 refine⟨cs,by rw[k1];show 0+_=_;omega,k2,k3,?_⟩
 refine bq ?_
 unfold iW
 refine aY (hG (ds:=[]) (dL ak rfl)) ?_
 refine aY (bF (d:=.int 0) ao) ?_
 exact aY (e7 (gR (x:=.list (ms.map η)) (af rfl) rfl) k4) rfl
noncomputable def pN(c:Cz):Cu:=⟨(c.b:Int),(c.e:Int),S c.h,S (jn 32 c.ws),((jn 32 c.ws).length:Int)⟩
theorem xY{c:Cz}(h:czOk c):uC (pN c)/\hOk (pN c):=by
 have hw:=Au h.wq
 refine⟨⟨?_,by show(0:Int)<=((jn 32 c.ws).length:Int);omega,by show((jn 32 c.ws).length:Int)<=_;omega⟩,?_⟩
 ·exact w9 (l:=jn 32 c.ws) (by omega)
 ·have h1:=h.hd.sg
  have h2:=h.hd.len
  show V0 (S c.h)=true
  exact tR (λx hx=>by have:=h1 x hx;omega)
theorem CF(cs:List Cz):(cs.map pN).map cuD=cs.map cz:=by rw[X0];rfl
theorem lI{fb:DS->M Bool}{g1 gt:DS->M Out}{δ:DS}{d:D}(h1:fb δ=M.ret true)(h2:g1 δ=M.ret (.rt d)):bf (gIf fb g1 bV) gt δ=M.ret (.rt d):=by
 have h:gIf fb g1 bV δ=M.ret (.rt d):=j0 h1 (by rw[if_pos rfl];exact h2)
 unfold bf
 rw[h]
 rfl
noncomputable def ka(shy b e t:Int):List Nat:=if b+shy<=t/\t+shy<=e then [] else if b+e<=2*t then (if t<e then [97,104,101,97,100] else []) else if b<t then [98,101,104,105,110,100] else []
theorem vQ(s:Set7)(c:Cu)(k:D)(t:Int):gK [stD s,cuD c,k,.int t]=M.ret (tx (ka s.shy c.b c.e t)):=by
 refine bq ?_
 unfold iV
 refine aY (lJ (d:=cuD c) (af rfl) rfl) ?_
 have hg:∀{δ:DS},δ[0]?=some (.vl (stD s))->d2 bT (ah 0) (dC (.str "shy")) δ=M.ret (.int s.shy):=λh=>ap (af h) ao (na s)
 have t1:∀{δ:DS},δ[0]?=some (.vl (stD s))->δ[4]?=some (.vl (.int c.b))->δ[3]?=some (.vl (.int t))->dB (d2 d0 (d2 bm (ah 4) (d2 bT (ah 0) (dC (.str "shy")))) (ah 3)) δ=M.ret (decide (c.b+s.shy<=t)):=λh0 h4 h3=>bv (ap (ap (af h4) (hg h0) cr) (af h3) rfl)
 have t2:∀{δ:DS},δ[0]?=some (.vl (stD s))->δ[5]?=some (.vl (.int c.e))->δ[3]?=some (.vl (.int t))->dB (d2 d0 (d2 bm (ah 3) (d2 bT (ah 0) (dC (.str "shy")))) (ah 5)) δ=M.ret (decide (t+s.shy<=c.e)):=λh0 h5 h3=>bv (ap (ap (af h3) (hg h0) cr) (af h5) rfl)
 unfold ka
 by_cases hA:c.b+s.shy<=t/\t+s.shy<=c.e
 ·rw[if_pos hA]
  exact lI (iw ((t1 rfl rfl rfl).trans (by rw[decide_eq_true hA.1])) ((t2 rfl rfl rfl).trans (by rw[decide_eq_true hA.2]))) (bg ao)
 rw[if_neg hA]
 refine bN (b:=false) ?_ rfl ?_
 ·by_cases h1:c.b+s.shy<=t
  ·exact iw ((t1 rfl rfl rfl).trans (by rw[decide_eq_true h1])) ((t2 rfl rfl rfl).trans (by rw[decide_eq_false (λh=>hA ⟨h1,h⟩)]))
  ·exact kY ((t1 rfl rfl rfl).trans (by rw[decide_eq_false h1]))
 have t3:∀{δ:DS},δ[4]?=some (.vl (.int c.b))->δ[5]?=some (.vl (.int c.e))->δ[3]?=some (.vl (.int t))->dB (d2 d0 (d2 bm (ah 4) (ah 5)) (d2 kn (dC (.int 2)) (ah 3))) δ=M.ret (decide (c.b+c.e<=2*t)):=λh4 h5 h3=>bv (ap (ap (af h4) (af h5) cr) (ap ao (af h3) (oE (rG (by decide) (by decide)))) rfl)
 by_cases hB:c.b+c.e<=2*t
 ·rw[if_pos hB]
  refine lI ((t3 rfl rfl rfl).trans (by rw[decide_eq_true hB])) ?_
  by_cases hC:t<c.e
  ·rw[if_pos hC]
   exact lI (bv (ap (af rfl) (af rfl) (by rw[vG,decide_eq_true hC]))) (bg ao)
  ·rw[if_neg hC]
   refine bN (b:=false) (bv (ap (af rfl) (af rfl) (by rw[vG,decide_eq_false hC]))) rfl (bg ao)
 ·rw[if_neg hB]
  refine bN (b:=false) ((t3 rfl rfl rfl).trans (by rw[decide_eq_false hB])) rfl ?_
  by_cases hC:c.b<t
  ·rw[if_pos hC]
   exact lI (bv (ap (af rfl) (af rfl) (by rw[qy,decide_eq_true hC]))) (bg ao)
  ·rw[if_neg hC]
   exact bN (b:=false) (bv (ap (af rfl) (af rfl) (by rw[qy,decide_eq_false hC]))) rfl (bg ao)
noncomputable def apT(k j:Nat):List Nat:=[97,112,97,114,116,32]++nT k++[32]++nT j
noncomputable def apW(s:Set7)(c:Cu)(k:Nat):Nat->List Cu->List (List Nat)
 | _,[]=>[]
 | w,d::q=>if d.h=c.h then (if d.b<c.e+s.apart then [apT k (k+w)] else []) else apW s c k (w+1) q
theorem nQ{n:Nat}(h:n<1000):jr [.int (n:Int)]=some (tx (nT n)):=by
 rw[tU (by omega),xi]
theorem uc(s:Set7){cs:List Cu}(hok:∀c∈cs,uC c/\hOk c)(hl:cs.length<=100){k:Nat}{c:Cu}{rest:List Cu}(hk:cs[k]?=some c)(hrest:cs.drop (k+1)=rest):fX [stD s,.list (cs.map cuD),.int (k:Int)]=M.ret (.list ((apW s c k 1 rest).map tx)):=by
 have hkl:k<cs.length:=(ω.mp hk).1
 have hlen:rest.length=cs.length-(k+1):=by rw[<-hrest,List.length_drop]
 generalize hCS:Z1 (cs.map cuD)=CS
 have hn:dI [CS]=some (.int ((cs.length:Nat):Int)):=by
  rw[<-hCS,mj,ι]
 have main:∀(q:List Cu) (w:Nat) (x3:Sl),cs.drop (k+w)=q->(jv (dG (tgN 3) cm) (fD ((k+w:Nat):Int) q.length) [.vl (stD s),.vl CS,.vl (.int (k:Int)),x3]=M.ret (.rt (.list ((apW s c k w q).map tx))))\/(apW s c k w q=[]/\∃δ,jv (dG (tgN 3) cm) (fD ((k+w:Nat):Int) q.length) [.vl (stD s),.vl CS,.vl (.int (k:Int)),x3]=M.ret (.nx δ)):=by
  intro q
  induction q with
  | nil=>intro w x3 _;exact .inr ⟨rfl,_,rfl⟩
  | cons c' q ih =>
   intro w x3 hq
   have hc':cs[k+w]?=some c':=by
    have:=congrArg U6 hq
    rw[V6] at this
    exact this
   have hm':c'∈cs:=Y3 hc'
   have hwl:k+w<cs.length:=(ω.mp hc').1
   have hq':cs.drop (k+(w+1))=q:=by
    rw[<-Nat.add_assoc,<-W2,hq]
    rfl
   rw[θ,se,apW]
   have i1:oIx CS (.int ((k+w:Nat):Int))=some (cuD c'):=by rw[<-hCS];exact yA hc'
   have i2:oIx CS (.int (k:Int))=some (cuD c):=by rw[<-hCS];exact yA hk
   have cd:dB (d2 oEq (d2 oIx (d2 oIx (ah 1) (ah 3)) (dC (.int 2))) (d2 oIx (d2 oIx (ah 1) (ah 2)) (dC (.int 2)))) [.vl (stD s),.vl CS,.vl (.int (k:Int)),.vl (.int ((k+w:Nat):Int))]=M.ret (decide (c'.h=c.h)):=bv (ap (x:=.str c'.h) (y:=.str c.h) (ap (ap (af rfl) (af rfl) i1) ao rfl) (ap (ap (af rfl) (af rfl) i2) ao rfl) (o_eqH (hok _ hm').2 (hok _ (Y3 hk)).2))
   by_cases hh:c'.h=c.h
   ·rw[if_pos hh]
    rw[decide_eq_true hh] at cd
    refine .inl ?_
    have cb:dB (d2 oLt (d2 oIx (d2 oIx (ah 1) (ah 3)) (dC (.int 0))) (d2 bm (d2 oIx (d2 oIx (ah 1) (ah 2)) (dC (.int 1))) (d2 bT (ah 0) (dC (.str "apart"))))) [.vl (stD s),.vl CS,.vl (.int (k:Int)),.vl (.int ((k+w:Nat):Int))]=M.ret (decide (c'.b<c.e+s.apart)):=bv (ap (x:=.int c'.b) (y:=.int (c.e+s.apart)) (ap (ap (af rfl) (af rfl) i1) ao rfl) (ap (ap (ap (af rfl) (af rfl) i2) ao rfl) (ap (af rfl) ao (uh s)) cr) qy)
    have bd:dG (tgN 3) cm (.int ((k+w:Nat):Int)) [.vl (stD s),.vl CS,.vl (.int (k:Int)),x3]=M.ret (.rt (.list ((if c'.b<c.e+s.apart then [apT k (k+w)] else []).map tx))):=by
     refine eJ (δ':=[.vl (stD s),.vl CS,.vl (.int (k:Int)),.vl (.int ((k+w:Nat):Int))]) rfl ?_
     unfold cm
     refine j0 cd (kg rfl ?_)
     by_cases hb:c'.b<c.e+s.apart
     ·rw[if_pos hb]
      rw[decide_eq_true hb] at cb
      have h1:=jb (n:=k) (by omega)
      have h2:=jb (n:=k+w) (by omega)
      have a:∀{u v:List Nat},u.length+v.length<=1000->bm (tx u) (tx v)=some (tx (u++v)):=λh=>jC (by omega)
      refine lI cb (bg (d7 (ac (ap (ap (ap (ao (d:=tx [97,112,97,114,116,32])) (br (ac (af rfl) ak) (nQ (by omega))) (a (by show 6+_<=_;omega))) (ao (d:=tx [32])) (a (by simp only[ζ,θ,X1];omega))) (br (ac (af rfl) ak) (nQ (n:=k+w) (by omega))) (a (by simp only[ζ,θ,X1];omega))) ak) rfl))
     ·rw[if_neg hb]
      rw[decide_eq_false hb] at cb
      exact bN cb rfl (bg (d7 ak rfl))
    show(dG _ _ _ _).thn _=_
    rw[bd]
    rfl
   ·rw[if_neg hh]
    rw[decide_eq_false hh] at cd
    have hstep:dG (tgN 3) cm (.int ((k+w:Nat):Int)) [.vl (stD s),.vl CS,.vl (.int (k:Int)),x3]=M.ret (.nx [.vl (stD s),.vl CS,.vl (.int (k:Int)),.vl (.int ((k+w:Nat):Int))]):=eJ (δ':=[.vl (stD s),.vl CS,.vl (.int (k:Int)),.vl (.int ((k+w:Nat):Int))]) rfl (gE cd rfl)
    rcases ih (w+1) (.vl (.int ((k+w:Nat):Int))) hq' with h | ⟨h,δ,h2⟩
    ·exact .inl (du hstep h)
    ·exact .inr ⟨h,δ,du hstep h2⟩
 have hr:wQ [.int ((k:Int)+1),.int ((cs.length:Nat):Int)]=some (fD ((k+1:Nat):Int) rest.length):=by
  show(if (b62 ((k:Int)+1)&&b62 ((cs.length:Nat):Int))=true then some (fD ((k:Int)+1) (((cs.length:Nat):Int)-((k:Int)+1)).toNat) else none)=_
  rw[if_pos (by unfold b62;simp;omega)]
  congr 2
  omega
 refine bq ?_
 unfold hE
 have hrg:uz wQ (ag (d2 bm (ah 2) (dC (.int 1))) (ag (dCB dI (ag (ah 1) ar)) ar)) (e9 4 [stD s,CS,.int (k:Int)])=M.ret (fD ((k+1:Nat):Int) rest.length):=pC (ac (ap (af rfl) ao cr) (ac (br (ac (af rfl) ak) hn) ak)) hr
 rcases main rest 1 .un hrest with h | ⟨h,δ,h2⟩
 ·have:=e7 (t:=tgN 3) (gs:=cm) hrg h
  unfold bf
  rw[this]
  rfl
 ·rw[h]
  exact aY (e7 hrg h2) (bg (d7 ak rfl))
noncomputable def iF(shy b e:Int)(k:Nat):Nat->List Int->List (List Nat)
 | _,[]=>[]
 | j,t::ts=>(if ka shy b e t=[] then [] else [ka shy b e t++[32]++nT k++[32]++nT j])++iF shy b e k (j+1) ts
theorem rZ(shy b e t:Int):(ka shy b e t).length<=6:=by
 unfold ka
 split
 ·decide
 ·split
  ·split<;>decide
  ·split<;>decide
theorem AH(shy b e t:Int):V0 (S (ka shy b e t))=true:=by
 refine tR ?_
 unfold ka
 split
 ·decide
 ·split
  ·split<;>decide
  ·split<;>decide
theorem sK(s:Set7)(c:Cu)(CS TD:D){k:Nat}(hk:k<1000):∀(ts:List Int) (j:Nat) (acc:List (List Nat)) (x10 x11 x12:Sl),j+ts.length<=1000->acc.length+ts.length<=100000->∃y10 y11 y12:Sl,jv (dG (ee 2 (aX (tgN 10) (aX (tgN 11) eM))) hZ) (fv j (ts.map η)) [.vl (stD s),.vl CS,.vl TD,.ow (acc.map tx),.vl (.int (k:Int)),.vl (cuD c),.vl (.int c.b),.vl (.int c.e),.vl (.str c.h),.vl (.str c.w),x10,x11,x12]=M.ret (.nx [.vl (stD s),.vl CS,.vl TD,.ow ((acc++iF s.shy c.b c.e k j ts).map tx),.vl (.int (k:Int)),.vl (cuD c),.vl (.int c.b),.vl (.int c.e),.vl (.str c.h),.vl (.str c.w),y10,y11,y12])
 | [],j,acc,x10,x11,x12,_,_=>⟨x10,x11,x12,by rw[iF,Z7];rfl⟩
 | t::ts,j,acc,x10,x11,x12,hj,ha=>by
  rw[θ] at hj ha
  have hs:=vQ s c (.int (j:Int)) t
  have hlen:=rZ s.shy c.b c.e t
  have hsok:=AH s.shy c.b c.e t
  rw[iF]
  generalize ka s.shy c.b c.e t=w at hs hlen hsok ⊢
  have hne:oNe (tx w) (.str "")=some (.bool (decide (w≠[]))):=by
   show oNe (.str (S w)) (.str (S []))=_
   rw[o_neS hsok (tR (l:=[]) λc h=>by cases h)]
   congr 2
   by_cases h:w=[]
   ·subst h;rfl
   ·rw[decide_eq_true h]
    have:(S w==S [])=false:=by
     rw[beq_eq_false_iff_ne]
     intro e
     exact h (CP e)
    rw[this];rfl
  have n1:=jb (n:=k) (by omega)
  have n2:=jb (n:=j) (by omega)
  have a:∀{u v:List Nat},u.length+v.length<=1000->bm (tx u) (tx v)=some (tx (u++v)):=λh=>jC (by omega)
  obtain⟨y10,y11,y12,hI⟩:=sK s c CS TD hk ts (j+1) (acc++(if w=[] then [] else [w++[32]++nT k++[32]++nT j])) (.vl (.int (j:Int))) (.vl (.int t)) (.vl (tx w)) (by omega) (by rw[ζ];split<;>simp<;>omega)
  refine⟨y10,y11,y12,?_⟩
  rw[Z4 acc] at hI
  rw[Δ]
  refine du (eJ (δ':=[.vl (stD s),.vl CS,.vl TD,.ow (acc.map tx),.vl (.int (k:Int)),.vl (cuD c),.vl (.int c.b),.vl (.int c.e),.vl (.str c.h),.vl (.str c.w),.vl (.int (j:Int)),.vl (.int t),x12]) rfl ?_) hI
  unfold hZ
  refine aY (bF (d:=tx w) (az (ds:=[stD s,cuD c,.int (j:Int),.int t]) (ac (af rfl) (ac (af rfl) (ac (af rfl) (ac (af rfl) ak)))) hs)) ?_
  have ct:∀{δ:DS},δ[12]?=some (.vl (tx w))->dB (d2 oNe (ah 12) (dC (.str ""))) δ=M.ret (decide (w≠[])):=λh=>bv (ap (af h) ao hne)
  by_cases hw:w=[]
  ·rw[if_pos hw,Z7]
   exact gE (ct rfl) (decide_eq_false (λh=>h hw))
  ·rw[if_neg hw,Z3]
   refine j0 (ct rfl) (kg (decide_eq_true hw) ?_)
   exact kX (ds:=acc.map tx) (d:=tx (w++[32]++nT k++[32]++nT j)) rfl (ap (ap (ap (ap (af rfl) (ao (d:=tx [32])) (a (by simp only[ζ,θ,X1];omega))) (br (ac (af rfl) ak) (nQ hk)) (a (by simp only[ζ,θ,X1];omega))) (ao (d:=tx [32])) (a (by simp only[ζ,θ,X1];omega))) (br (ac (af rfl) ak) (nQ (n:=j) (by omega))) (a (by simp only[ζ,θ,X1];omega))) (aW (by rw[ι];omega))
noncomputable def eP(s:Set7)(c:Cu)(k:Nat):List (List Nat):=if c.e-c.b<vK s c then [[108,111,110,103,32]++nT k] else []
noncomputable def fu(s:Set7)(c:Cu)(k:Nat):List (List Nat):=if s.most<c.e-c.b then [[109,111,115,116,32]++nT k] else []
noncomputable def mx(s:Set7)(ts:List Int):Nat->List Cu->List (List Nat)
 | _,[]=>[]
 | k,c::rest=>eP s c k++fu s c k++apW s c k 1 rest++iF s.shy c.b c.e k 0 ts++mx s ts (k+1) rest
theorem pI(s:Set7)(c:Cu)(k:Nat):∀(q:List Cu) (w:Nat),(apW s c k w q).length<=1
 | [],w=>X9 _
 | d::q,w=>by
  rw[apW]
  split
  ·split<;>simp
  ·exact pI s c k q (w+1)
theorem ou(shy b e:Int)(k:Nat):∀(ts:List Int) (j:Nat),(iF shy b e k j ts).length<=ts.length
 | [],_=>ρ _
 | t::ts,j=>by
  have:=ou shy b e k ts (j+1)
  rw[iF,ζ,θ]
  split
  ·simp only[X1];omega
  ·simp only[θ,X1];omega
theorem Ez(l:List (List Nat)):bj (l.map tx)=true:=by
 induction l with
 | nil=>rfl
 | cons a l ih=>rw[Δ,bj,ih];rfl
theorem Cv(s:Set7){cs:List Cu}(hok:∀c∈cs,uC c/\hOk c)(hl:cs.length<=8)(TD:D){ts:List Int}(hts:ts.length<=100)(hso:jQ [TD]=some (.list (ts.map η))){k:Nat}{c:Cu}{rest:List Cu}(hk:cs[k]?=some c)(hrest:cs.drop (k+1)=rest)(acc:List (List Nat))(ha:acc.length<=2000)(x4 x5 x6 x7 x8 x9 x10 x11 x12:Sl):∃y10 y11 y12:Sl,dG (ee 2 (aX (tgN 4) (aX (tgN 5) eM))) fV (.tuple [.int (k:Int),cuD c]) [.vl (stD s),.vl (.list (cs.map cuD)),.vl TD,.ow (acc.map tx),x4,x5,x6,x7,x8,x9,x10,x11,x12]=M.ret (.nx [.vl (stD s),.vl (.list (cs.map cuD)),.vl TD,.ow ((acc++eP s c k++fu s c k++apW s c k 1 rest++iF s.shy c.b c.e k 0 ts).map tx),.vl (.int (k:Int)),.vl (cuD c),.vl (.int c.b),.vl (.int c.e),.vl (.str c.h),.vl (.str c.w),y10,y11,y12]):=by
 have hkl:k<cs.length:=(ω.mp hk).1
 obtain⟨⟨hL,hL0,hL1⟩,_⟩:=hok c (Y3 hk)
 have hap:=uc s hok (by omega) hk hrest
 have hal:=pI s c k rest 1
 have n1:=jb (n:=k) (by omega)
 have a:∀{u v:List Nat},u.length+v.length<=1000->bm (tx u) (tx v)=some (tx (u++v)):=λh=>jC (by omega)
 have l1:(eP s c k).length<=1:=by unfold eP;split<;>simp
 have l2:(fu s c k).length<=1:=by unfold fu;split<;>simp
 generalize hCS:Z1 (cs.map cuD)=CS at hap ⊢
 obtain⟨y10,y11,y12,hI⟩:=sK s c CS TD (k:=k) (by omega) ts 0 (acc++eP s c k++fu s c k++apW s c k 1 rest) x10 x11 x12 (by omega) (by simp only[ζ];omega)
 refine⟨y10,y11,y12,?_⟩
 refine eJ (δ':=[.vl (stD s),.vl CS,.vl TD,.ow (acc.map tx),.vl (.int (k:Int)),.vl (cuD c),x6,x7,x8,x9,x10,x11,x12]) rfl ?_
 unfold fV
 refine aY (lJ (d:=cuD c) (δ':=[.vl (stD s),.vl CS,.vl TD,.ow (acc.map tx),.vl (.int (k:Int)),.vl (cuD c),.vl (.int c.b),.vl (.int c.e),.vl (.str c.h),.vl (.str c.w),x10,x11,x12]) (af rfl) rfl) ?_
 have ap1:∀{f:DS->M D} {w:List Nat} {acc:List (List Nat)} {B:DS},B[3]?=some (.ow (acc.map tx))->acc.length<=3000->f B=M.ret (tx w)->ko 3 f B=M.ret (.nx (B.set 3 (.ow ((acc++[w]).map tx)))):=λh hz hf=>by
  rw[Z3]
  exact kX h hf (aW (by rw[ι];omega))
 refine aY (r:=_) (δ':=[.vl (stD s),.vl CS,.vl TD,.ow ((acc++eP s c k).map tx),.vl (.int (k:Int)),.vl (cuD c),.vl (.int c.b),.vl (.int c.e),.vl (.str c.h),.vl (.str c.w),x10,x11,x12]) ?_ ?_
 ·have ct:dB (d2 oLt (d2 ml (ah 7) (ah 6)) (dCB tV (ag (d2 bT (ah 0) (dC (.str "least"))) (ag (d2 kn (d2 bT (ah 0) (dC (.str "sign"))) (dCB dI (ag (ah 9) ar))) ar)))) [.vl (stD s),.vl CS,.vl TD,.ow (acc.map tx),.vl (.int (k:Int)),.vl (cuD c),.vl (.int c.b),.vl (.int c.e),.vl (.str c.h),.vl (.str c.w),x10,x11,x12]=M.ret (decide (c.e-c.b<vK s c)):=bv (ap (x:=.int (c.e-c.b)) (y:=.int (vK s c)) (ap (af rfl) (af rfl) ke) (br (ac (ap (af rfl) ao (ug s)) (ac (ap (ap (af rfl) ao (xx s)) (br (ac (af rfl) ak) hL) (oE (xN (by omega) (by omega)))) ak)) oF) qy)
  unfold eP
  by_cases h:c.e-c.b<vK s c
  ·rw[if_pos h]
   exact j0 ct (kg (decide_eq_true h) (ap1 rfl (by omega) (ap (ao (d:=tx [108,111,110,103,32])) (br (ac (af rfl) ak) (nQ (by omega))) (a (by show 5+_<=_;omega)))))
  ·rw[if_neg h,Z7]
   exact gE ct (decide_eq_false h)
 refine aY (r:=_) (δ':=[.vl (stD s),.vl CS,.vl TD,.ow ((acc++eP s c k++fu s c k).map tx),.vl (.int (k:Int)),.vl (cuD c),.vl (.int c.b),.vl (.int c.e),.vl (.str c.h),.vl (.str c.w),x10,x11,x12]) ?_ ?_
 ·have ct:dB (d2 oGt (d2 ml (ah 7) (ah 6)) (d2 bT (ah 0) (dC (.str "most")))) [.vl (stD s),.vl CS,.vl TD,.ow ((acc++eP s c k).map tx),.vl (.int (k:Int)),.vl (cuD c),.vl (.int c.b),.vl (.int c.e),.vl (.str c.h),.vl (.str c.w),x10,x11,x12]=M.ret (decide (s.most<c.e-c.b)):=bv (ap (x:=.int (c.e-c.b)) (y:=.int s.most) (ap (af rfl) (af rfl) ke) (ap (af rfl) ao (xy s)) vG)
  unfold fu
  by_cases h:s.most<c.e-c.b
  ·rw[if_pos h]
   exact j0 ct (kg (decide_eq_true h) (ap1 rfl (by rw[ζ];omega) (ap (ao (d:=tx [109,111,115,116,32])) (br (ac (af rfl) ak) (nQ (by omega))) (a (by show 5+_<=_;omega)))))
  ·rw[if_neg h,Z7]
   exact gE ct (decide_eq_false h)
 refine aY (hG (ds:=(acc++eP s c k++fu s c k++apW s c k 1 rest).map tx) (ED (Eq.trans (yR (xs:=(acc++eP s c k++fu s c k).map tx) (ys:=(apW s c k 1 rest).map tx) (af rfl) (az (ds:=[stD s,CS,.int (k:Int)]) (ac (af rfl) (ac (af rfl) (ac (af rfl) ak))) hap) (aW (by simp only[ι,ζ];omega))) (by rw[Z3 (l₂:=apW s c k 1 rest)])) (Ez _))) ?_
 exact e7 (kW (ac (br (ac (af rfl) ak) hso) ak)) hI
def wOk(n:Nat)(w:List Nat):Prop:=w.length<=n/\∀c∈w,c<128
theorem wOk.app{a b:Nat}{u v:List Nat}(h1:wOk a u)(h2:wOk b v):wOk (a+b) (u++v):=⟨by rw[ζ];have:=h1.1;have:=h2.1;omega,λc hc=>by
 rcases Φ.mp hc with h | h
 ·exact h1.2 c h
 ·exact h2.2 c h⟩
theorem wOk.le{a b:Nat}{u:List Nat}(h:wOk a u)(hab:a<=b):wOk b u:=⟨X5 h.1 hab,h.2⟩
theorem nK{n:Nat}(h:n<1000):wOk 18 (nT n):=⟨jb (by omega),λc hc=>by have:=tW n c hc;omega⟩
theorem zn(shy b e t:Int):wOk 6 (ka shy b e t):=by
 refine⟨rZ _ _ _ _,?_⟩
 unfold ka
 split
 ·decide
 ·split
  ·split<;>decide
  ·split<;>decide
theorem BO(s:Set7)(c:Cu){k:Nat}(hk:k<1000):∀w∈eP s c k,wOk 60 w:=λw hw=>by
 unfold eP at hw
 split at hw
 ·rw[Ω.mp hw]
  exact((show wOk 5 [108,111,110,103,32] from⟨by decide,by decide⟩).app (nK hk)).le (by decide)
 ·cases hw
theorem BK(s:Set7)(c:Cu){k:Nat}(hk:k<1000):∀w∈fu s c k,wOk 60 w:=λw hw=>by
 unfold fu at hw
 split at hw
 ·rw[Ω.mp hw]
  exact((show wOk 5 [109,111,115,116,32] from⟨by decide,by decide⟩).app (nK hk)).le (by decide)
 ·cases hw
theorem CM(s:Set7)(c:Cu){k:Nat}:∀(q:List Cu) (w:Nat),k+w+q.length<=1000->∀x∈apW s c k w q,wOk 60 x
 | [],w,_,x,hx=>by cases hx
 | d::q,w,hl,x,hx=>by
  rw[θ] at hl
  rw[apW] at hx
  split at hx
  ·split at hx
   ·rw[Ω.mp hx]
    unfold apT
    exact((((show wOk 6 [97,112,97,114,116,32] from⟨by decide,by decide⟩).app (nK (by omega))).app (show wOk 1 [32] from⟨by decide,by decide⟩)).app (nK (by omega))).le (by decide)
   ·cases hx
  ·exact CM s c q (w+1) (by omega) x hx
theorem wl(shy b e:Int){k:Nat}(hk:k<1000):∀(ts:List Int) (j:Nat),j+ts.length<=1000->∀x∈iF shy b e k j ts,wOk 60 x
 | [],j,_,x,hx=>by cases hx
 | t::ts,j,hl,x,hx=>by
  rw[θ] at hl
  rw[iF] at hx
  rcases Φ.mp hx with hx | hx
  ·split at hx
   ·cases hx
   ·rw[Ω.mp hx]
    exact(((((zn shy b e t).app (show wOk 1 [32] from⟨by decide,by decide⟩)).app (nK hk)).app (show wOk 1 [32] from⟨by decide,by decide⟩)).app (nK (by omega))).le (by decide)
  ·exact wl shy b e hk ts (j+1) (by omega) x hx
theorem up(s:Set7){ts:List Int}(ht:ts.length<=100):∀(q:List Cu) (k:Nat),k+q.length<=100->(∀x∈mx s ts k q,wOk 60 x)/\(mx s ts k q).length<=103*q.length
 | [],k,_=>⟨λx h=>(by cases h),ρ _⟩
 | c::q,k,hl=>by
  rw[θ] at hl
  obtain⟨i1,i2⟩:=up s ht q (k+1) (by omega)
  have l1:(eP s c k).length<=1:=by unfold eP;split<;>simp
  have l2:(fu s c k).length<=1:=by unfold fu;split<;>simp
  have l3:=pI s c k q 1
  have l4:=ou s.shy c.b c.e k ts 0
  rw[mx]
  refine⟨λx hx=>?_,by simp only[ζ,θ];omega⟩
  rcases Φ.mp hx with hx | hx
  ·rcases Φ.mp hx with hx | hx
   ·rcases Φ.mp hx with hx | hx
    ·rcases Φ.mp hx with hx | hx
     ·exact BO s c (by omega) x hx
     ·exact BK s c (by omega) x hx
    ·exact CM s c q 1 (by omega) x hx
   ·exact wl _ _ _ (by omega) ts 0 (by omega) x hx
  ·exact i1 x hx
theorem EG{W:List (List Nat)}(h:∀w∈W,wOk 60 w):oEq (.list (W.map tx)) (.list [])=some (.bool (decide (W=[]))):=by
 have hc:PyData.canLayAll0 (W.map tx)=true:=by
  induction W with
  | nil=>rfl
  | cons w W ih =>
   rw[Δ,PyData.canLayAll0,ih λv hv=>h v (χ _ hv),Bool.and_true]
   have:=tR (l:=w) λc hc=>by have:=(h w υ).2 c hc;omega
   unfold W7
   exact this
 have h1:(Z1 (W.map tx)).canLay0=true:=by unfold W7;exact hc
 have h2:(Z1 ([]:List D)).depth<=60:=by decide +kernel
 unfold oEq flat
 rw[h1,show(Z1 ([]:List D)).canLay0=true from rfl,decide_eq_true (by omega:min (Z1 (W.map tx)).depth (Z1 []).depth<=60)]
 show some (Y6 (PyData.eqv (.list (W.map tx)) (.list [])))=_
 rw[PyData.eqv]
 cases W<;>simp [PyData.eqvAll]
theorem wb(s:Set7){cs:List Cu}(hok:∀c∈cs,uC c/\hOk c)(hl:cs.length<=8)(TD:D){ts:List Int}(hts:ts.length<=100)(hso:jQ [TD]=some (.list (ts.map η))):∀(q:List Cu) (k:Nat) (acc:List (List Nat)) (x4 x5 x6 x7 x8 x9 x10 x11 x12:Sl),cs.drop k=q->acc.length+103*q.length<=2000->∃y4 y5 y6 y7 y8 y9 y10 y11 y12:Sl,jv (dG (ee 2 (aX (tgN 4) (aX (tgN 5) eM))) fV) (fv k (q.map cuD)) [.vl (stD s),.vl (.list (cs.map cuD)),.vl TD,.ow (acc.map tx),x4,x5,x6,x7,x8,x9,x10,x11,x12]=M.ret (.nx [.vl (stD s),.vl (.list (cs.map cuD)),.vl TD,.ow ((acc++mx s ts k q).map tx),y4,y5,y6,y7,y8,y9,y10,y11,y12])
 | [],k,acc,x4,x5,x6,x7,x8,x9,x10,x11,x12,_,_=>⟨x4,x5,x6,x7,x8,x9,x10,x11,x12,by rw[mx,Z7];rfl⟩
 | c::q,k,acc,x4,x5,x6,x7,x8,x9,x10,x11,x12,hq,ha=>by
  rw[θ] at ha
  have hk:cs[k]?=some c:=by
   have:=congrArg U6 hq
   rw[V6] at this
   exact this
  have hq':cs.drop (k+1)=q:=by rw[<-W2,hq];rfl
  obtain⟨y10,y11,y12,hs⟩:=Cv s hok hl TD hts hso hk hq' acc (by omega) x4 x5 x6 x7 x8 x9 x10 x11 x12
  have l1:(eP s c k).length<=1:=by unfold eP;split<;>simp
  have l2:(fu s c k).length<=1:=by unfold fu;split<;>simp
  have l3:=pI s c k q 1
  have l4:=ou s.shy c.b c.e k ts 0
  obtain⟨z4,z5,z6,z7,z8,z9,z10,z11,z12,hI⟩:=wb s hok hl TD hts hso q (k+1) (acc++eP s c k++fu s c k++apW s c k 1 q++iF s.shy c.b c.e k 0 ts) (.vl (.int (k:Int))) (.vl (cuD c)) (.vl (.int c.b)) (.vl (.int c.e)) (.vl (.str c.h)) (.vl (.str c.w)) y10 y11 y12 hq' (by simp only[ζ];omega)
  refine⟨z4,z5,z6,z7,z8,z9,z10,z11,z12,?_⟩
  rw[Δ,mx,show acc++(eP s c k++fu s c k++apW s c k 1 q++iF s.shy c.b c.e k 0 ts++mx s ts (k+1) q)=acc++eP s c k++fu s c k++apW s c k 1 q++iF s.shy c.b c.e k 0 ts++mx s ts (k+1) q by simp only[Z4]]
  exact du hs hI
theorem xl(s:Set7){cs:List Cu}(hok:∀c∈cs,uC c/\hOk c)(hl:cs.length<=8)(TD:D){ts:List Int}(hts:ts.length<=100)(hso:jQ [TD]=some (.list (ts.map η))):dl [stD s,.list (cs.map cuD),TD]=M.ret (wA (mx s ts 0 cs)):=by
 obtain⟨y4,y5,y6,y7,y8,y9,y10,y11,y12,hI⟩:=wb s hok hl TD hts hso cs 0 [] .un .un .un .un .un .un .un .un .un rfl (by show 0+_<=_;omega)
 obtain⟨h1,h2⟩:=up s hts cs 0 (by omega)
 refine bq ?_
 unfold jX
 refine aY (hG (ds:=[]) (dL ak rfl)) ?_
 refine aY (e7 (kW (ac (af rfl) ak)) hI) ?_
 rw[W4]
 have he:=EG h1
 have hj:=qK (W:=mx s ts 0 cs) (by omega) (λw hw=>(h1 w hw).1)
 generalize mx s ts 0 cs=W at he hj ⊢
 refine Cn ?_
 unfold wA
 by_cases hW:W=[]
 ·rw[if_pos hW]
  exact lI (bv (ap (x:=.list (W.map tx)) (af rfl) (d7 ak rfl) (by rw[he,decide_eq_true hW]))) (bg ao)
 ·rw[if_neg hW]
  exact bN (b:=false) (bv (ap (x:=.list (W.map tx)) (af rfl) (d7 ak rfl) (by rw[he,decide_eq_false hW]))) rfl (bg (cZ (z:=Str.ofString ", ") ao (ac (x:=.list (W.map tx)) (af rfl) ak) hj))
theorem tm_at:∀(cs:List Cu) (k:Nat) (c:Cu),cs[k]?=some c->(0::tmL cs).getD (2*k+1) 0=c.b/\(0::tmL cs).getD (2*k+2) 0=c.e:=by
 have main:∀(cs:List Cu) (k:Nat) (c:Cu),cs[k]?=some c->(tmL cs).getD (2*k) 0=c.b/\(tmL cs).getD (2*k+1) 0=c.e:=by
  intro cs
  induction cs with
  | nil=>intro k c h;cases h
  | cons d cs ih =>
   intro k c h
   cases k with
   | zero=>cases h;exact⟨rfl,rfl⟩
   | succ k=>exact ih k c h
 exact main
theorem ia(T:List Int)(a b:List Rl):dD T (a++b)=dD T a++dD T b:=by
 unfold dD
 rw[List.filter_append,Z3]
theorem fB(T:List Int)(lo hi:Nat)(le:Int)(why:D):dD T [⟨lo,hi,le,none,why⟩]=if T.getD hi 0-T.getD lo 0<le then [swT why] else []:=by
 unfold dD lk
 by_cases h:T.getD hi 0-T.getD lo 0<le
 ·rw[if_pos h,List.filter_cons_of_pos (by simp only[decide_eq_true_eq];exact⟨rfl,by omega⟩)]
  rfl
 ·rw[if_neg h,List.filter_cons_of_neg (by simp only[decide_eq_true_eq];rintro⟨_,h2⟩;omega)]
  rfl
theorem nJ(T:List Int)(r:Rl)(rs:List Rl):dD T (r::rs)=dD T [r]++dD T rs:=ia T [r] rs
theorem zf(T:List Int)(s:Set7)(c:Cu)(k:Nat):dD T (kA s c k)=[]:=by
 unfold dD kA
 simp
theorem sw1(x:String)(l:List Nat)(k:Nat)(h:(Str.ofString x).cps.toList=l):swT (wh1 x (k:Int))=l++[32]++nT k:=by
 show(Str.ofString x).cps.toList++32::nT ((k:Int)).toNat=_
 rw[h,W3,Z4]
 rfl
theorem sw2(x:String)(l:List Nat)(k j:Nat)(h:(Str.ofString x).cps.toList=l):swT (wh2 x (k:Int) (j:Int))=l++[32]++nT k++[32]++nT j:=by
 show(Str.ofString x).cps.toList++32::(nT ((k:Int)).toNat++32::nT ((j:Int)).toNat)=_
 rw[h,W3,W3]
 simp only[Z4]
 rfl
theorem wk{T:List Int}{shy b e:Int}{k:Nat}(hT0:T.getD 0 0=0)(hb:T.getD (2*k+1) 0=b)(he:T.getD (2*k+2) 0=e):∀(ts:List Int) (j:Nat),dD T (gW shy b e k j ts)=iF shy b e k j ts
 | [],j=>rfl
 | t::ts,j=>by
  rw[gW,iF,ia,wk hT0 hb he ts (j+1)]
  congr 1
  unfold ro ka
  by_cases h1:b<=t-shy/\t+shy<=e
  ·rw[if_pos h1,if_pos (show b+shy<=t/\t+shy<=e from⟨by omega,h1.2⟩),if_pos rfl,nJ,fB,fB,hT0,hb,he,if_neg (by omega),if_neg (by omega)]
   rfl
  rw[if_neg h1,if_neg (show ¬(b+shy<=t/\t+shy<=e) from λh=>h1 ⟨by omega,h.2⟩)]
  by_cases h2:b+e<=2*t
  ·rw[if_pos h2,if_pos h2,fB,hT0,he]
   by_cases h3:t<e
   ·rw[if_pos h3,if_pos (show(0:Int)-e < -t by omega),if_neg (by simp),sw2 "ahead" [97,104,101,97,100] k j (by decide +kernel)]
   ·rw[if_neg h3,if_neg (show ¬(0:Int)-e < -t by omega),if_pos rfl]
  ·rw[if_neg h2,if_neg h2,fB,hT0,hb]
   by_cases h3:b<t
   ·rw[if_pos h3,if_pos (show b-0<t by omega),if_neg (by simp),sw2 "behind" [98,101,104,105,110,100] k j (by decide +kernel)]
   ·rw[if_neg h3,if_neg (show ¬b-0<t by omega),if_pos rfl]
theorem tf{T:List Int}(s:Set7){c:Cu}{cs:List Cu}{k:Nat}(hT:∀(i:Nat) (d:Cu),cs[i]?=some d->T.getD (2*i+1) 0=d.b)(he:T.getD (2*k+2) 0=c.e):∀(q:List Cu) (w:Nat),cs.drop (k+w)=q->dD T (match nxt c.h w q with | some v=>[⟨2*k+2,2*(k+v)+1,s.apart,none,wh2 "apart" k (k+(v:Int))⟩] | none=>[])=apW s c k w q
 | [],w,_=>rfl
 | d::q,w,hq=>by
  have hd:cs[k+w]?=some d:=by
   have:=congrArg U6 hq
   rw[V6] at this
   exact this
  have hq':cs.drop (k+(w+1))=q:=by
   rw[<-Nat.add_assoc,<-W2,hq]
   rfl
  rw[nxt,apW]
  by_cases h:d.h=c.h
  ·rw[if_pos h,if_pos h]
   show dD T [⟨2*k+2,2*(k+w)+1,s.apart,none,wh2 "apart" k (k+(w:Int))⟩]=_
   rw[fB,hT _ _ hd,he,show((k:Int)+(w:Int))=((k+w:Nat):Int) by omega,sw2 "apart" [97,112,97,114,116] k (k+w) (by decide +kernel)]
   by_cases h2:d.b<c.e+s.apart
   ·rw[if_pos h2,if_pos (show d.b-c.e<s.apart by omega)]
    rfl
   ·rw[if_neg h2,if_neg (show ¬d.b-c.e<s.apart by omega)]
  ·rw[if_neg h,if_neg h]
   exact tf s hT he q (w+1) hq'
theorem wa(s:Set7)(ts:List Int){cs:List Cu}(h0:∀c∈cs,0<=c.b)(hp:cs.Pairwise (λx y=>x.b<=y.b)):∀(q:List Cu) (k:Nat),cs.drop k=q->dD (0::tmL cs) (cP s ts k q)=mx s ts k q
 | [],k,_=>rfl
 | c::q,k,hq=>by
  have hc:cs[k]?=some c:=by
   have:=congrArg U6 hq
   rw[V6] at this
   exact this
  have hq':cs.drop (k+1)=q:=by rw[<-W2,hq];rfl
  have hcb:=h0 c (Y3 hc)
  obtain⟨hb,he⟩:=tm_at cs k c hc
  have hT:∀(i:Nat) (d:Cu),cs[i]?=some d->(0::tmL cs).getD (2*i+1) 0=d.b:=λi d h=>(tm_at cs i d h).1
  have hT0:(0::tmL cs).getD 0 0=0:=rfl
  have ih:=wa s ts h0 hp q (k+1) hq'
  rw[cP,mx,ia,ia,ia,ia,ia,zf,ih,wk hT0 hb he ts 0]
  have ha:dD (0::tmL cs) (gT s c q k)=apW s c k 1 q:=tf s hT he q 1 hq'
  have ho:dD (0::tmL cs) (ga q k)=[]:=by
   unfold ga
   cases q with
   | nil=>rfl
   | cons d q =>
    have hd:cs[k+1]?=some d:=by
     have:=congrArg U6 hq'
     rw[V6] at this
     exact this
    have hle:c.b<=d.b:=by
     have h1:=ω.mp hc
     have h2:=ω.mp hd
     obtain⟨a1,a2⟩:=h1
     obtain⟨b1,b2⟩:=h2
     rw[<-a2,<-b2]
     exact List.pairwise_iff_getElem.mp hp k (k+1) a1 b1 (by omega)
    rw[if_neg (by simp),fB,hT _ _ hd,hb,if_neg (by omega)]
  have hl:dD (0::tmL cs) (iI s c k)=eP s c k++fu s c k:=by
   unfold iI eP fu
   rw[nJ,nJ _ ⟨2*k+1,2*k+2,vK s c,none,wh1 "long" k⟩,fB,fB,fB,hT0,hb,he,if_neg (by omega),W4,sw1 "long" [108,111,110,103] k (by decide +kernel),sw1 "most" [109,111,115,116] k (by decide +kernel)]
   congr 1
   by_cases h:s.most<c.e-c.b
   ·rw[if_pos h,if_pos (show c.b-c.e < -s.most by omega)];rfl
   ·rw[if_neg h,if_neg (show ¬c.b-c.e < -s.most by omega)]
  rw[ha,ho,hl,Z7,W4]
theorem EH(s:Set7)(ts:List Int){cs:List Cu}(h0:∀c∈cs,0<=c.b)(hp:cs.Pairwise (λx y=>x.b<=y.b)):wA (mx s ts 0 cs)=ma s ts cs:=by
 unfold ma
 rw[wa s ts h0 hp cs 0 rfl]
end K62
open SL
namespace K62
noncomputable def stV(s:Set7):List (Key×Val):=(stE s).map λe=>(e.1,Val.d e.2)
noncomputable def kE(s:Set7)(i:Nat)(v:Int):Set7:=match i with
 | 0=>{ s with sign:=v }
 | 1=>{ s with least:=v }
 | 2=>{ s with most:=v }
 | 3=>{ s with apart:=v }
 | 4=>{ s with shy:=v }
 | 5=>{ s with beg:=v }
 | _=>{ s with fin:=v }
noncomputable def zW(s:Set7)(i:Nat):Int:=match i with
 | 0=>s.sign
 | 1=>s.least
 | 2=>s.most
 | 3=>s.apart
 | 4=>s.shy
 | 5=>s.beg
 | _=>s.fin
noncomputable def ej(i:Nat):List Nat:=match i with
 | 0=>[115,105,103,110]
 | 1=>[108,101,97,115,116]
 | 2=>[109,111,115,116]
 | 3=>[97,112,97,114,116]
 | 4=>[115,104,121]
 | 5=>[98,101,103,105,110]
 | _=>[101,110,100]
theorem lt7{i:Nat}(h:i<7):i=0\/i=1\/i=2\/i=3\/i=4\/i=5\/i=6:=by omega
theorem qR(s:Set7){i:Nat}(h:i<7)(v:Int):zW (kE s i v) i=v:=by
 rcases lt7 h with rfl | rfl | rfl | rfl | rfl | rfl | rfl<;>rfl
theorem AS(s:Set7){i:Nat}(h:i<7)(v u:Int):kE (kE s i v) i u=kE s i u:=by
 rcases lt7 h with rfl | rfl | rfl | rfl | rfl | rfl | rfl<;>rfl
theorem wR(s:Set7){i:Nat}(h:i<7)(v:Int):vx (stV s) (.inr (S (ej i))) (.d (.int v))=stV (kE s i v):=by
 rcases lt7 h with rfl | rfl | rfl | rfl | rfl | rfl | rfl<;>kernel_rfl
theorem Ca(s:Set7){i:Nat}(h:i<7):bT (stD s) (tx (ej i))=some (.int (zW s i)):=by
 rcases lt7 h with rfl | rfl | rfl | rfl | rfl | rfl | rfl
 ·exact xx s
 ·exact ug s
 ·exact xy s
 ·exact uh s
 ·exact na s
 ·exact Ce s
 ·exact Cd s
theorem qH{i:Nat}(h:i<7):cN (tx (ej i))=some (.inr (S (ej i))):=by
 rcases lt7 h with rfl | rfl | rfl | rfl | rfl | rfl | rfl<;>rfl
theorem Ei{m:Int}(h0:0<=m)(h1:m<7):oIx (.list [.str "sign",.str "least",.str "most",.str "apart",.str "shy",.str "begin",.str "end"]) (.int m)=some (tx (ej m.toNat)):=by
 have:m=0\/m=1\/m=2\/m=3\/m=4\/m=5\/m=6:=by omega
 rcases this with rfl | rfl | rfl | rfl | rfl | rfl | rfl<;>rfl
noncomputable def fI(i:Nat):Int:=if i=1\/i=4 then 1 else 0
noncomputable def dU(i:Nat):Int:=if i=5\/i=6 then 99 else 1000000000
def AE(s:Set7):Prop:=∀i,i<7->fI i<=zW s i/\zW s i<=dU i
theorem get_ne(s:Set7){i j:Nat}(hi:i<7)(hj:j<7)(h:i≠j)(v:Int):zW (kE s i v) j=zW s j:=by
 rcases lt7 hi with rfl | rfl | rfl | rfl | rfl | rfl | rfl<;>rcases lt7 hj with rfl | rfl | rfl | rfl | rfl | rfl | rfl<;>first | rfl | exact absurd rfl h
theorem AD{s:Set7}(h:AE s){i:Nat}(hi:i<7){v:Int}(h1:fI i<=v)(h2:v<=dU i):AE (kE s i v):=λj hj=>by
 by_cases e:i=j
 ·subst e
  rw[qR s hi]
  exact⟨h1,h2⟩
 ·rw[get_ne s hi hj e]
  exact h j hj
noncomputable def st0:Set7:=⟨60,1000,7000,80,200,2,1⟩
theorem st0_ok:AE st0:=λi hi=>by
 rcases lt7 hi with rfl | rfl | rfl | rfl | rfl | rfl | rfl<;>decide
noncomputable def AI(i n:Nat):List Nat:=[115,101,116,32]++ej i++[32]++nT n
theorem Da(i n:Nat):AI i n=jn 32 [[115,101,116],ej i,nT n]:=by
 unfold AI
 rw[lA 32 _ (by simp),lA 32 _ (by simp),show jn 32 [nT n]=nT n from rfl]
 simp only[Z4,U0,W4]
end K62
namespace SL
section
variable{f fo fi fe:aD->Sto->R (Val×Sto)}{fa:aD->Sto->R (List Val×Sto)}{fc:aD->Sto->R (Bool×Sto)}{g:SG}{δ δ':aD}{μ μ' μ1 μ2 μ3:Sto}{v:Val}{n:Nat}
theorem bU{k:Nat}{x:D}:lvN k μ (.d x)=some x:=by cases k<;>rfl
theorem aB{i:Nat}{x:Val}{d:D}(h:δ[i]?=some (some x))(h2:lvN 4 μ x=some d):ah i (viewN 4 μ δ)=M.ret d:=by
 refine af ?_
 unfold viewN
 rw[Z6,h]
 show some (match lvN 4 μ x with | some d=>Sl.vl d | none=>.un)=_
 rw[h2]
theorem er{f:DS->M D}{d:D}(h:f (viewN 4 μ δ)=M.ret d)(hf:dW d=true):fj f δ μ=R.ret (.d d,μ):=by
 unfold fj;rw[h];show(if dW d=true then _ else _)=_;rw[if_pos hf]
theorem gF{fb:DS->M Bool}{b:Bool}(h:fb (viewN 4 μ δ)=M.ret b):md fb δ μ=R.ret (b,μ):=by unfold md;rw[h];rfl
theorem um{fn:DS->M (List D)}{ds:List D}(h:fn (viewN 4 μ δ)=M.ret ds)(hf:bj ds=true):r6 fn δ μ=R.ret (.h μ.length,μ++[.lst (ds.map Val.d)]):=by
 unfold r6;rw[h];show(if bj ds=true then _ else _)=_;rw[if_pos hf]
theorem v9{f:DS->M D}{ds:List D}(h:f (viewN 4 μ δ)=M.ret (.list ds))(hf:bj ds=true):qd f δ μ=R.ret (.h μ.length,μ++[.lst (ds.map Val.d)]):=by
 unfold qd;rw[h];show(if bj ds=true then _ else _)=_;rw[if_pos hf]
theorem es_at{k:Nat}{c x:Str}{fs:List (Str×Val)}(h1:fo δ μ=R.ret (.h k,μ1))(h2:μ1[k]?=some (.ins c fs))(h3:fs.lookup x=some v):sAt c x fo δ μ=R.ret (v,μ1):=by
 unfold sAt
 rw[h1,ck]
 dsimp only
 rw[h2]
 dsimp only
 rw[if_pos rfl,h3]
theorem qX{k:Nat}{c x:Str}{fs:List (Str×Val)}(h1:fe δ μ=R.ret (v,μ1))(h2:fo δ μ1=R.ret (.h k,μ2))(h3:μ2[k]?=some (.ins c fs))(h4:fs.length<1000):i5 c x fo fe n δ μ=R.ret (.nx δ (μ2.set k (.ins c (jO x v fs)))):=by
 unfold i5
 rw[h1,ck]
 dsimp only
 rw[h2,ck]
 dsimp only
 rw[h3]
 dsimp only
 rw[if_pos ⟨rfl,h4⟩]
theorem jh{k:Nat}{c m:Str}{F:List Val->Sto->R (Val×Sto)}{fs:List (Str×Val)}{xs:List Val}(h1:fo δ μ=R.ret (.h k,μ1))(h2:μ1[k]?=some (.ins c fs))(h3:fs.lookup m=none)(h4:fa δ μ1=R.ret (xs,μ2))(h5:F (.h k::xs) μ2=R.ret (v,μ3)):lU c m F fo fa δ μ=R.ret (v,μ3):=by
 unfold lU
 rw[h1,ck]
 dsimp only
 rw[h2]
 dsimp only
 rw[if_pos ⟨rfl,h3⟩,h4,ck]
 dsimp only
 rw[h5]
 rfl
theorem es_mk{c:Str}{F:List Val->Sto->R (Val×Sto)}{xs:List Val}(h1:fa δ μ=R.ret (xs,μ1))(h2:F (.h μ1.length::xs) (μ1++[.ins c []])=R.ret (.d .none,μ2)):sMk c F fa δ μ=R.ret (.h μ1.length,μ2):=by
 unfold sMk
 rw[h1,ck]
 dsimp only
 rw[h2]
 rfl
theorem es_rem{k:Nat}{m:Int}{is:List Int}{ys:List Val}(h1:fo δ μ=R.ret (.h k,μ1))(h2:μ1[k]?=some (.lst ys))(h3:f δ μ1=R.ret (.d (.int m),μ2))(h4:μ2[k]?=some (.lst (is.map λi=>Val.d (.int i))))(h5:m∈is):De fo f δ μ=R.ret (.d .none,μ2.set k (.lst ((is.eraseIdx (is.idxOf m)).map λi=>Val.d (.int i)))):=by
 unfold De
 rw[h1,ck]
 dsimp only
 rw[h2]
 dsimp only
 rw[h3,ck]
 dsimp only
 rw[h4]
 dsimp only
 rw[sD]
 dsimp only
 rw[if_pos h5]
theorem hJ{k:Nat}{xs:List Val}(h:g μ.length (kC k xs) μ=R.ret (.nx δ μ')):mh k g xs μ=R.ret (.d .none,μ'):=by unfold mh;rw[h];rfl
end
end SL
namespace K62
theorem lv_d(f:Nat)(μ:Sto)(d:D):lvN f μ (.d d)=some d:=by cases f<;>rfl
theorem yv{f:Nat}{μ:Sto}{b:Nat}{ds:List D}(h:μ[b]?=some (.lst (ds.map Val.d))):lvN (f+1) μ (.h b)=some (.list ds):=by
 have main:∀ds:List D,gG ((ds.map Val.d).map (lvN f μ))=some ds:=by
  intro ds
  induction ds with
  | nil=>rfl
  | cons d ds ih =>
   rw[Δ,Δ,lv_d]
   show(gG ((ds.map Val.d).map (lvN f μ))).map (d :: ·)=_
   rw[ih]
   rfl
 rw[lvN]
 dsimp only
 rw[h]
 dsimp only
 rw[main]
 rfl
theorem kP{f:Nat}{μ:Sto}{a:Nat}{s:Set7}(h:μ[a]?=some (.dct (stV s))):lvN (f+1) μ (.h a)=some (stD s):=by
 rw[lvN]
 dsimp only
 rw[h]
 dsimp only
 rw[show((stV s).map (·.2)).map (lvN f μ)=[some (.int s.sign),some (.int s.least),some (.int s.most),some (.int s.apart),some (.int s.shy),some (.int s.beg),some (.int s.fin)] by
  show [lvN f μ (.d (.int s.sign)),lvN f μ (.d (.int s.least)),lvN f μ (.d (.int s.most)),lvN f μ (.d (.int s.apart)),lvN f μ (.d (.int s.shy)),lvN f μ (.d (.int s.beg)),lvN f μ (.d (.int s.fin))]=_
  simp only[lv_d]]
 rfl
noncomputable def dkO(c a b:Nat):Ob:=.ins "Desk" [("cues",.h c),("clock",.d (gP "Thousandths" [])),("settings",.h a),("cuts",.h b)]
theorem Ed{f:Nat}{μ:Sto}{k c a b:Nat}{CD SD TD:D}(h:μ[k]?=some (dkO c a b))(hc:lvN f μ (.h c)=some CD)(ha:lvN f μ (.h a)=some SD)(hb:lvN f μ (.h b)=some TD):lvN (f+1) μ (.h k)=some (dkD CD SD TD):=by
 rw[lvN]
 dsimp only
 rw[h]
 show(gG [lvN f μ (.h c),lvN f μ (.d (gP "Thousandths" [])),lvN f μ (.h a),lvN f μ (.h b)]).map (λds=>gP "Desk" ((["cues", "clock", "settings", "cuts"]:List Str).zip ds))=_
 rw[hc,ha,hb,lv_d]
 rfl
theorem in_low{i:Nat}(h:i<7):mX false (tx (ej i)) (.list [.str "least",.str "shy"])=some (.bool (decide (i=1\/i=4))):=by
 rcases lt7 h with rfl | rfl | rfl | rfl | rfl | rfl | rfl<;>kernel_rfl
theorem Eo{i:Nat}(h:i<7):mX false (tx (ej i)) (.list [.str "begin",.str "end"])=some (.bool (decide (i=5\/i=6))):=by
 rcases lt7 h with rfl | rfl | rfl | rfl | rfl | rfl | rfl<;>kernel_rfl
theorem yx{i:Nat}(h:i<7):(ej i).length<=5:=by
 rcases lt7 h with rfl | rfl | rfl | rfl | rfl | rfl | rfl<;>decide
theorem qE(i:Nat):0<=fI i/\fI i<=1/\99<=dU i/\dU i<=1000000000:=by
 unfold fI dU
 split<;>split<;>decide
theorem Bu(i:Nat):iP [.bool (decide (i=1\/i=4))]=some (.int (fI i)):=by
 unfold fI
 by_cases h:i=1\/i=4
 ·rw[decide_eq_true h,if_pos h];rfl
 ·rw[decide_eq_false h,if_neg h];rfl
theorem pick4(a b c d:Int){m:Int}(h0:0<=m)(h1:m<4):∃v,(v=a\/v=b\/v=c\/v=d)/\oIx (.list [.int a,.int b,.int c,.int d]) (.int m)=some (.int v):=by
 have:m=0\/m=1\/m=2\/m=3:=by omega
 rcases this with rfl | rfl | rfl | rfl
 ·exact⟨a,.inl rfl,rfl⟩
 ·exact⟨b,.inr (.inl rfl),rfl⟩
 ·exact⟨c,.inr (.inr (.inl rfl)),rfl⟩
 ·exact⟨d,.inr (.inr (.inr rfl)),rfl⟩
theorem Dh{μ:Sto}{a b:Nat}{s:Set7}(ha:μ[a]?=some (.dct (stV s)))(CS:D){m:Int}(hm:m % 2=0):∃(i n:Nat),i<7/\fI i<=(n:Int)/\(n:Int)<=dU i/\df [.h a,.h b,.d CS,.d (.int m)] μ=R.ret (.d (tx (AI i n)),μ.set a (.dct (stV (kE s i (n:Int))))):=by
 obtain⟨l,hl,hb,hn⟩:=mm m 3 (by decide)
 match l,hl with
 | [p,q,r],_ =>
 have hp:=hb p (by simp)
 have hq:=hb q (by simp)
 have hr:=hb r (by simp)
 generalize hL:Z1 ([p,q,r].map η)=L at hn
 have g0:oIx L (.int 0)=some (.int p):=by rw[<-hL];rfl
 have g1:oIx L (.int 1)=some (.int q):=by rw[<-hL];rfl
 have g2:oIx L (.int 2)=some (.int r):=by rw[<-hL];rfl
 have hki:=Ei (m:=p % 7) (by omega) (by omega)
 have hi:(p % 7).toNat<7:=by omega
 generalize (p % 7).toNat=i at hki hi
 have lh:=qE i
 obtain⟨v0,hv0,e0⟩:=pick4 (fI i) (fI i+q % 99) (q % 9000) (dU i) (m:=r % 4) (by omega) (by omega)
 have hv:fI i<=max (fI i) (min (dU i) v0)/\max (fI i) (min (dU i) v0)<=dU i:=by omega
 refine⟨i,(max (fI i) (min (dU i) v0)).toNat,hi,by omega,by omega,?_⟩
 have hnn:(((max (fI i) (min (dU i) v0)).toNat:Nat):Int)=max (fI i) (min (dU i) v0):=by omega
 have hal:a<μ.length:=(ω.mp ha).1
 have h1:(μ.set a (.dct (stV (kE s i v0))))[a]?=some (.dct (stV (kE s i v0))):=V5 hal
 generalize hv':max (fI i) (min (dU i) v0)=v at hnn hv
 have h2:(μ.set a (.dct (stV (kE s i v))))[a]?=some (.dct (stV (kE s i v))):=V5 hal
 have hkl:=yx hi
 have n1:=jb (n:=v.toNat) (by omega)
 have ad:∀{u v:List Nat},u.length+v.length<=1000->bm (tx u) (tx v)=some (tx (u++v)):=λh=>jC (by omega)
 refine mw ?_
 unfold fm
 refine aP (bJ (aV (d:=L) (az (ds:=[.int m,.int 3]) (ac (af rfl) (ac ao ak)) hn))) ?_
 refine pF (bY (b:=true) (dM (bv (ap (x:=.int 0) (y:=.int 0) (ap (af rfl) ao (by rw[cw (by decide),hm])) ao rfl))) ?_)
 rw[if_pos rfl]
 refine aP (bJ (aV (d:=tx (ej i)) (ap (y:=.int (p % 7)) (d7 (ac ao (ac ao (ac ao (ac ao (ac ao (ac ao (ac ao ak))))))) rfl) (ap (ap (af rfl) ao g0) ao (cw (by decide))) hki))) ?_
 refine aP (bJ (aV (d:=.int (fI i)) (br (ac (ap (x:=tx (ej i)) (af rfl) (d7 (ac ao (ac ao ak)) rfl) (in_low hi)) ak) (Bu i)))) ?_
 refine aP (bJ (aV (d:=.int 1000000000) (ap ao ao w6))) ?_
 refine aP (δ':=[some (.h a),some (.h b),some (.d CS),some (.d (.int m)),some (.d L),none,none,some (.d (tx (ej i))),some (.d (.int (fI i))),some (.d (.int (dU i))),none,none]) (μ':=μ) (bY (b:=decide (i=5\/i=6)) (dM (bv (ap (x:=tx (ej i)) (af rfl) (d7 (ac ao (ac ao ak)) rfl) (Eo hi)))) ?_) ?_
 ·unfold dU
  by_cases h:i=5\/i=6
  ·rw[decide_eq_true h,if_pos rfl,if_pos h]
   exact bJ (aV (d:=.int 99) ao)
  ·rw[decide_eq_false h,if_neg Ξ,if_neg h]
   rfl
 refine aP (pE (v:=.d (.int v0)) (k:=a) (y:=tx (ej i)) (aV (ap (x:=.list [.int (fI i),.int (fI i+q % 99),.int (q % 9000),.int (dU i)]) (y:=.int (r % 4)) (d7 (ac (af rfl) (ac (ap (af rfl) (ap (ap (af rfl) ao g1) ao (cw (by decide))) cr) (ac (ap (ap (af rfl) ao g1) ao (cw (by decide))) (ac (af rfl) ak)))) rfl) (ap (ap (af rfl) ao g2) ao (cw (by decide))) e0)) (bI rfl) (bI rfl) (qH hi) ha (show 7<1000000 by decide)) ?_
 rw[wR s hi]
 refine aP (pE (v:=.d (.int v)) (k:=a) (y:=tx (ej i)) (er (br (ac (aB rfl (bU (x:=.int (fI i)))) (ac (br (ac (aB rfl (bU (x:=.int (dU i)))) (ac (ap (aB rfl (kP h1)) (aB rfl (bU (x:=tx (ej i)))) (by rw[Ca _ hi,qR s hi])) ak)) o_min) ak)) (by rw[oF,hv'])) rfl) (bI rfl) (bI rfl) (qH hi) h1 (show 7<1000000 by decide)) ?_
 rw[wR _ hi,AS s hi,List.set_set,hnn]
 refine kZ (er ?_ rfl)
 refine ap (x:=tx ([115,101,116,32]++ej i++[32])) (y:=tx (nT v.toNat)) (ap (ap (ao (d:=tx [115,101,116,32])) (aB rfl (bU (x:=tx (ej i)))) (ad (by show 4+_<=_;omega))) (ao (d:=tx [32])) (ad (by simp only[ζ,θ,X1];omega))) (br (ac (ap (aB rfl (kP h2)) (aB rfl (bU (x:=tx (ej i)))) (by rw[Ca _ hi,qR s hi])) ak) ?_) ?_
 ·rw[<-hnn,tU (by omega),xi]
  rfl
 ·unfold AI
  exact ad (by simp only[ζ,θ,X1];omega)
end K62
namespace SL
section
variable{f fo fi:aD->Sto->R (Val×Sto)}{fa:aD->Sto->R (List Val×Sto)}{δ:aD}{μ μ' μ1:Sto}{v:Val}{n:Nat}
theorem j3(h:f δ μ=R.ret (v,μ')):lX f n δ μ=R.ret (.nx δ μ'):=by
 unfold lX
 rw[h]
 rfl
theorem es_app{k:Nat}{xs ys:List Val}(h1:fo δ μ=R.ret (.h k,μ1))(h2:μ1[k]?=some (.lst ys))(h3:f δ μ1=R.ret (v,μ'))(h4:μ'[k]?=some (.lst xs))(hs:bi (xs.length+1)=true):Dg fo f δ μ=R.ret (.d .none,μ'.set k (.lst (xs++[v]))):=by
 unfold Dg
 rw[h1,ck]
 dsimp only
 rw[h2]
 dsimp only
 rw[h3,ck]
 dsimp only
 rw[h4]
 dsimp only
 rw[if_pos hs]
end
end SL
namespace K62
theorem qA(l:List Int)(m:Int):mX true (.int m) (.list (l.map η))=some (.bool (decide (m∉l))):=by
 have h:iO (l.map η)=some (l.map V.int):=by
  induction l with
  | nil=>rfl
  | cons a r ih=>rw[Δ,iO,ih];rfl
 show(match qj (.int m),iO (l.map η) with | some v,some vs=>some (Y6 (if true then !inV v vs else inV v vs)) | _,_=>none)=_
 rw[h]
 show some (Y6 (!inV (V.int m) (l.map V.int)))=_
 unfold inV
 rw[List.any_map]
 congr 2
 show(!l.any (λx=>x==m))=_
 by_cases hm:m∈l
 ·rw[decide_eq_false (λh=>h hm),List.any_eq_true.mpr ⟨m,hm,by simp⟩];rfl
 ·rw[decide_eq_true hm,List.any_eq_false.mpr (λx hx e=>hm (by have:=eq_of_beq e;rw[<-this];exact hx))];rfl
theorem pick5(a b c d e:Int){m:Int}(h0:0<=m)(h1:m<5):∃v,(v=a\/v=b\/v=c\/v=d\/v=e)/\oIx (.list [.int a,.int b,.int c,.int d,.int e]) (.int m)=some (.int v):=by
 have:m=0\/m=1\/m=2\/m=3\/m=4:=by omega
 rcases this with rfl | rfl | rfl | rfl | rfl
 ·exact⟨a,.inl rfl,rfl⟩
 ·exact⟨b,.inr (.inl rfl),rfl⟩
 ·exact⟨c,.inr (.inr (.inl rfl)),rfl⟩
 ·exact⟨d,.inr (.inr (.inr (.inl rfl))),rfl⟩
 ·exact⟨e,.inr (.inr (.inr (.inr rfl))),rfl⟩
noncomputable def cutT(t:Nat):List Nat:=[99,117,116,32]++tT t
noncomputable def uncT(t:Nat):List Nat:=[117,110,99,117,116,32]++tT t
noncomputable def cy(ts:List Int):Ob:=.lst (ts.map λi=>Val.d (.int i))
theorem tY{f:Nat}{μ:Sto}{b:Nat}{ts:List Int}(h:μ[b]?=some (cy ts)):lvN (f+1) μ (.h b)=some (.list (ts.map η)):=yv (by rw[h];unfold cy;rw[X0];rfl)
theorem mN{μ:Sto}{b:Nat}{o:Ob}(h:μ[b]?=some o):μ.set b o=μ:=by
 obtain⟨hl,e⟩:=ω.mp h
 rw[<-e]
 exact List.set_getElem_self hl
theorem Di{μ:Sto}{a b:Nat}{s:Set7}{ts:List Int}(ha:μ[a]?=some (.dct (stV s)))(hb:μ[b]?=some (cy ts))(hab:a≠b)(hs:AE s)(ht:∀t∈ts,0<=t/\t<10 ^ 19)(htl:ts.length<=50){cs:List Cz}(hcs:∀c∈cs,czOk c)(hce:∀c∈cs,c.e<10 ^ 18)(hne:cs≠[])(hcl:cs.length<=8){m:Int}(hm:m % 2≠0):∃t:Nat,t<10 ^ 19/\(df [.h a,.h b,.d (.list (cs.map cz)),.d (.int m)] μ=R.ret (.d (tx (uncT t)),μ.set b (cy (ts.erase (t:Int))))\/df [.h a,.h b,.d (.list (cs.map cz)),.d (.int m)] μ=R.ret (.d (tx (cutT t)),μ.set b (cy (if (t:Int)∈ts then ts else ts++[(t:Int)])))):=by
 obtain⟨l,hl,hbd,hn⟩:=mm m 3 (by decide)
 match l,hl with
 | [p,q,r],_ =>
 have hp:=hbd p (by simp)
 have hq:=hbd q (by simp)
 have hr:=hbd r (by simp)
 generalize hL:Z1 ([p,q,r].map η)=L at hn
 have g0:oIx L (.int 0)=some (.int p):=by rw[<-hL];rfl
 have g1:oIx L (.int 1)=some (.int q):=by rw[<-hL];rfl
 have g2:oIx L (.int 2)=some (.int r):=by rw[<-hL];rfl
 have hc0:0<cs.length:=V3.mpr hne
 have hix:(r / 8 % (cs.length:Int)).toNat<cs.length:=by
  have h1:=Int.emod_nonneg (r / 8) (b:=(cs.length:Int)) (by omega)
  have h2:=Int.emod_lt_of_pos (r / 8) (b:=(cs.length:Int)) (by omega)
  omega
 have hixc:r / 8 % (cs.length:Int)=(((r / 8 % (cs.length:Int)).toNat:Nat):Int):=by
  have h1:=Int.emod_nonneg (r / 8) (b:=(cs.length:Int)) (by omega)
  omega
 obtain⟨c,hc⟩:∃c,cs[(r / 8 % (cs.length:Int)).toNat]?=some c:=⟨_,Y1 hix⟩
 have hcz:=hcs c (Y3 hc)
 have hcx:oIx (.list (cs.map cz)) (.int (r / 8 % (cs.length:Int)))=some (cz c):=by rw[hixc];exact gB (by rw[Z6,hc];rfl)
 have hlen:dI [.list (cs.map cz)]=some (.int (cs.length:Int)):=by rw[mj,ι]
 generalize hCS:Z1 (cs.map cz)=CS at hcx hlen ⊢
 have hsh:=hs 4 (by decide)
 have hsh:(1:Int)<=s.shy/\s.shy<=1000000000:=hsh
 obtain⟨v0,hv0,e0⟩:=pick5 (c.b:Int) (c.e:Int) ((c.b:Int)+s.shy) ((c.e:Int)-s.shy) (((c.b:Int)+(c.e:Int)) / 2) (m:=p % 5) (by omega) (by omega)
 have hb1:=hcz.b1
 have hbe:=hcz.be
 have hee:=hce c (Y3 hc)
 have hw:0<=max 0 (v0+q % 3-1)/\max 0 (v0+q % 3-1)<10 ^ 19:=by omega
 generalize hwe:max 0 (v0+q % 3-1)=w at hw
 have tl6:∀t:Nat,t<10 ^ 19->(tT t).length<=60:=λt h=>(mJ h).len
 have lv1:∀{f:Nat},lvN (f+1) μ (.h b)=some (.list (ts.map η)):=tY hb
 have hle:dI [.list (ts.map η)]=some (.int (ts.length:Int)):=by rw[mj,ι]
 have fin:∀{u:List Nat} {t:Nat} {δ:aD},u.length<=10->t<10 ^ 19->δ[6]?=some (some (.d (.int (t:Int))))->d2 bm (dC (tx u)) (aH (λds=>noX (bL ds)) (ag (ah 6) ar)) (view δ)=M.ret (tx (u++tT t)):=λhu ht h6=>by
  have:=tl6 _ ht
  exact ap ao (az (ds:=[.int _]) (ac (af (by unfold view;rw[Z6,h6];rfl)) ak) (je ht)) (jC (by omega))
 by_cases h0:r % 4=0/\0<ts.length
 ·have hk1:=Int.emod_nonneg p (b:=(ts.length:Int)) (by omega)
  have hk2:=Int.emod_lt_of_pos p (b:=(ts.length:Int)) (by omega)
  obtain⟨k,hk⟩:∃k:Nat,p % (ts.length:Int)=(k:Int):=⟨(p % (ts.length:Int)).toNat,by omega⟩
  obtain⟨x,hx⟩:∃x,ts[k]?=some x:=⟨_,Y1 (by omega)⟩
  have hxm:=Y3 hx
  have hxb:=ht x hxm
  obtain⟨t,rfl⟩:∃t:Nat,x=(t:Int):=⟨x.toNat,by omega⟩
  refine⟨t,by omega,.inl ?_⟩
  refine mw ?_
  unfold fm
  refine aP (bJ (aV (d:=L) (az (ds:=[.int m,.int 3]) (ac (af rfl) (ac ao ak)) hn))) ?_
  refine aP (bY (b:=false) (dM (bv (ap (x:=.int (m % 2)) (y:=.int 0) (ap (af rfl) ao (cw (by decide))) ao (by rw[qz,decide_eq_false hm])))) rfl) ?_
  refine aP (uo (d:=.tuple [.int (c.b:Int),.int (c.e:Int)]) (aV (pD (x:=cz c) (ap (af rfl) (ap (ap (ap (af rfl) ao g2) ao (oG (by decide))) (br (ac (af rfl) ak) hlen) (cw (by omega))) hcx) lH (lG ao) rfl)) rfl) ?_
  refine aP (bJ (er (d:=.int v0) (ap (x:=.list [.int (c.b:Int),.int (c.e:Int),.int ((c.b:Int)+s.shy),.int ((c.e:Int)-s.shy),.int (((c.b:Int)+(c.e:Int)) / 2)]) (y:=.int (p % 5)) (d7 (ac (aB rfl bU) (ac (aB rfl bU) (ac (ap (aB rfl bU) (ap (aB rfl (kP ha)) ao (na s)) cr) (ac (ap (aB rfl bU) (ap (aB rfl (kP ha)) ao (na s)) ke) (ac (ap (ap (aB rfl bU) (aB rfl bU) cr) ao (oG (by decide))) ak))))) rfl) (ap (ap (aB rfl bU) ao g0) ao (cw (by decide))) e0) rfl)) ?_
  refine aP (bJ (aV (d:=.int w) (br (ac ao (ac (ap (ap (af rfl) (ap (ap (af rfl) ao g1) ao (cw (by decide))) cr) ao ke) ak)) (by rw[oF,hwe])))) ?_
  refine pF (bY (b:=true) (gF (iw (bv (ap (x:=.int (r % 4)) (y:=.int 0) (ap (ap (aB rfl bU) ao g2) ao (cw (by decide))) ao (by rw[qz,decide_eq_true h0.1]))) (bv (ap (br (ac (aB rfl lv1) ak) hle) ao (by rw[vG,decide_eq_true (by omega)]))))) ?_)
  rw[if_pos rfl]
  refine aP (bJ (er (d:=.int (t:Int)) (ap (y:=.int (p % (ts.length:Int))) (aB rfl lv1) (ap (ap (aB rfl bU) ao g0) (br (ac (aB rfl lv1) ak) hle) (cw (by omega))) (by rw[hk];exact gB (by rw[Z6,hx];rfl))) rfl)) ?_
  refine aP (j3 (es_rem (bI rfl) hb (bI rfl) hb hxm)) ?_
  rw[<-List.erase_eq_eraseIdx_of_idxOf rfl]
  exact kZ (aV (fin (u:=[117,110,99,117,116,32]) (by decide) (by omega) rfl))
 ·obtain⟨t,rfl⟩:∃t:Nat,w=(t:Int):=⟨w.toNat,by omega⟩
  have T0:∀{δ:aD},δ[4]?=some (some (.d L))->δ[1]?=some (some (.h b))->jy (dB (d2 oEq (d2 gc (d2 oIx (ah 4) (dC (.int 2))) (dC (.int 4))) (dC (.int 0)))) (dB (d2 oGt (dCB dI (ag (ah 1) ar)) (dC (.int 0)))) (viewN 4 μ δ)=M.ret false:=λh4 h1=>by
   by_cases z:r % 4=0
   ·exact iw (bv (ap (x:=.int (r % 4)) (y:=.int 0) (ap (ap (aB h4 bU) ao g2) ao (cw (by decide))) ao (by rw[qz,decide_eq_true z]))) (bv (ap (br (ac (aB h1 lv1) ak) hle) ao (by rw[vG,decide_eq_false (by omega)])))
   ·exact kY (bv (ap (x:=.int (r % 4)) (y:=.int 0) (ap (ap (aB h4 bU) ao g2) ao (cw (by decide))) ao (by rw[qz,decide_eq_false z])))
  have N6:∀{δ:aD},δ[6]?=some (some (.d (.int (t:Int))))->δ[1]?=some (some (.h b))->dB (d2 (mX true) (ah 6) (ah 1)) (viewN 4 μ δ)=M.ret (decide ((t:Int)∉ts)):=λh6 h1=>bv (ap (aB h6 bU) (aB h1 lv1) (qA ts t))
  have T1:∀{δ:aD},δ[4]?=some (some (.d L))->δ[6]?=some (some (.d (.int (t:Int))))->δ[1]?=some (some (.h b))->jy (dB (d2 oEq (d2 gc (d2 oIx (ah 4) (dC (.int 2))) (dC (.int 4))) (dC (.int 1)))) (dB (d2 (mX true) (ah 6) (ah 1))) (viewN 4 μ δ)=M.ret (decide (r % 4=1/\(t:Int)∉ts)):=λh4 h6 h1=>by
   by_cases z:r % 4=1
   ·refine(iw (bv (ap (x:=.int (r % 4)) (y:=.int 1) (ap (ap (aB h4 bU) ao g2) ao (cw (by decide))) ao (by rw[qz,decide_eq_true z]))) (N6 h6 h1)).trans ?_
    congr 1
    simp [z]
   ·refine(kY (bv (ap (x:=.int (r % 4)) (y:=.int 1) (ap (ap (aB h4 bU) ao g2) ao (cw (by decide))) ao (by rw[qz,decide_eq_false z])))).trans ?_
    congr 1
    simp [z]
  by_cases h1:r % 4=1/\(t:Int)∉ts
  ·refine⟨t,by omega,.inl ?_⟩
   rw[List.erase_of_not_mem h1.2,mN hb]
   refine mw ?_
   unfold fm
   refine aP (bJ (aV (d:=L) (az (ds:=[.int m,.int 3]) (ac (af rfl) (ac ao ak)) hn))) ?_
   refine aP (bY (b:=false) (dM (bv (ap (x:=.int (m % 2)) (y:=.int 0) (ap (af rfl) ao (cw (by decide))) ao (by rw[qz,decide_eq_false hm])))) rfl) ?_
   refine aP (uo (d:=.tuple [.int (c.b:Int),.int (c.e:Int)]) (aV (pD (x:=cz c) (ap (af rfl) (ap (ap (ap (af rfl) ao g2) ao (oG (by decide))) (br (ac (af rfl) ak) hlen) (cw (by omega))) hcx) lH (lG ao) rfl)) rfl) ?_
   refine aP (bJ (er (d:=.int v0) (ap (x:=.list [.int (c.b:Int),.int (c.e:Int),.int ((c.b:Int)+s.shy),.int ((c.e:Int)-s.shy),.int (((c.b:Int)+(c.e:Int)) / 2)]) (y:=.int (p % 5)) (d7 (ac (aB rfl bU) (ac (aB rfl bU) (ac (ap (aB rfl bU) (ap (aB rfl (kP ha)) ao (na s)) cr) (ac (ap (aB rfl bU) (ap (aB rfl (kP ha)) ao (na s)) ke) (ac (ap (ap (aB rfl bU) (aB rfl bU) cr) ao (oG (by decide))) ak))))) rfl) (ap (ap (aB rfl bU) ao g0) ao (cw (by decide))) e0) rfl)) ?_
   refine aP (bJ (aV (d:=.int (t:Int)) (br (ac ao (ac (ap (ap (af rfl) (ap (ap (af rfl) ao g1) ao (cw (by decide))) cr) ao ke) ak)) (by rw[oF,hwe])))) ?_
   refine aP (bY (b:=false) (gF (T0 rfl rfl)) rfl) ?_
   refine pF (bY (b:=true) (gF ((T1 rfl rfl rfl).trans (by rw[decide_eq_true h1]))) ?_)
   rw[if_pos rfl]
   exact kZ (aV (fin (u:=[117,110,99,117,116,32]) (by decide) (by omega) rfl))
  ·refine⟨t,by omega,.inr ?_⟩
   refine mw ?_
   unfold fm
   refine aP (bJ (aV (d:=L) (az (ds:=[.int m,.int 3]) (ac (af rfl) (ac ao ak)) hn))) ?_
   refine aP (bY (b:=false) (dM (bv (ap (x:=.int (m % 2)) (y:=.int 0) (ap (af rfl) ao (cw (by decide))) ao (by rw[qz,decide_eq_false hm])))) rfl) ?_
   refine aP (uo (d:=.tuple [.int (c.b:Int),.int (c.e:Int)]) (aV (pD (x:=cz c) (ap (af rfl) (ap (ap (ap (af rfl) ao g2) ao (oG (by decide))) (br (ac (af rfl) ak) hlen) (cw (by omega))) hcx) lH (lG ao) rfl)) rfl) ?_
   refine aP (bJ (er (d:=.int v0) (ap (x:=.list [.int (c.b:Int),.int (c.e:Int),.int ((c.b:Int)+s.shy),.int ((c.e:Int)-s.shy),.int (((c.b:Int)+(c.e:Int)) / 2)]) (y:=.int (p % 5)) (d7 (ac (aB rfl bU) (ac (aB rfl bU) (ac (ap (aB rfl bU) (ap (aB rfl (kP ha)) ao (na s)) cr) (ac (ap (aB rfl bU) (ap (aB rfl (kP ha)) ao (na s)) ke) (ac (ap (ap (aB rfl bU) (aB rfl bU) cr) ao (oG (by decide))) ak))))) rfl) (ap (ap (aB rfl bU) ao g0) ao (cw (by decide))) e0) rfl)) ?_
   refine aP (bJ (aV (d:=.int (t:Int)) (br (ac ao (ac (ap (ap (af rfl) (ap (ap (af rfl) ao g1) ao (cw (by decide))) cr) ao ke) ak)) (by rw[oF,hwe])))) ?_
   refine aP (bY (b:=false) (gF (T0 rfl rfl)) rfl) ?_
   refine aP (bY (b:=false) (gF ((T1 rfl rfl rfl).trans (by rw[decide_eq_false h1]))) rfl) ?_
   by_cases h2:(t:Int)∈ts
   ·rw[if_pos h2,mN hb]
    refine aP (bY (b:=false) (gF ((N6 rfl rfl).trans (by rw[decide_eq_false (λh=>h h2)]))) rfl) ?_
    exact kZ (aV (fin (u:=[99,117,116,32]) (by decide) (by omega) rfl))
   ·rw[if_neg h2]
    refine aP (δ':=[some (.h a),some (.h b),some (.d CS),some (.d (.int m)),some (.d L),some (.d (.int v0)),some (.d (.int (t:Int))),none,none,none,some (.d (.int (c.b:Int))),some (.d (.int (c.e:Int)))]) (μ':=μ.set b (cy (ts++[(t:Int)]))) (bY (b:=true) (gF ((N6 rfl rfl).trans (by rw[decide_eq_true h2]))) ?_) ?_
    ·rw[if_pos rfl]
     have:=j3 (n:=μ.length) (es_app (f:=cO 6) (fo:=cO 1) (δ:=[some (.h a),some (.h b),some (.d CS),some (.d (.int m)),some (.d L),some (.d (.int v0)),some (.d (.int (t:Int))),none,none,none,some (.d (.int (c.b:Int))),some (.d (.int (c.e:Int)))]) (v:=.d (.int (t:Int))) (bI rfl) hb (bI rfl) hb (aW (by rw[ι];omega)))
     unfold cy
     rw[Z3]
     exact this
    exact kZ (aV (fin (u:=[99,117,116,32]) (by decide) (by omega) rfl))
theorem sT{i:Nat}(h:i<7):fC eF (.inr (S (ej i)))=some (.tuple [.int (fI i),.int (dU i)]):=by
 rcases lt7 h with rfl | rfl | rfl | rfl | rfl | rfl | rfl<;>kernel_rfl
theorem ny{μ:Sto}{k c a b:Nat}{s:Set7}(hk:μ[k]?=some (dkO c a b))(ha:μ[a]?=some (.dct (stV s))){i n:Nat}(hi:i<7)(h1:fI i<=(n:Int))(h2:(n:Int)<=dU i):b9 [.h k,.d (.list [tx [115,101,116],tx (ej i),tx (nT n)])] μ=R.ret (.d .none,μ.set a (.dct (stV (kE s i (n:Int))))):=by
 have lh:=qE i
 have hr:=qg (n:=n) (lo:=fI i) (hi:=dU i) (by omega) h1 h2
 generalize hW:Z1 [tx [115,101,116],tx (ej i),tx (nT n)]=W
 have w1:oIx W (.int 1)=some (tx (ej i)):=by rw[<-hW];rfl
 have w2:oIx W (.int 2)=some (tx (nT n)):=by rw[<-hW];rfl
 rw[<-wR s hi]
 refine hJ (δ:=[some (.h k),some (.d W),some (.d (.tuple [.int (fI i),.int (dU i)]))]) ?_
 unfold cL
 refine aP (bY (b:=false) (dM (bv (Eq.trans (b:=M.ret (Y6 (if true=true then !(fC eF (.inr (S (ej i)))).isSome else (fC eF (.inr (S (ej i)))).isSome))) ?_ (by rw[sT hi];rfl)))) rfl) ?_
 ·unfold EN
  rw[ap (af rfl) ao w1,aQ,qH hi]
 refine aP (bJ (aV (d:=.tuple [.int (fI i),.int (dU i)]) ?_)) ?_
 ·unfold CC
  rw[ap (af rfl) ao w1,aQ,qH hi]
  show M.lift (fC eF (.inr (S (ej i))))=_
  rw[sT hi]
  rfl
 exact pE (v:=.d (.int (n:Int))) (k:=a) (y:=tx (ej i)) (aV (az (ds:=[tx (nT n),.int (fI i),.int (dU i)]) (ac (ap (af rfl) ao w2) (ac (ap (af rfl) ao rfl) (ac (ap (af rfl) ao rfl) ak))) hr)) (es_at (bI rfl) hk (by kernel_rfl)) (aV (ap (af rfl) ao w1)) (qH hi) ha (show 7<1000000 by decide)
theorem qG(t:Int):∀(ts:List Int) (x:Sl),fA (tgN 0) (nX (dB (d2 oNe (ah 0) (ah 1)))) (nX (ah 0)) (ts.map η) [x,.vl (.int t)]=M.ret ((ts.filter λu=>decide (u≠t)).map η)
 | [],_=>rfl
 | u::ts,x=>by
  have ih:=qG t ts (.vl (.int u))
  have c1:dB (d2 oNe (ah 0) (ah 1)) [.vl (.int u),.vl (.int t)]=M.ret (decide (u≠t)):=bv (ap (af rfl) (af rfl) (by rw[o_ne];simp))
  rw[Δ]
  by_cases h:u≠t
  ·rw[decide_eq_true h] at c1
   rw[List.filter_cons_of_pos (by simpa using h),Δ]
   exact v5 rfl c1 (af rfl) ih
  ·rw[decide_eq_false h] at c1
   rw[List.filter_cons_of_neg (by simpa using h)]
   exact v6 rfl c1 ih
theorem ls{ν r r':Sto}{x:Str}{v:Val}{fs fs':List (Str×Val)}{fe:aD->Sto->R (Val×Sto)}{δ:aD}{n:Nat}(h1:fe δ (ν++.ins "Desk" fs::r)=R.ret (v,ν++.ins "Desk" fs::r'))(h2:δ[0]?=some (some (.h ν.length)))(h3:jO x v fs=fs')(h4:fs.length<1000):i5 "Desk" x (cO 0) fe n δ (ν++.ins "Desk" fs::r)=R.ret (.nx δ (ν++.ins "Desk" fs'::r')):=by
 rw[qX h1 (bI h2) (by rw[Ψ (ρ _),V1];rfl) h4,h3,List.set_append_right _ _ (ρ _),V1]
 rfl
theorem yB(ν:Sto):eK [.h ν.length] (ν++[.ins "Desk" []])=R.ret (.d .none,ν++[dkO (ν.length+1) (ν.length+2) (ν.length+3),.dct [],.dct (stV st0),cy []]):=by
 refine hJ (δ:=[some (.h ν.length)]) ?_
 unfold iX
 refine aP (ls (v:=.h (ν.length+1)) (fs':=[("cues",.h (ν.length+1))]) (r':=[.dct []]) (by unfold AJ;rw[ζ,Z4];rfl) rfl rfl (by decide)) ?_
 refine aP (ls (v:=.d (gP "Thousandths" [])) (fs':=[("cues",.h (ν.length+1)),("clock",.d (gP "Thousandths" []))]) (aV ao) rfl (by kernel_rfl) (show 1<1000 by decide)) ?_
 refine aP (ls (v:=.h (ν.length+2)) (fs':=[("cues",.h (ν.length+1)),("clock",.d (gP "Thousandths" [])),("settings",.h (ν.length+2))]) (r':=[.dct [],.dct (stV st0)]) (by unfold wO;rw[ζ,Z4];rfl) rfl (by kernel_rfl) (show 2<1000 by decide)) ?_
 exact ls (v:=.h (ν.length+3)) (r':=[.dct [],.dct (stV st0),cy []]) ((um (ds:=[]) rfl rfl).trans (by rw[ζ,Z4];rfl)) rfl (by kernel_rfl) (show 3<1000 by decide)
theorem jJ{μ μ':Sto}{k c a b:Nat}{X tt:D}{w:Str}{ws:List D}{v:Val}(hk:μ[k]?=some (dkO c a b))(hw:bE [X]=M.ret (.tuple [.list (.str w::ws),tt]))(hr:iM [.list (.str w::ws)]=M.ret (.bool true))(h1:oEq (.str w) (.str "show")=some (.bool false))(h2:oEq (.str w) (.str "broken")=some (.bool false))(h3:oEq (.str w) (.str "price")=some (.bool false))(h4:oEq (.str w) (.str "rows")=some (.bool false))(hc:cG [.h k,.d (.list (.str w::ws)),.d tt] μ=R.ret (v,μ')):bt [.h k,.d X] μ=R.ret (.d (.str "ok"),μ'):=by
 have w0:oIx (.list (.str w::ws)) (.int 0)=some (.str w):=gB (i:=0) rfl
 generalize Z1 (.str w::ws)=W at hw hr hc w0
 refine mw ?_
 unfold iq
 refine aP (bJ (aV (d:=.tuple [W,tt]) (az (ds:=[X]) (ac (af rfl) ak) hw))) ?_
 refine aP (bJ (aV (d:=W) (ap (x:=.tuple [W,tt]) (af rfl) ao rfl))) ?_
 refine aP (bY (b:=false) (dM (d6 (b:=true) (bv (az (ds:=[W]) (ac (af rfl) ak) hr)))) rfl) ?_
 refine aP (bY (b:=false) (dM (bv (ap (x:=.str w) (ap (x:=W) (af rfl) ao w0) ao h1))) rfl) ?_
 refine aP (bY (b:=false) (dM (bv (ap (x:=.str w) (ap (x:=W) (af rfl) ao w0) ao h2))) rfl) ?_
 refine aP (bY (b:=false) (dM (bv (ap (x:=.str w) (ap (x:=W) (af rfl) ao w0) ao h3))) rfl) ?_
 refine aP (bY (b:=false) (dM (bv (ap (x:=.str w) (ap (x:=W) (af rfl) ao w0) ao h4))) rfl) ?_
 refine aP (j3 (jh (k:=k) (bI rfl) hk (by kernel_rfl) (dn (bI rfl) (dn (aV (d:=tt) (ap (x:=.tuple [W,tt]) (af rfl) ao rfl)) gf)) hc)) ?_
 exact kZ (aV ao)
theorem fE{μ:Sto}{k:Nat}{W tt:D}{w q:Str}{b:Bool}(h:oEq (.str w) (.str q)=some (.bool b)):eN (dB (d2 oEq (ah 3) (dC (.str q)))) [some (.h k),some (.d W),some (.d tt),some (.d (.str w))] μ=R.ret (b,μ):=dM (bv (ap (x:=.str w) (af rfl) ao h))
section
variable{μ:Sto}{k c a b:Nat}{s:Set7}
theorem Dc(hk:μ[k]?=some (dkO c a b))(ha:μ[a]?=some (.dct (stV s))){i n:Nat}(hi:i<7)(h1:fI i<=(n:Int))(h2:(n:Int)<=dU i):bt [.h k,.d (tx (AI i n))] μ=R.ret (.d (.str "ok"),μ.set a (.dct (stV (kE s i (n:Int))))):=by
 have lh:=qE i
 have nl:=jb (n:=n) (by omega)
 have kl:=yx hi
 have ks:∀x∈ej i,97<=x/\x<=122:=by
  rcases lt7 hi with rfl | rfl | rfl | rfl | rfl | rfl | rfl<;>decide
 have nf:=tW n
 have hw:=wC (w:=[115,101,116]) (ws:=[ej i,nT n]) (λx hx z=>by
  simp only[Θ,Y9,or_false] at hx
  rcases hx with rfl | rfl | rfl
  ·revert z;decide
  ·have:=ks _ z;omega
  ·have:=nf _ z;omega) (λx hx z=>by
  simp only[Θ,Y9,or_false] at hx
  rcases hx with rfl | rfl | rfl
  ·revert z;decide
  ·have:=ks _ z;omega
  ·have:=nf _ z;omega) (by show 3+1+((ej i).length+1+((nT n).length+1+0))<=_;omega) (by kernel_rfl)
 rw[<-Da] at hw
 have hc:=ny hk ha hi h1 h2
 refine jJ (w:=S [115,101,116]) (ws:=[tx (ej i),tx (nT n)]) (tt:=.str "") hk hw (ju (n:=3) (by kernel_rfl) (by kernel_rfl) (by kernel_rfl) rfl) (by kernel_rfl) (by kernel_rfl) (by kernel_rfl) (by kernel_rfl) (v:=.d .none) ?_
 have w0:oIx (.list [tx [115,101,116],tx (ej i),tx (nT n)]) (.int 0)=some (.str (S [115,101,116])):=gB (i:=0) rfl
 show cG [.h k,.d (.list [tx [115,101,116],tx (ej i),tx (nT n)]),.d (.str "")] μ=_
 generalize Z1 [tx [115,101,116],tx (ej i),tx (nT n)]=W at hc w0
 refine hJ (δ:=[some (.h k),some (.d W),some (.d (.str "")),some (.d (.str (S [115,101,116])))]) ?_
 unfold di
 refine aP (bJ (aV (d:=.str (S [115,101,116])) (ap (x:=W) (af rfl) ao w0))) ?_
 refine bY (fE (b:=false) (by kernel_rfl)) ?_
 rw[if_neg Ξ]
 refine bY (fE (b:=true) (by kernel_rfl)) ?_
 rw[if_pos rfl]
 exact j3 (jh (k:=k) (bI rfl) hk (by kernel_rfl) (dn (bI rfl) gf) hc)
end
section
variable{μ:Sto}{k c a b:Nat}{s:Set7}{vs:List Int}
noncomputable def aK:Key:=.inr (S [97])
theorem tZ{f l:Nat}{ds:List D}(hc:μ[c]?=some (.dct [(aK,.h l)]))(hl:μ[l]?=some (.lst (ds.map Val.d))):lvN (f+2) μ (.h c)=some (.dict [(il aK,.list ds)]):=by
 rw[lvN]
 dsimp only
 rw[hc]
 show(gG [lvN (f+1) μ (.h l)]).map _=_
 rw[yv hl]
 rfl
theorem su{f:Nat}(hc:μ[c]?=some (.dct [])):lvN (f+1) μ (.h c)=some (.dict []):=by
 rw[lvN]
 dsimp only
 rw[hc]
 rfl
theorem sv{CD:D}(hk:μ[k]?=some (dkO c a b))(hcd:lvN 3 μ (.h c)=some CD)(ha:μ[a]?=some (.dct (stV s)))(hb:μ[b]?=some (cy vs)):lvN 4 μ (.h k)=some (dkD CD (stD s) (.list (vs.map η))):=Ed hk hcd (kP ha) (tY hb)
theorem lF:∀l:List Int,bj (l.map η)=true
 | []=>rfl
 | i::l=>by
  show(dW (.int i)&&bj (l.map η))=true
  rw[lF l]
  rfl
theorem vO(l:List Int):Ob.lst ((l.map η).map Val.d)=cy l:=by unfold cy;rw[X0];rfl
noncomputable def EK(c a b:Nat):List (Str×Val):=[("cues",.h c),("clock",.d (gP "Thousandths" [])),("settings",.h a),("cuts",.h b)]
theorem AT(c a b n:Nat):jO "cuts" (.h n) (EK c a b)=EK c a n:=by kernel_rfl
theorem wS{CD:D}(hk:μ[k]?=some (dkO c a b))(hcd:lvN 3 μ (.h c)=some CD)(ha:μ[a]?=some (.dct (stV s)))(hb:μ[b]?=some (cy vs))(hl:vs.length<=50)(t:Int):dX [.h k,.d (.int t)] μ=R.ret (.d .none,if t∈vs then μ else (μ++[cy (Z9 (vs++[t]))]).set k (dkO c a μ.length)):=by
 have lv:=sv hk hcd ha hb
 have hkl:k<μ.length:=(ω.mp hk).1
 have fld:∀{δ:aD},δ[0]?=some (some (.h k))->d1 (kM "Desk" "cuts") (ah 0) (viewN 4 μ δ)=M.ret (.list (vs.map η)):=λh=>mt (aB h lv) (uu _ _ _)
 refine hJ (δ:=[some (.h k),some (.d (.int t))]) ?_
 unfold fN
 refine bY (b:=decide (t∉vs)) (gF (bv (ap (aB rfl bU) (fld rfl) (qA vs t)))) ?_
 by_cases h:t∈vs
 ·rw[decide_eq_false (λz=>z h),if_neg Ξ,if_pos h]
  rfl
 ·rw[decide_eq_true h,if_pos rfl,if_neg h]
  refine(qX (v:=.h μ.length) (k:=k) (fs:=EK c a b) (um (ds:=(Z9 (vs++[t])).map η) (xA (is:=vs++[t]) (ac (Ci (yR (fld rfl) (Ci (dL (ac (aB rfl bU) ak) rfl)) (aW (by rw[ι];show vs.length+1<=_;omega)))) ak |>.trans (by rw[Z3];rfl)) (by rw[ζ];show vs.length+1<64;omega)) (lF _)) (bI rfl) (by rw[Z0 hkl];exact hk) (show 4<1000 by decide)).trans ?_
  rw[vO,AT]
  rfl
theorem ub{CD:D}(hk:μ[k]?=some (dkO c a b))(hcd:lvN 3 μ (.h c)=some CD)(ha:μ[a]?=some (.dct (stV s)))(hb:μ[b]?=some (cy vs))(hl:vs.length<=50)(t:Int):dg [.h k,.d (.int t)] μ=R.ret (.d .none,(μ++[cy (vs.filter λu=>decide (u≠t))]).set k (dkO c a μ.length)):=by
 have lv:=sv hk hcd ha hb
 have hkl:k<μ.length:=(ω.mp hk).1
 refine hJ (δ:=[some (.h k),some (.d (.int t))]) ?_
 unfold eI
 refine(qX (v:=.h μ.length) (k:=k) (fs:=EK c a b) (v9 (ds:=(vs.filter λu=>decide (u≠t)).map η) (eT (ds:=vs.map η) (gR (mt (aB rfl lv) (uu _ _ _)) rfl) (aW (by rw[ι];omega)) (qG t vs .un)) (lF _)) (bI rfl) (by rw[Z0 hkl];exact hk) (show 4<1000 by decide)).trans ?_
 rw[vO,AT]
 rfl
theorem sN{w:List Nat}{t:Nat}(ht:t<10 ^ 19)(hw:∀x∈w,97<=x/\x<=122)(hl:w.length<=10)(hc:oEq (tx w) (.str "cues")=some (.bool false)):bE [tx (w++[32]++tT t)]=M.ret (.tuple [.list [tx w,tx (tT t)],.str ""]):=by
 have T:=mJ ht
 have hT:=T.len
 have h:∀x∈[w,tT t],∀y∈x,46<=y:=λx hx y hy=>by
  simp only[Θ,Y9,or_false] at hx
  rcases hx with rfl | rfl
  ·have:=hw _ hy;omega
  ·exact(T.sg _ hy).1
 have:=wC (w:=w) (ws:=[tT t]) (λx hx z=>by have:=h x hx _ z;omega) (λx hx z=>by have:=h x hx _ z;omega) (by show w.length+1+((tT t).length+1+0)<=_;omega) hc
 rw[show jn 32 [w,tT t]=w++[32]++tT t by rw[lA 32 _ (by simp),Z4];rfl] at this
 exact this
theorem Dd{CD:D}(hk:μ[k]?=some (dkO c a b))(hcd:lvN 3 μ (.h c)=some CD)(ha:μ[a]?=some (.dct (stV s)))(hb:μ[b]?=some (cy vs))(hl:vs.length<=50){t:Nat}(ht:t<10 ^ 19):bt [.h k,.d (tx (cutT t))] μ=R.ret (.d (.str "ok"),if (t:Int)∈vs then μ else (μ++[cy (Z9 (vs++[(t:Int)]))]).set k (dkO c a μ.length)):=by
 have lv:=sv hk hcd ha hb
 have hc:=wS hk hcd ha hb hl (t:Int)
 have T:=mJ ht
 refine jJ (w:=S [99,117,116]) (ws:=[tx (tT t)]) (tt:=.str "") hk (sN (w:=[99,117,116]) ht (by decide) (by decide) (by kernel_rfl)) (ju (n:=2) (by kernel_rfl) (by kernel_rfl) (by kernel_rfl) rfl) (by kernel_rfl) (by kernel_rfl) (by kernel_rfl) (by kernel_rfl) (v:=.d .none) ?_
 have w0:oIx (.list [.str (S [99,117,116]),tx (tT t)]) (.int 0)=some (.str (S [99,117,116])):=gB (i:=0) rfl
 have w1:oIx (.list [.str (S [99,117,116]),tx (tT t)]) (.int 1)=some (tx (tT t)):=gB (i:=1) rfl
 generalize Z1 [.str (S [99,117,116]),tx (tT t)]=W at w0 w1
 refine hJ (δ:=[some (.h k),some (.d W),some (.d (.str "")),some (.d (.str (S [99,117,116])))]) ?_
 unfold di
 refine aP (bJ (aV (d:=.str (S [99,117,116])) (ap (x:=W) (af rfl) ao w0))) ?_
 refine bY (fE (b:=false) (by kernel_rfl)) ?_
 rw[if_neg Ξ]
 refine bY (fE (b:=false) (by kernel_rfl)) ?_
 rw[if_neg Ξ]
 refine bY (fE (b:=true) (by kernel_rfl)) ?_
 rw[if_pos rfl]
 exact j3 (jh (k:=k) (bI rfl) hk (by kernel_rfl) (dn (er (T.rd (mt (aB rfl lv) (re _ _ _)) (ac (ap (x:=W) (aB rfl bU) ao w1) ak)) rfl) gf) hc)
theorem Db{CD:D}(hk:μ[k]?=some (dkO c a b))(hcd:lvN 3 μ (.h c)=some CD)(ha:μ[a]?=some (.dct (stV s)))(hb:μ[b]?=some (cy vs))(hl:vs.length<=50){t:Nat}(ht:t<10 ^ 19):bt [.h k,.d (tx (uncT t))] μ=R.ret (.d (.str "ok"),(μ++[cy (vs.filter λu=>decide (u≠(t:Int)))]).set k (dkO c a μ.length)):=by
 have lv:=sv hk hcd ha hb
 have hc:=ub hk hcd ha hb hl (t:Int)
 have T:=mJ ht
 refine jJ (w:=S [117,110,99,117,116]) (ws:=[tx (tT t)]) (tt:=.str "") hk (sN (w:=[117,110,99,117,116]) ht (by decide) (by decide) (by kernel_rfl)) (ju (n:=2) (by kernel_rfl) (by kernel_rfl) (by kernel_rfl) rfl) (by kernel_rfl) (by kernel_rfl) (by kernel_rfl) (by kernel_rfl) (v:=.d .none) ?_
 have w0:oIx (.list [.str (S [117,110,99,117,116]),tx (tT t)]) (.int 0)=some (.str (S [117,110,99,117,116])):=gB (i:=0) rfl
 have w1:oIx (.list [.str (S [117,110,99,117,116]),tx (tT t)]) (.int 1)=some (tx (tT t)):=gB (i:=1) rfl
 generalize Z1 [.str (S [117,110,99,117,116]),tx (tT t)]=W at w0 w1
 refine hJ (δ:=[some (.h k),some (.d W),some (.d (.str "")),some (.d (.str (S [117,110,99,117,116])))]) ?_
 unfold di
 refine aP (bJ (aV (d:=.str (S [117,110,99,117,116])) (ap (x:=W) (af rfl) ao w0))) ?_
 refine bY (fE (b:=false) (by kernel_rfl)) ?_
 rw[if_neg Ξ]
 refine bY (fE (b:=false) (by kernel_rfl)) ?_
 rw[if_neg Ξ]
 refine bY (fE (b:=false) (by kernel_rfl)) ?_
 rw[if_neg Ξ]
 refine bY (fE (b:=true) (by kernel_rfl)) ?_
 rw[if_pos rfl]
 exact j3 (jh (k:=k) (bI rfl) hk (by kernel_rfl) (dn (er (T.rd (mt (aB rfl lv) (re _ _ _)) (ac (ap (x:=W) (aB rfl bU) ao w1) ak)) rfl) gf) hc)
end
section
variable{μ:Sto}{k c a b:Nat}{s:Set7}{vs:List Int}
theorem vq{h:List Nat}(hh:Hd h):iL [tx h]=M.ret (tx h):=by
 have hn:=qL hh
 refine bq ?_
 unfold jW
 refine bN (b:=false) (d6 (b:=true) (bv (az (ds:=[tx h]) (ac (af rfl) ak) hn))) rfl ?_
 exact bg (af rfl)
theorem hd_a:Hd [97]:=⟨by simp,by decide,by decide⟩
theorem vv{CE:List (Key×Val)}{CD:D}(hk:μ[k]?=some (dkO c a b))(hcd:lvN 3 μ (.h c)=some CD)(ha:μ[a]?=some (.dct (stV s)))(hb:μ[b]?=some (cy vs))(hc:μ[c]?=some (.dct CE))(hz:CE.length<1000000){cs:List Cz}(h:∀x∈cs,czOk x)(hp:cs.Pairwise (λx y=>x.b<=y.b))(hl:cs.length<=63):dA [.h k,.d (.list [tx [99,117,101,115],tx [97]]),.d (tx (jn 10 (cs.map (bS tT))))] μ=R.ret (.d .none,(μ++[Ob.lst ((cs.map cz).map Val.d)]).set c (.dct (vx CE aK (.h μ.length)))):=by
 have lv:=sv hk hcd ha hb
 have hr:=tJ nw h hp hl
 have hkl:k<μ.length:=(ω.mp hk).1
 have hcl:c<μ.length:=(ω.mp hc).1
 have w1:oIx (.list [tx [99,117,101,115],tx [97]]) (.int 1)=some (tx [97]):=gB (i:=1) rfl
 generalize Z1 [tx [99,117,101,115],tx [97]]=W at w1
 generalize tx (jn 10 (cs.map (bS tT)))=X at hr
 refine hJ (δ:=[some (.h k),some (.d W),some (.d X),some (.d (tx [97]))]) ?_
 unfold e6
 refine aP (bJ (aV (d:=tx [97]) (az (ds:=[tx [97]]) (ac (ap (x:=W) (af rfl) ao w1) ak) (vq hd_a)))) ?_
 exact pE (v:=.h μ.length) (k:=c) (y:=tx [97]) (kk:=aK) (v9 (az (ds:=[gP "Thousandths" [],X]) (ac (mt (aB rfl lv) (re _ _ _)) (ac (aB rfl bU) ak)) hr) (yM _)) (es_at (bI rfl) (by rw[Z0 hkl];exact hk) (by kernel_rfl)) (bI rfl) rfl (by rw[Z0 hcl];exact hc) hz
theorem vn{CE:List (Key×Val)}{CD:D}(hk:μ[k]?=some (dkO c a b))(hcd:lvN 3 μ (.h c)=some CD)(ha:μ[a]?=some (.dct (stV s)))(hb:μ[b]?=some (cy vs))(hc:μ[c]?=some (.dct CE))(hz:CE.length<1000000){cs:List Cz}(h:∀x∈cs,czOk x)(hp:cs.Pairwise (λx y=>x.b<=y.b))(hl:cs.length<=63):bt [.h k,.d (tx ([99,117,101,115,32]++[97]++10::jn 10 (cs.map (bS tT))))] μ=R.ret (.d (.str "ok"),(μ++[Ob.lst ((cs.map cz).map Val.d)]).set c (.dct (vx CE aK (.h μ.length)))):=by
 have hc:=vv hk hcd ha hb hc hz h hp hl
 have ht:(jn 10 (cs.map (bS tT))).length<=700000:=by
  have htot:=nN (n:=600) (ws:=cs.map (bS tT)) λw hw=>by
   obtain⟨c,hc,rfl⟩:=W6.mp hw
   exact lu nw (h c hc)
  rw[ι] at htot
  have h6:(600+1)*cs.length<=601*63:=Nat.mul_le_mul (ρ _) hl
  cases cs with
  | nil=>exact X9 _
  | cons c cs =>
   have:=mo 10 (ts:=(c::cs).map (bS tT)) (by simp)
   omega
 refine jJ (w:=S [99,117,101,115]) (ws:=[tx [97]]) (tt:=tx (jn 10 (cs.map (bS tT)))) hk (CW (n:=[97]) (by decide) (by decide) (by show 1+_<=_;omega)) (ju (n:=2) (by kernel_rfl) (by kernel_rfl) (by kernel_rfl) rfl) (by kernel_rfl) (by kernel_rfl) (by kernel_rfl) (by kernel_rfl) (v:=.d .none) ?_
 have w0:oIx (.list [tx [99,117,101,115],tx [97]]) (.int 0)=some (.str (S [99,117,101,115])):=gB (i:=0) rfl
 show cG [.h k,.d (.list [tx [99,117,101,115],tx [97]]),.d (tx (jn 10 (cs.map (bS tT))))] μ=_
 generalize Z1 [tx [99,117,101,115],tx [97]]=W at hc w0
 generalize tx (jn 10 (cs.map (bS tT)))=X at hc
 refine hJ (δ:=[some (.h k),some (.d W),some (.d X),some (.d (.str (S [99,117,101,115])))]) ?_
 unfold di
 refine aP (bJ (aV (d:=.str (S [99,117,101,115])) (ap (x:=W) (af rfl) ao w0))) ?_
 refine bY (fE (b:=false) (by kernel_rfl)) ?_
 rw[if_neg Ξ]
 refine bY (fE (b:=false) (by kernel_rfl)) ?_
 rw[if_neg Ξ]
 refine bY (fE (b:=false) (by kernel_rfl)) ?_
 rw[if_neg Ξ]
 refine bY (fE (b:=false) (by kernel_rfl)) ?_
 rw[if_neg Ξ]
 refine bY (fE (b:=true) (by kernel_rfl)) ?_
 rw[if_pos rfl]
 exact j3 (jh (k:=k) (bI rfl) hk (by kernel_rfl) (dn (bI rfl) (dn (bI rfl) gf)) hc)
theorem at_dk(x y z:D):oR "Desk" (dkD x y z)=some [.tuple [.str "cues",x],.tuple [.str "clock",gP "Thousandths" []],.tuple [.str "settings",y],.tuple [.str "cuts",z]]:=by kernel_rfl
theorem xH(L SD TD:D):eE [dkD (.dict [(il aK,L)]) SD TD,tx [97]]=M.ret L:=by
 refine bq ?_
 unfold fO
 refine bN (b:=false) (bv (ap (x:=tx [97]) (af rfl) (mt (x:=dkD (.dict [(il aK,L)]) SD TD) (af rfl) (yY _ _ _)) (by kernel_rfl))) rfl ?_
 exact bg (ap (x:=.dict [(il aK,L)]) (y:=tx [97]) (mt (x:=dkD (.dict [(il aK,L)]) SD TD) (af rfl) (yY _ _ _)) (af rfl) (by kernel_rfl))
theorem qT(s:Set7)(ts:List Int)(cs:List Cu):dW (ma s ts cs)=true:=by
 unfold ma wA
 split<;>rfl
noncomputable def brT:List Nat:=[98,114,111,107,101,110,32,97]
theorem qb{l:Nat}{cs:List Cz}(hk:μ[k]?=some (dkO c a b))(hc:μ[c]?=some (.dct [(aK,.h l)]))(hll:μ[l]?=some (.lst ((cs.map cz).map Val.d)))(ha:μ[a]?=some (.dct (stV s)))(hb:μ[b]?=some (cy vs))(hv:vs.length<=50)(h:∀x∈cs,czOk x)(hl:cs.length<=8):bt [.h k,.d (tx brT)] μ=R.ret (.d (ma s vs (cs.map pN)),μ):=by
 have lv:=sv hk (tZ hc hll) ha hb
 have hy:=CZ s (ts:=vs) (cs:=cs.map pN) (.dict [(il aK,.list (cs.map cz))]) (λx hx=>by
  obtain⟨y,hy,rfl⟩:=W6.mp hx
  exact xY (h y hy)) (by rw[ι];exact hl) hv
 rw[CF] at hy
 have hcb:=xH (.list (cs.map cz)) (stD s) (.list (vs.map η))
 generalize Z1 (cs.map cz)=L at lv hy hcb
 have ht:=at_dk (.dict [(il aK,L)]) (stD s) (.list (vs.map η))
 generalize dkD (.dict [(il aK,L)]) (stD s) (.list (vs.map η))=DK at lv hy hcb ht
 have hw:bE [tx brT]=M.ret (.tuple [.list [tx [98,114,111,107,101,110],tx [97]],.str ""]):=wC (w:=[98,114,111,107,101,110]) (ws:=[[97]]) (by decide) (by decide) (by decide) (by kernel_rfl)
 have hr:iM [.list [tx [98,114,111,107,101,110],tx [97]]]=M.ret (.bool true):=ju (n:=2) (by kernel_rfl) (by kernel_rfl) (by kernel_rfl) rfl
 have w0:oIx (.list [tx [98,114,111,107,101,110],tx [97]]) (.int 0)=some (tx [98,114,111,107,101,110]):=gB (i:=0) rfl
 have w1:oIx (.list [tx [98,114,111,107,101,110],tx [97]]) (.int 1)=some (tx [97]):=gB (i:=1) rfl
 generalize Z1 [tx [98,114,111,107,101,110],tx [97]]=W at hw hr w0 w1
 refine mw ?_
 unfold iq
 refine aP (bJ (aV (d:=.tuple [W,.str ""]) (az (ds:=[tx brT]) (ac (af rfl) ak) hw))) ?_
 refine aP (bJ (aV (d:=W) (ap (x:=.tuple [W,.str ""]) (af rfl) ao rfl))) ?_
 refine aP (bY (b:=false) (dM (d6 (b:=true) (bv (az (ds:=[W]) (ac (af rfl) ak) hr)))) rfl) ?_
 refine aP (bY (b:=false) (dM (bv (ap (x:=tx [98,114,111,107,101,110]) (ap (x:=W) (af rfl) ao w0) ao (by kernel_rfl)))) rfl) ?_
 refine pF (bY (b:=true) (dM (bv (ap (x:=tx [98,114,111,107,101,110]) (ap (x:=W) (af rfl) ao w0) ao (by kernel_rfl)))) ?_)
 rw[if_pos rfl]
 refine kZ (er ?_ (qT _ _ _))
 refine Cj (x:=DK) (ds:=[L]) (aB rfl lv) ht (by kernel_rfl) (ac (Cj (x:=DK) (ds:=[tx [97]]) (aB rfl lv) ht (by kernel_rfl) (ac (ap (x:=W) (aB rfl bU) ao w1) ak) hcb) ak) hy
end
theorem zl(us:List Int)(t:Int):Z9 (Z9 us++[t])=Z9 (us++[t]):=PySem.W.eq_sortI ((U1 _).trans ((U1 us).append_right [t])) (PySem.W.sortI_rises _)
theorem zm{us:List Int}(hn:us.Nodup)(t:Int):((Z9 us).filter λu=>decide (u≠t))=Z9 (us.erase t):=by
 refine PySem.W.eq_sortI ?_ ((PySem.W.sortI_rises us).filter _)
 rw[hn.erase_eq_filter]
 have:=(U1 us).filter λu=>decide (u≠t)
 refine this.trans (List.Perm.of_eq ?_)
 congr 1
 funext u
 by_cases h:u=t<;>simp [h]
theorem va{us:List Int}{t:Int}:t∈Z9 us↔t∈us:=(U1 us).mem_iff
theorem kD(us:List Int):(Z9 us).length=us.length:=(U1 us).length_eq
theorem Br{us:List Int}(h:us.length<64):jQ [.list (us.map η)]=some (.list ((Z9 us).map η)):=by
 show(match gO (us.map η) with | some is=>if is.length<64 then some (Z1 ((Z9 is).map η)) else none | none=>none)=_
 rw[kS]
 dsimp only
 rw[if_pos h]
noncomputable def jc:List (List Nat)->List Nat
 | []=>[]
 | [a]=>a
 | a::b::r=>a++44::32::jc (b::r)
theorem yy:∀ts:List (List Nat),(S [44,32]).join (ts.map S)=S (jc ts)
 | []=>rfl
 | [a]=>rfl
 | a::b::r=>by
  have ih:=yy (b::r)
  show S a++S [44,32]++(S [44,32]).join ((b::r).map S)=_
  rw[ih,wB,wB,Z4]
  rfl
theorem jc_lt:∀{ts:List (List Nat)},(∀w∈ts,∀c∈w,c<128)->∀c∈jc ts,c<128
 | [],_,c,h=>nomatch h
 | [a],h,c,hc=>h a υ c hc
 | a::b::r,h,c,hc=>by
  rcases Φ.mp hc with hc | hc
  ·exact h a υ c hc
  ·rcases Θ.mp hc with rfl | hc
   ·decide
   ·rcases Θ.mp hc with rfl | hc
    ·decide
    ·exact jc_lt (λw hw=>h w (χ _ hw)) c hc
theorem ET{W:List (List Nat)}(h:∀w∈W,wOk 60 w):(wA W).canLay0=true/\(wA W).depth<=60:=by
 unfold wA
 split
 ·exact⟨by kernel_rfl,by decide⟩
 ·rw[show Str.ofString ", " = S [44,32] by kernel_rfl,show Txt.join (S [44,32]) (W.map S)=S (jc W) from(StrLaws.glued_eq_join _ _).trans (yy W)]
  have:V0 (S (jc W))=true:=tR λc hc=>by
   have:=jc_lt (λw hw c hc=>(h w hw).2 c hc) c hc
   omega
  exact⟨by simp [W7,this],by simp [PyData.depth]⟩
section
variable{cs:List Cz}
theorem cu_ok(h:∀x∈cs,czOk x):∀c∈cs.map pN,uC c/\hOk c:=λx hx=>by
 obtain⟨y,hy,rfl⟩:=W6.mp hx
 exact xY (h y hy)
theorem CN(s:Set7){us:List Int}(h:∀x∈cs,czOk x)(hp:cs.Pairwise (λx y=>x.b<=y.b))(hl:cs.length<=8)(hu:us.length<=40):dl [stD s,.list (cs.map cz),.list (us.map η)]=M.ret (ma s (Z9 us) (cs.map pN))/\(ma s (Z9 us) (cs.map pN)).canLay0=true/\(ma s (Z9 us) (cs.map pN)).depth<=60:=by
 have h1:=xl s (cu_ok h) (by rw[ι];exact hl) (.list (us.map η)) (ts:=Z9 us) (by rw[kD];omega) (Br (by omega))
 have h2:=EH s (Z9 us) (cs:=cs.map pN) (λx hx=>by
  obtain⟨y,hy,rfl⟩:=W6.mp hx
  show(0:Int)<=(y.b:Int)
  omega) (List.pairwise_map.mpr (hp.imp λ{x y} h=>(by show(x.b:Int)<=(y.b:Int);omega)))
 have h3:=ET (up s (ts:=Z9 us) (by rw[kD];omega) (cs.map pN) 0 (by rw[ι];omega)).1
 rw[CF,h2] at h1
 rw[h2] at h3
 exact⟨h1,h3⟩
end
structure LI(μ:Sto)(s:Set7)(us:List Int)(cs:List Cz)(b:Nat):Prop where
 h0:μ[0]?=some (.dct (stV s))
 h1:μ[1]?=some (cy us)
 h2:μ[2]?=some (dkO 3 4 b)
 h3:μ[3]?=some (.dct [(aK,.h 6)])
 h4:μ[4]?=some (.dct (stV s))
 h6:μ[6]?=some (.lst ((cs.map cz).map Val.d))
 hb:μ[b]?=some (cy (Z9 us))
 b5:b=5\/7<=b
 ok:AE s
 nd:us.Nodup
 bd:∀t∈us,0<=t/\t<10 ^ 19
theorem bM{μ:Sto}{i:Nat}{o o':Ob}(h:μ[i]?=some o):(μ.set i o')[i]?=some o':=V5 (ω.mp h).1
theorem bo{μ:Sto}{i j:Nat}{o o':Ob}(hij:i≠j)(h:μ[j]?=some o):(μ.set i o')[j]?=some o:=by rw[List.getElem?_set_ne hij];exact h
theorem eG{μ:Sto}{i:Nat}{o o':Ob}(h:μ[i]?=some o):(μ++[o'])[i]?=some o:=by rw[Z0 (ω.mp h).1];exact h
theorem qS(μ:Sto)(o:Ob):(μ++[o])[μ.length]?=some o:=by rw[Ψ (ρ _),V1];rfl
theorem AO{μ:Sto}{s:Set7}{us:List Int}{cs:List Cz}{b:Nat}(I:LI μ s us cs b)(hcs:∀c∈cs,czOk c/\c.e<10 ^ 18)(hne:cs≠[])(hcl:cs.length<=8)(hul:us.length<=30)(m:Int):∃(X:D) (μ1 μ2:Sto) (s':Set7) (us':List Int) (b':Nat),df [.h 0,.h 1,.d (.list (cs.map cz)),.d (.int m)] μ=R.ret (.d X,μ1)/\(∃b1,μ1[2]?=some (dkO 3 4 b1))/\bt [.h 2,.d X] μ1=R.ret (.d (.str "ok"),μ2)/\LI μ2 s' us' cs b'/\us'.length<=us.length+1:=by
 have b2:=I.b5
 by_cases hm:m % 2=0
 ·obtain⟨i,n,hi,l1,l2,e⟩:=Dh (b:=1) I.h0 (.list (cs.map cz)) hm
  have k2:=bo (o':=.dct (stV (kE s i (n:Int)))) (i:=0) (by decide) I.h2
  have k4:=bo (o':=.dct (stV (kE s i (n:Int)))) (i:=0) (by decide) I.h4
  refine⟨_,_,_,kE s i (n:Int),us,b,e,⟨b,k2⟩,Dc k2 k4 hi l1 l2,⟨?_,?_,?_,?_,?_,?_,?_,I.b5,AD I.ok hi l1 l2,I.nd,I.bd⟩,U4 _⟩
  ·exact bo (by decide) (bM I.h0)
  ·exact bo (by decide) (bo (by decide) I.h1)
  ·exact bo (by decide) k2
  ·exact bo (by decide) (bo (by decide) I.h3)
  ·exact bM k4
  ·exact bo (by decide) (bo (by decide) I.h6)
  ·exact bo (by omega) (bo (by omega) I.hb)
 ·obtain⟨t,ht,e⟩:=Di I.h0 I.h1 (by decide) I.ok I.bd (by omega) (λc hc=>(hcs c hc).1) (λc hc=>(hcs c hc).2) hne hcl hm
  have hlen:7<=μ.length:=(ω.mp I.h6).1
  rcases e with e | e
  ·have k2:=bo (o':=cy (us.erase (t:Int))) (i:=1) (by decide) I.h2
   have k3:=bo (o':=cy (us.erase (t:Int))) (i:=1) (by decide) I.h3
   have k4:=bo (o':=cy (us.erase (t:Int))) (i:=1) (by decide) I.h4
   have k6:=bo (o':=cy (us.erase (t:Int))) (i:=1) (by decide) I.h6
   have kb:=bo (o':=cy (us.erase (t:Int))) (i:=1) (by omega) I.hb
   have sy:=Db k2 (tZ k3 k6) k4 kb (by rw[kD];omega) ht
   refine⟨_,_,_,s,us.erase (t:Int),(μ.set 1 (cy (us.erase (t:Int)))).length,e,⟨b,k2⟩,sy,⟨?_,?_,?_,?_,?_,?_,?_,.inr (by rw[Y5];exact hlen),I.ok,I.nd.erase _,λu hu=>I.bd u (List.mem_of_mem_erase hu)⟩,by have:=List.length_erase_le (a:=(t:Int)) (l:=us);omega⟩
   ·exact bo (by decide) (eG (bo (by decide) I.h0))
   ·exact bo (by decide) (eG (bM I.h1))
   ·exact bM (eG k2)
   ·exact bo (by decide) (eG k3)
   ·exact bo (by decide) (eG k4)
   ·exact bo (by decide) (eG k6)
   ·rw[zm I.nd]
    exact bo (by rw[Y5];omega) (qS _ _)
  ·have k2:=bo (o':=cy (if (t:Int)∈us then us else us++[(t:Int)])) (i:=1) (by decide) I.h2
   have k3:=bo (o':=cy (if (t:Int)∈us then us else us++[(t:Int)])) (i:=1) (by decide) I.h3
   have k4:=bo (o':=cy (if (t:Int)∈us then us else us++[(t:Int)])) (i:=1) (by decide) I.h4
   have k6:=bo (o':=cy (if (t:Int)∈us then us else us++[(t:Int)])) (i:=1) (by decide) I.h6
   have kb:=bo (o':=cy (if (t:Int)∈us then us else us++[(t:Int)])) (i:=1) (by omega) I.hb
   have sy:=Dd k2 (tZ k3 k6) k4 kb (by rw[kD];omega) ht
   by_cases hu:(t:Int)∈us
   ·rw[if_pos (va.mpr hu)] at sy
    rw[if_pos hu,mN I.h1] at e sy
    rw[if_pos hu,mN I.h1] at k2
    exact⟨_,_,_,s,us,b,e,⟨b,k2⟩,sy,I,U4 _⟩
   ·rw[if_neg (λz=>hu (va.mp z))] at sy
    rw[if_neg hu] at e sy k2 k3 k4 k6 kb
    refine⟨_,_,_,s,us++[(t:Int)],(μ.set 1 (cy (us++[(t:Int)]))).length,e,⟨b,k2⟩,sy,⟨?_,?_,?_,?_,?_,?_,?_,.inr (by rw[Y5];exact hlen),I.ok,?_,?_⟩,by rw[ζ];exact ρ _⟩
    ·exact bo (by decide) (eG (bo (by decide) I.h0))
    ·exact bo (by decide) (eG (bM I.h1))
    ·exact bM (eG k2)
    ·exact bo (by decide) (eG k3)
    ·exact bo (by decide) (eG k4)
    ·exact bo (by decide) (eG k6)
    ·rw[zl]
     exact bo (by rw[Y5];omega) (qS _ _)
    ·rw[List.nodup_append]
     refine⟨I.nd,by simp,λx hx y hy z=>hu ?_⟩
     rw[Ω.mp hy] at z
     rw[<-z]
     exact hx
    ·intro u hu
     rcases Φ.mp hu with hu | hu
     ·exact I.bd u hu
     ·rw[Ω.mp hu]
      omega
theorem rC(ns:List Int)(k:Int)(k0:0<=k):∃c,cF [.list (ns.map η),.int k]=M.ret (.int c):=by
 by_cases h:k.toNat<ns.length
 ·refine⟨ns[k.toNat],bq ?_⟩
  unfold el
  refine kU (b:=true) (bv (ap (af rfl) (br (ac (af rfl) ak) mj) (by rw[qy,ι,decide_eq_true (by omega)]))) (kg rfl (pB (bg (ap (af rfl) (af rfl) (xo k0 ?_)))))
  rw[Z6,Y1 h]
  rfl
 ·refine⟨0,bq ?_⟩
  unfold el
  exact kU (b:=false) (bv (ap (af rfl) (br (ac (af rfl) ak) mj) (by rw[qy,ι,decide_eq_false (by omega)]))) (sB rfl (uk (bg ao)))
theorem es_or{fa fb:aD->Sto->R (Bool×Sto)}{δ:aD}{μ μ1:Sto}{r:R (Bool×Sto)}(h1:fa δ μ=R.ret (false,μ1))(h2:fb δ μ1=r):sOr fa fb δ μ=r:=by
 unfold sOr
 rw[h1,ck,if_neg Ξ]
 exact h2
theorem LI.mono{μ ν:Sto}{s:Set7}{us:List Int}{cs:List Cz}{b:Nat}(I:LI μ s us cs b)(h:∀(i:Nat) (o:Ob),μ[i]?=some o->ν[i]?=some o):LI ν s us cs b:=⟨h _ _ I.h0,h _ _ I.h1,h _ _ I.h2,h _ _ I.h3,h _ _ I.h4,h _ _ I.h6,h _ _ I.hb,I.b5,I.ok,I.nd,I.bd⟩
theorem BB:oNe (.str "ok") (.str "ok")=some (.bool false):=by kernel_rfl
theorem mG{μ:Sto}{s:Set7}{us:List Int}{cs:List Cz}{b:Nat}(I:LI μ s us cs b)(hcs:∀c∈cs,czOk c/\c.e<10 ^ 18)(hp:cs.Pairwise (λx y=>x.b<=y.b))(hcl:cs.length<=8)(hul:us.length<=40){δ:aD}(d2':δ[2]?=some (some (.d (.list (cs.map cz)))))(d3:δ[3]?=some (some (.h 0)))(d4:δ[4]?=some (some (.h 1)))(d5:δ[5]?=some (some (.h 2))):sBl (o2 oNe (lU "Desk" "say" bt (cO 5) (eg (bR (dC (.str "broken a"))) jL)) (fj (aH (λds=>noX (dl ds)) (ag (ah 3) (ag (ah 2) (ag (ah 4) ar)))))) δ μ=R.ret (false,μ):=by
 have hok:∀x∈cs,czOk x:=λc hc=>(hcs c hc).1
 obtain⟨a1,a2,a3⟩:=CN s (us:=us) hok hp hcl hul
 exact yS (qY (jh (k:=2) (bI d5) I.h2 (by kernel_rfl) (dn (aV (ao (d:=tx brT))) gf) (qb I.h2 I.h3 I.h6 I.h4 I.hb (by rw[kD];omega) hok hcl)) (er (az (ds:=[stD s,.list (cs.map cz),.list (us.map η)]) (ac (aB d3 (kP I.h0)) (ac (aB d2' bU) (ac (aB d4 (tY I.h1)) ak))) a1) (qT _ _ _)) rfl rfl (BA a2 a3) rfl)
theorem sd{cs:List Cz}(hcs:∀c∈cs,czOk c/\c.e<10 ^ 18)(hp:cs.Pairwise (λx y=>x.b<=y.b))(hne:cs≠[])(hcl:cs.length<=8)(SC MA:D):∀(ms:List Int) (μ:Sto) (s:Set7) (us:List Int) (b:Nat) (x6:Option Val),LI μ s us cs b->us.length+ms.length<=30->∃(μ':Sto) (s':Set7) (us':List Int) (b':Nat) (y6:Option Val),vW (agN 6) (lR 0) (ms.map η) [some (.d SC),some (.d MA),some (.d (.list (cs.map cz))),some (.h 0),some (.h 1),some (.h 2),x6,none] μ=R.ret (.nx [some (.d SC),some (.d MA),some (.d (.list (cs.map cz))),some (.h 0),some (.h 1),some (.h 2),y6,none] μ')/\LI μ' s' us' cs b'/\us'.length<=30
 | [],μ,s,us,b,x6,I,hl=>⟨μ,s,us,b,x6,rfl,I,by omega⟩
 | m::ms,μ,s,us,b,x6,I,hl=>by
  rw[θ] at hl
  obtain⟨X,μ1,μ2,s1,us1,b1,e1,⟨b0,k2⟩,e2,I1,l1⟩:=AO I hcs hne hcl (by omega) m
  obtain⟨μ',s',us',b',y6,eL,I',l'⟩:=sd hcs hp hne hcl SC MA ms μ2 s1 us1 b1 (some (.d (.int m))) I1 (by omega)
  refine⟨μ',s',us',b',y6,?_,I',l'⟩
  have body:lR 0 [some (.d SC),some (.d MA),some (.d (.list (cs.map cz))),some (.h 0),some (.h 1),some (.h 2),some (.d (.int m)),none] μ=R.ret (.nx [some (.d SC),some (.d MA),some (.d (.list (cs.map cz))),some (.h 0),some (.h 1),some (.h 2),some (.d (.int m)),none] μ2):=by
   unfold lR
   refine aP (bY (b:=false) (yS (qY (jh (k:=2) (bI rfl) I.h2 (by kernel_rfl) (dn (EF (dn (bI rfl) (dn (bI rfl) (dn (bI rfl) (dn (bI rfl) gf)))) e1) gf) e2) (aV ao) rfl rfl BB rfl)) rfl) ?_
   exact bY (b:=false) (mG I1 hcs hp hcl (by omega) rfl rfl rfl rfl) rfl
  rw[Δ]
  show(lR 0 [some (.d SC),some (.d MA),some (.d (.list (cs.map cz))),some (.h 0),some (.h 1),some (.h 2),some (.d (.int m)),none] μ).thn _=_
  rw[body]
  exact eL
theorem rB(ns:List Int):∀(ks:List Nat) (x:Sl),(∀k∈ks,k<100)->∃ms:List Int,ms.length=ks.length/\fA (tgN 0) (nX lW) (nX (d2 bm (aH (λds=>noX (cF ds)) (ag (ah 1) (ag (d2 bm (dC (.int 1)) (ah 0)) ar))) (d2 kn (dC (.int 977)) (ah 0)))) (ks.map λi:Nat=>η (0+(i:Int))) [x,.vl (.list (ns.map η))]=M.ret (ms.map η)
 | [],x,_=>⟨[],rfl,rfl⟩
 | k::ks,x,hk=>by
  obtain⟨ms,h1,h2⟩:=rB ns ks (.vl (.int (0+(k:Int)))) λj hj=>hk j (χ _ hj)
  have hk0:=hk k υ
  obtain⟨c,hc⟩:=rC ns (1+(0+(k:Int))) (by omega)
  refine⟨(c+977*(0+(k:Int)))::ms,by rw[θ,θ,h1],?_⟩
  rw[Δ,Δ]
  exact eo (δ':=[.vl (.int (0+(k:Int))),.vl (.list (ns.map η))]) rfl (ap (az (ds:=[.list (ns.map η),.int (1+(0+(k:Int)))]) (ac (af rfl) (ac (ap ao (af rfl) cr) ak)) hc) (ap ao (af rfl) (oE (by unfold CL;simp))) cr) h2
theorem EQ(ns:List Int)(lo hi:Option Int):ox (ns.map η) lo hi=(ox ns lo hi).map η:=by
 unfold ox
 rw[ι,List.map_take,List.map_drop]
theorem cut12(ns:List Int):(ox ns (some 5) (some 17)).length<=12:=by
 unfold ox
 rw[List.length_take]
 have h1:HT.sIx ns.length 0 (some 5)=min 5 ns.length:=HT.yg ns.length 0 5
 have h2:HT.sIx ns.length ns.length (some 17)=min 17 ns.length:=HT.yg ns.length ns.length 17
 rw[h1,h2]
 omega
theorem uS{cs:List Cz}(hok:∀c∈cs,czOk c)(hl:cs.length<=8){δ:aD}{μ:Sto}(d2':δ[2]?=some (some (.d (.list (cs.map cz))))):bR (d2 bm (dC (.str "cues a\n")) (aH (λds=>noX (eD ds)) (ag (ah 2) ar))) δ μ=R.ret (.d (tx ([99,117,101,115,32]++[97]++10::jn 10 (cs.map (bS tT)))),μ):=by
 have ht:(jn 10 (cs.map (bS tT))).length<=700000:=by
  have htot:=nN (n:=600) (ws:=cs.map (bS tT)) λw hw=>by
   obtain⟨c,hc,rfl⟩:=W6.mp hw
   exact lu nw (hok c hc)
  rw[ι] at htot
  have h6:(600+1)*cs.length<=601*63:=Nat.mul_le_mul (ρ _) (by omega)
  cases cs with
  | nil=>exact X9 _
  | cons c cs =>
   have:=mo 10 (ts:=(c::cs).map (bS tT)) (by simp)
   omega
 refine aV (ap (x:=tx [99,117,101,115,32,97,10]) (ao (d:=tx [99,117,101,115,32,97,10])) (az (ds:=[.list (cs.map cz)]) (ac (af (by unfold view;rw[Z6,d2'];rfl)) ak) (vP hok (by omega))) ?_)
 exact jC (by show 7+_<=_;omega)
theorem uY(δ:aD)(μ:Sto):r8 (eO (dC (.str "sign")) (dC (.int 60)) (eO (dC (.str "least")) (dC (.int 1000)) (eO (dC (.str "most")) (dC (.int 7000)) (eO (dC (.str "apart")) (dC (.int 80)) (eO (dC (.str "shy")) (dC (.int 200)) (eO (dC (.str "begin")) (dC (.int 2)) (eO (dC (.str "end")) (dC (.int 1)) DN))))))) δ μ=R.ret (.h μ.length,μ++[.dct (stV st0)]):=by
 refine(EE (es:=stE st0) rfl (by decide) rfl).trans ?_
 rw[show(jR [] (stE st0)).map (λe=>(e.1,Val.d e.2))=stV st0 by kernel_rfl]
theorem at_new(μ r:Sto)(j:Nat):(μ++r)[μ.length+j]?=r[j]?:=by rw[Ψ (by omega),V4]
theorem BP(ns:List Int)(hl:ns.length<=63):zd [.list (ns.map η)]=M.ret (.bool true):=by
 obtain⟨c0,hc0⟩:=rC ns 0 (by decide)
 obtain⟨n,hn,hn4⟩:∃n:Nat,1+c0 % 4=(n:Int)/\1<=n/\n<=4:=⟨(1+c0 % 4).toNat,by omega,by omega,by omega⟩
 obtain⟨ms,m1,m2⟩:=rB ns (List.range n) .un λk hk=>by have:=List.mem_range.mp hk;omega
 rw[List.length_range] at m1
 obtain⟨cs,k1,hcs,hp,k4⟩:=vR ms (by omega)
 have hne:cs≠[]:=by
  intro z
  rw[z] at k1
  have:ms.length=0:=k1.symm
  omega
 have hcl:cs.length<=8:=by omega
 have hok:∀c∈cs,czOk c:=λc hc=>(hcs c hc).1
 have hr:zu [.int (n:Int)]=some (fD 0 n):=by
  show(if b62 (n:Int)=true then some (fD 0 (n:Int).toNat) else none)=_
  rw[if_pos (by unfold b62;simp;omega),W3]
 have hcut:Bx (some 5) (some 17) (.list (ns.map η))=some (.list ((ox ns (some 5) (some 17)).map η)):=by
  show some (Z1 (ox (ns.map η) (some 5) (some 17)))=_
  rw[EQ]
 have h12:=cut12 ns
 have I0:LI [.dct (stV st0),cy [],dkO 3 4 5,.dct [(aK,.h 6)],.dct (stV st0),cy [],.lst ((cs.map cz).map Val.d)] st0 [] cs 5:=⟨rfl,rfl,rfl,rfl,rfl,rfl,rfl,.inl rfl,st0_ok,List.nodup_nil,λt h=>nomatch h⟩
 generalize hNS:Z1 (ns.map η)=NS at hc0 hcut ⊢
 rw[show [Sl.vl (Z1 (ns.map η))]=[Sl.vl NS] by rw[hNS]] at m2
 generalize ox ns (some 5) (some 17)=cells at hcut h12
 obtain⟨μ,s,us,b,y6,eL,I,hul⟩:=sd hcs hp hne hcl NS (.int (n:Int)) cells _ st0 [] 5 none I0 (by show 0+_<=_;omega)
 have main:∃μ',uK [.d NS] []=R.ret (.d (.bool true),μ'):=by
  refine⟨(μ++[dkO (μ.length+1) (μ.length+2) (μ.length+3),.dct [(aK,.h (μ.length+4))],.dct (stV st0),cy [],.lst ((cs.map cz).map Val.d)])++[.dct (stV st0)],mw ?_⟩
  unfold yF
  refine aP (bJ (aV (d:=.int (n:Int)) (ap ao (ap (az (ds:=[NS,.int 0]) (ac (af rfl) (ac ao ak)) hc0) ao (cw (by decide))) (by rw[cr,hn])))) ?_
  refine aP (bJ (aV (d:=.list (cs.map cz)) (az (ds:=[.list (ms.map η)]) (ac (eT (ds:=fD 0 n) (pC (ac (af rfl) ak) hr) (aW (by unfold fD;rw[ι,List.length_range];omega)) m2) ak) k4))) ?_
  refine aP (bJ (uY _ _)) ?_
  refine aP (bJ (um (ds:=[]) rfl rfl)) ?_
  refine aP (bJ (es_mk gf (yB [.dct (stV st0),cy []]))) ?_
  refine aP (μ':=[.dct (stV st0),cy [],dkO 3 4 5,.dct [(aK,.h 6)],.dct (stV st0),cy [],.lst ((cs.map cz).map Val.d)]) (bY (b:=false) (Eq.trans (b:=R.ret (false,[.dct (stV st0),cy [],dkO 3 4 5,.dct [(aK,.h 6)],.dct (stV st0),cy [],.lst ((cs.map cz).map Val.d)])) ?_ rfl) rfl) ?_
  ·refine es_or (yS (qY (jh (k:=2) (bI rfl) rfl (by kernel_rfl) (dn (uS hok hcl rfl) gf) (vn (c:=3) (a:=4) (b:=5) (vs:=[]) (s:=st0) (CE:=[]) rfl (su rfl) rfl rfl rfl (by decide) hok hp (by omega))) (aV ao) rfl rfl BB rfl)) ?_
   exact mG I0 hcs hp hcl (by decide) rfl rfl rfl rfl
  refine aP (es_for (ds:=cells.map η) (gR (x:=.list (cells.map η)) (pD (af rfl) (lG ao) (lG ao) hcut) rfl) eL) ?_
  refine aP (bJ (es_mk gf (yB μ))) ?_
  have I1:LI (μ++[dkO (μ.length+1) (μ.length+2) (μ.length+3),.dct [(aK,.h (μ.length+4))],.dct (stV st0),cy [],.lst ((cs.map cz).map Val.d)]) s us cs b:=I.mono λi o h=>by
   rw[Z0 (ω.mp h).1]
   exact h
  refine aP (bY (b:=false) (es_or (yS (qY (jh (k:=μ.length) (bI rfl) (at_new μ _ 0) (by kernel_rfl) (dn (uS hok hcl rfl) gf) ((vn (c:=μ.length+1) (a:=μ.length+2) (b:=μ.length+3) (vs:=[]) (s:=st0) (CE:=[]) (at_new μ _ 0) (su (at_new μ _ 1)) (at_new μ _ 2) (at_new μ _ 3) (at_new μ _ 1) (by decide) hok hp (by omega)).trans (by rw[ζ,Z4,List.set_append_right _ _ (Nat.le_add_right _ _),V4];rfl))) (aV ao) rfl rfl BB rfl)) (mG I1 hcs hp hcl (by omega) rfl rfl rfl rfl)) rfl) ?_
  refine aP (bJ (uY _ _)) ?_
  generalize hq:μ++[dkO (μ.length+1) (μ.length+2) (μ.length+3),.dct [(aK,.h (μ.length+4))],.dct (stV st0),cy [],.lst ((cs.map cz).map Val.d)]=ν at I1 ⊢
  have q:∀(j:Nat) (o:Ob),[dkO (μ.length+1) (μ.length+2) (μ.length+3),.dct [(aK,.h (μ.length+4))],.dct (stV st0),cy [],.lst ((cs.map cz).map Val.d)][j]?=some o->(ν++[Ob.dct (stV st0)])[μ.length+j]?=some o:=λj o h=>eG (by rw[<-hq,at_new];exact h)
  obtain⟨a1,a2,a3⟩:=CN st0 (us:=[]) hok hp hcl (by decide)
  exact kZ (qY (jh (k:=μ.length) (bI rfl) (q 0 _ rfl) (by kernel_rfl) (dn (aV (ao (d:=tx brT))) gf) (qb (vs:=[]) (s:=st0) (q 0 _ rfl) (q 1 _ rfl) (q 4 _ rfl) (q 2 _ rfl) (q 3 _ rfl) (by decide) hok hcl)) (er (az (ds:=[stD st0,.list (cs.map cz),.list []]) (ac (aB rfl (kP (qS ν _))) (ac (aB rfl bU) (ac (d7 ak rfl) ak))) a1) (qT _ _ _)) rfl rfl (Cr a2 a3) rfl)
 obtain⟨μ',main⟩:=main
 show asD uK [NS]=_
 unfold asD
 show(match uK [.d NS] [] with | some (.ok (.d x,_))=>M.ret x | _=>none)=_
 rw[main]
 rfl
open PyProof.Rows
noncomputable def top(i:Nat):Stmt:=PySem.Challenge.pw_cuetimer_k62_settings_and_cuts.main.body.getD i (.Pass ⟨0,0,0,0⟩)
noncomputable def mth(s:Stmt)(i:Nat):Stmt:=match s with
 | .ClassDef _ _ _ b _ _ _ _ _ _ _=>b.getD i (.Pass ⟨0,0,0,0⟩)
 | s=>s
theorem lV{P:Program}{w:World}{K:ε}{a:Addr}{t0 u0 t1 u1 t2 u2 t3 u3 t4 u4 t5 u5 t6 u6:Tok}{ep:Nat}(hl:X7 a K=some { cls:=.type "dict",data:=.dict #[⟨Z2 w.params "sign",.str "sign" t0,.int 60 u0⟩,⟨Z2 w.params "least",.str "least" t1,.int 1000 u1⟩,⟨Z2 w.params "most",.str "most" t2,.int 7000 u2⟩,⟨Z2 w.params "apart",.str "apart" t3,.int 80 u3⟩,⟨Z2 w.params "shy",.str "shy" t4,.int 200 u4⟩,⟨Z2 w.params "begin",.str "begin" t5,.int 2 u5⟩,⟨Z2 w.params "end",.str "end" t6,.int 1 u6⟩] ep })(hd:(a==sysModules)=false):KDD P w K a ed:=DL.vT (l:=[("sign",t0,60,u0),("least",t1,1000,u1),("most",t2,7000,u2),("apart",t3,80,u3),("shy",t4,200,u4),("begin",t5,2,u5),("end",t6,1,u6)]) hl hd (show(["sign", "least", "most", "apart", "shy", "begin", "end"]:List Str).Nodup from by decide +kernel) (Nat.le_of_ble_eq_true rfl) rfl
theorem rQ{P:Program}{w:World}{K:ε}{a:Addr}{t0 u0 t1 u1 t2 u2 t3 u3 t4 u4 t5 u5 t6 u6 t7 u7 t8 u8 t9 u9 t10 u10 t11 u11 t12 u12:Tok}{ep:Nat}(hl:X7 a K=some { cls:=.type "dict",data:=.dict #[⟨Z2 w.params "set",.str "set" t0,.int 3 u0⟩,⟨Z2 w.params "cut",.str "cut" t1,.int 2 u1⟩,⟨Z2 w.params "uncut",.str "uncut" t2,.int 2 u2⟩,⟨Z2 w.params "cues",.str "cues" t3,.int 2 u3⟩,⟨Z2 w.params "drop",.str "drop" t4,.int 2 u4⟩,⟨Z2 w.params "show",.str "show" t5,.int 2 u5⟩,⟨Z2 w.params "broken",.str "broken" t6,.int 2 u6⟩,⟨Z2 w.params "price",.str "price" t7,.int 2 u7⟩,⟨Z2 w.params "time",.str "time" t8,.int 3 u8⟩,⟨Z2 w.params "both",.str "both" t9,.int 6 u9⟩,⟨Z2 w.params "rows",.str "rows" t10,.int 5 u10⟩,⟨Z2 w.params "part",.str "part" t11,.int 3 u11⟩,⟨Z2 w.params "join",.str "join" t12,.int 3 u12⟩] ep })(hd:(a==sysModules)=false):KDD P w K a dF:=DL.vT (l:=[("set",t0,3,u0),("cut",t1,2,u1),("uncut",t2,2,u2),("cues",t3,2,u3),("drop",t4,2,u4),("show",t5,2,u5),("broken",t6,2,u6),("price",t7,2,u7),("time",t8,3,u8),("both",t9,6,u9),("rows",t10,5,u10),("part",t11,3,u11),("join",t12,3,u12)]) hl hd (show(["set", "cut", "uncut", "cues", "drop", "show", "broken", "price", "time", "both", "rows", "part", "join"]:List Str).Nodup from by decide +kernel) (Nat.le_of_ble_eq_true rfl) rfl
theorem vS{P:Program}{w:World}{K:ε}{a b0 b1 b2 b3 b4 b5 b6:Addr}{t0 p0 q0 t1 p1 q1 t2 p2 q2 t3 p3 q3 t4 p4 q4 t5 p5 q5 t6 p6 q6:Tok}{ep n0 n1 n2 n3 n4 n5 n6:Nat}(hl:X7 a K=some { cls:=.type "dict",data:=.dict #[⟨Z2 w.params "sign",.str "sign" t0,.ref b0⟩,⟨Z2 w.params "least",.str "least" t1,.ref b1⟩,⟨Z2 w.params "most",.str "most" t2,.ref b2⟩,⟨Z2 w.params "apart",.str "apart" t3,.ref b3⟩,⟨Z2 w.params "shy",.str "shy" t4,.ref b4⟩,⟨Z2 w.params "begin",.str "begin" t5,.ref b5⟩,⟨Z2 w.params "end",.str "end" t6,.ref b6⟩] ep })(hd:(a==sysModules)=false)(h0:X7 b0 K=some { cls:=.type "tuple",data:=.seq #[.int 0 p0,.int 1000000000 q0] n0 })(h1:X7 b1 K=some { cls:=.type "tuple",data:=.seq #[.int 1 p1,.int 1000000000 q1] n1 })(h2:X7 b2 K=some { cls:=.type "tuple",data:=.seq #[.int 0 p2,.int 1000000000 q2] n2 })(h3:X7 b3 K=some { cls:=.type "tuple",data:=.seq #[.int 0 p3,.int 1000000000 q3] n3 })(h4:X7 b4 K=some { cls:=.type "tuple",data:=.seq #[.int 1 p4,.int 1000000000 q4] n4 })(h5:X7 b5 K=some { cls:=.type "tuple",data:=.seq #[.int 0 p5,.int 99 q5] n5 })(h6:X7 b6 K=some { cls:=.type "tuple",data:=.seq #[.int 0 p6,.int 99 q6] n6 }):KDD P w K a eF:=DL.BT (l:=[("sign",t0,b0,0,1000000000),("least",t1,b1,1,1000000000),("most",t2,b2,0,1000000000),("apart",t3,b3,0,1000000000),("shy",t4,b4,1,1000000000),("begin",t5,b5,0,99),("end",t6,b6,0,99)]) hl hd (show(["sign", "least", "most", "apart", "shy", "begin", "end"]:List Str).Nodup from by decide +kernel) (Nat.le_of_ble_eq_true rfl) rfl ⟨⟨_,_,_,h0⟩,⟨_,_,_,h1⟩,⟨_,_,_,h2⟩,⟨_,_,_,h3⟩,⟨_,_,_,h4⟩,⟨_,_,_,h5⟩,⟨_,_,_,h6⟩,trivial⟩
local macro_rules | `(tactic| walk_at "L")=>`(tactic| first | exact Or.inl rfl | exact Or.inr rfl)
local macro_rules | `(tactic| walk_at "S")=>`(tactic| exact⟨rfl,rfl,rfl,by decide +kernel,rfl,by decide +kernel,by decide +kernel⟩)
local macro_rules | `(tactic| walk_at "B1")=>`(tactic| exact λ_ _ _ _ _ _ us hl=>match us,hl with | [_],_=>rfl)
local macro_rules | `(tactic| walk_at "B2")=>`(tactic| exact λ_ _ _ _ _ _ us hl=>match us,hl with | [_,_],_=>rfl)
local macro_rules | `(tactic| walk_at "B3")=>`(tactic| exact λ_ _ _ _ _ _ us hl=>match us,hl with | [_,_,_],_=>rfl)
local macro_rules | `(tactic| walk_at "B4")=>`(tactic| exact λ_ _ _ _ _ _ us hl=>match us,hl with | [_,_,_,_],_=>rfl)
structure ClsT_Desk(K:ε)(C:Addr):Prop where
 nn:ο K mainGlobals "Desk" = some (some (.ref C))
 cl:Cls K C
 cues_:Λ K (.ref C) "cues" = some none
 clock_:Λ K (.ref C) "clock" = some none
 settings_:Λ K (.ref C) "settings" = some none
 cuts_:Λ K (.ref C) "cuts" = some none
def uJ(K:ε)(C:Addr)(m:Str)(f:Addr):Prop:=Λ K (.ref C) m=some (some (.ref f))/\W0 K (.ref f)=true
section
variable{P:Program}{w:World}{K:ε}{mg:Str->Option Value}{base:Heap}
theorem p8:FnScope ["text"] ["text"] (aj (top 21)):=by walk_at "S"
theorem dk{f:Addr}{fd:FuncData}(F0:Fun K "are_figures" "are_figures" (top 21) f fd)(hm:mg "are_figures" = some (.ref f)){t_FIGURES:Tok}(m_FIGURES:mg "FIGURES" = some (.str "0123456789" t_FIGURES))(z_all:mg "all" = none):Def P w K mg base 1 "are_figures" 1 bZ:=by
 have S:=p8
 refine bG (N:=["text"]) (ps:=["text"]) (k:=0) (g:=jg) F0 S hm (F0.binds (by walk_at "B1")) λcdv A outer s H E hr=>?_
 unfold jg
 exact(aw (bc (fZ (fH (fQ hr.units) (ae (pv 0)) aq (aJ _)) (gN (aU (lQ rfl) rfl z_all PyProof.Rows.boot_all (aa (ik (fr:=[]) (tn:=["sign"]) rfl rfl (by decide +kernel) (by rfl) (λ_ _ h=>h) (g8 (by rfl)) jY (by decide +kernel) (fF (ae (pv 0))) (λC s3 H3 fp=>(aI (aS (i:=0) (show(["sign"]:List Str).Nodup from by decide +kernel) rfl (by walk_at "L")))) (λC s3 H3 fp=>ij) (λC s3 H3 fp=>(fH EJ (ae (pv 0)) (Bi rfl m_FIGURES) rfl))) ai))))))
theorem pZ:FnScope ["text", "figures"] ["text", "figures"] (aj (top 42)):=by walk_at "S"
theorem dj{f:Addr}{fd:FuncData}(F0:Fun K "has_figures" "has_figures" (top 42) f fd)(hm:mg "has_figures" = some (.ref f))(dk:Def P w K mg base 1 "are_figures" 1 bZ)(z_len:mg "len" = none):Def P w K mg base 2 "has_figures" 2 cj:=by
 have S:=pZ
 refine bG (N:=["text", "figures"]) (ps:=["text", "figures"]) (k:=1) (g:=jf) F0 S hm (F0.binds (by walk_at "B2")) λcdv A outer s H E hr=>?_
 unfold jf
 exact(aw (bc (fZ (fH (bO hr.units) (aU bC rfl z_len PySem.boot_len (aa (ae (pv 0)) ai)) (ae (pv 1)) (aJ _)) (gN (aG dk (hr.mono (by decide)) rfl rfl (aa (ae (pv 0)) ai))))))
theorem tE:FnScope ["text"] ["text"] (aj (top 40)):=by walk_at "S"
theorem ll{f:Addr}{fd:FuncData}(F0:Fun K "are_hours" "are_hours" (top 40) f fd)(hm:mg "are_hours" = some (.ref f))(dj:Def P w K mg base 2 "has_figures" 2 cj)(dk:Def P w K mg base 1 "are_figures" 1 bZ)(z_len:mg "len" = none):Def P w K mg base 3 "are_hours" 1 gJ:=by
 have S:=tE
 refine bG (N:=["text"]) (ps:=["text"]) (k:=2) (g:=iT) F0 S hm (F0.binds (by walk_at "B1")) λcdv A outer s H E hr=>?_
 unfold iT
 exact(av (bH (cS (aG dj (hr.mono (by decide)) rfl rfl (aa (ae (pv 0)) (aa al ai)))) (aw (bc oC)) bw)
  (aw (bc (fZ (kJ cv cv al (aU bC rfl z_len PySem.boot_len (aa (ae (pv 0)) ai)) al) (fZ (aG dk (hr.mono (by decide)) rfl rfl (aa (ae (pv 0)) ai)) (gN (fH (fQ hr.units) (aA (ae (pv 0)) al (λ_ _=>rfl)) aq (aJ _))))))))
theorem nU:FnScope ["text"] ["text"] (aj (top 41)):=by walk_at "S"
theorem e8{f:Addr}{fd:FuncData}(F0:Fun K "are_sixtieths" "are_sixtieths" (top 41) f fd)(hm:mg "are_sixtieths" = some (.ref f))(dj:Def P w K mg base 2 "has_figures" 2 cj)(z_int:mg "int" = none):Def P w K mg base 3 "are_sixtieths" 1 cR:=by
 have S:=nU
 refine bG (N:=["text"]) (ps:=["text"]) (k:=2) (g:=gQ) F0 S hm (F0.binds (by walk_at "B1")) λcdv A outer s H E hr=>?_
 unfold gQ
 exact(aw (bc (fZ (aG dj (hr.mono (by decide)) rfl rfl (aa (ae (pv 0)) (aa al ai))) (gN (fH lc (bB et rfl z_int PyProof.Rows.boot_int (aa (ae (pv 0)) ai)) al (aJ _))))))
theorem rM:FnScope ["text", "sign", "figures", "hours", "minutes", "seconds"] ["text", "sign", "figures"] (aj (top 39)):=by walk_at "S"
theorem j5{f:Addr}{fd:FuncData}(F0:Fun K "read_parts" "read_parts" (top 39) f fd)(hm:mg "read_parts" = some (.ref f))(ll:Def P w K mg base 3 "are_hours" 1 gJ)(e8:Def P w K mg base 3 "are_sixtieths" 1 cR)(dj:Def P w K mg base 2 "has_figures" 2 cj)(z_isinstance:mg "isinstance" = none)(z_str:mg "str" = none)(z_int:mg "int" = none):Def P w K mg base 4 "read_parts" 3 fW:=by
 have S:=rM
 refine bG (N:=["text", "sign", "figures", "hours", "minutes", "seconds"]) (ps:=["text", "sign", "figures"]) (k:=3) (g:=g9) F0 S hm (F0.binds (by walk_at "B3")) λcdv A outer s H E hr=>?_
 unfold g9
 exact(av (bH (dH (cS (fq rfl (m3 _) rfl z_isinstance rfl z_str PyProof.Rows.boot_str (ae (pv 0))))) (aw dR) bw)
  (av (b7 (i:=3) S.nd rfl (by walk_at "L") (cW PySem.F.slot_str_partition PySem.F.type_str_partition gw (ae (pv 0)) (aa aq ai)))
  (av (b7 (i:=4) S.nd rfl (by walk_at "L") (cW PySem.F.slot_str_partition PySem.F.type_str_partition gw (aA (ae (pv 3)) al (λ_ _=>rfl)) (aa aq ai)))
  (av (b7 (i:=5) S.nd rfl (by walk_at "L") (cW PySem.F.slot_str_partition PySem.F.type_str_partition gw (aA (ae (pv 4)) al (λ_ _=>rfl)) (aa (ae (pv 1)) ai)))
  (av (bH (dH (PDW.t (gX (cS (aG ll (hr.mono (by decide)) rfl rfl (aa (aA (ae (pv 3)) al (λ_ _=>rfl)) ai))) (gX (cS (aG e8 (hr.mono (by decide)) rfl rfl (aa (aA (ae (pv 4)) al (λ_ _=>rfl)) ai))) (gA (cS (aG e8 (hr.mono (by decide)) rfl rfl (aa (aA (ae (pv 5)) al (λ_ _=>rfl)) ai)))))))) (aw dR) bw)
  (av (bH (dH (cS (aG dj (hr.mono (by decide)) rfl rfl (aa (aA (ae (pv 5)) al (λ_ _=>rfl)) (aa (ae (pv 2)) ai))))) (aw dR) bw)
  (aw (bc (cc (aa (bB et rfl z_int PyProof.Rows.boot_int (aa (aA (ae (pv 3)) al (λ_ _=>rfl)) ai)) (aa (bB et rfl z_int PyProof.Rows.boot_int (aa (aA (ae (pv 4)) al (λ_ _=>rfl)) ai)) (aa (bB et rfl z_int PyProof.Rows.boot_int (aa (aA (ae (pv 5)) al (λ_ _=>rfl)) ai)) (aa (bB et rfl z_int PyProof.Rows.boot_int (aa (aA (ae (pv 5)) al (λ_ _=>rfl)) ai)) ai)))))))))))))
theorem pY:FnScope ["text", "parts", "second"] ["text"] (aj (top 33)):=by walk_at "S"
theorem jk{f:Addr}{fd:FuncData}(F0:Fun K "read_moment" "read_moment" (top 33) f fd)(hm:mg "read_moment" = some (.ref f))(j5:Def P w K mg base 4 "read_parts" 3 fW):Def P w K mg base 5 "read_moment" 1 eY:=by
 have S:=pY
 refine bG (N:=["text", "parts", "second"]) (ps:=["text"]) (k:=4) (g:=gq) F0 S hm (F0.binds (by walk_at "B1")) λcdv A outer s H E hr=>?_
 unfold gq
 exact(av (b7 (i:=1) S.nd rfl (by walk_at "L") (aG j5 (hr.mono (by decide)) rfl rfl (aa (ae (pv 0)) (aa aq (aa al ai)))))
  (av (b7 (i:=2) S.nd rfl (by walk_at "L") (aC aF (aC fR al (aC aF (aC fR al (aA (ae (pv 1)) al (λ_ _=>rfl))) (aA (ae (pv 1)) al (λ_ _=>rfl)))) (aA (ae (pv 1)) al (λ_ _=>rfl))))
  (aw (bc (aC aF (aC fR al (ae (pv 2))) (aA (ae (pv 1)) al (λ_ _=>rfl)))))))
theorem lT:FnScope ["self", "text"] ["self", "text"] (aj (mth (top 45) 1)):=by walk_at "S"
theorem bP{f:Addr}{fd:FuncData}(F0:Fun K "read" "Thousandths.read" (mth (top 45) 1) f fd){C_Thousandths:Addr}(m_Thousandths:mg "Thousandths" = some (.ref C_Thousandths))(nn_Thousandths:ο K mainGlobals "Thousandths" = some (some (.ref C_Thousandths)))(pg_Thousandths:V2 K C_Thousandths Str.empty=true)(hd_Thousandths:V7 K C_Thousandths=true)(po_Thousandths:U3 K C_Thousandths=true)(sa_Thousandths:Λ K (.ref C_Thousandths) "__setattr__" = some (some (.builtin "object.__setattr__")))(jk:Def P w K mg base 5 "read_moment" 1 eY)(hat:Λ K (.ref C_Thousandths) "read" = some (some (.ref f)))(hfn:W0 K (.ref f)=true):DefM P w K mg base 6 "Thousandths" "read" 2 bz:=by
 have S:=lT
 refine⟨C_Thousandths,f,fd,["self", "text"],nn_Thousandths,⟨pg_Thousandths,hd_Thousandths,po_Thousandths,sa_Thousandths⟩,⟨hat,hfn,F0.kp⟩,uj (N:=["self", "text"]) (ps:=["self", "text"]) (k:=5) (g:=dJ) F0 S (λcdv A outer s H E hr=>?_),(F0.binds (by walk_at "B2"))⟩
 unfold dJ
 exact(aw (bc (aG jk (hr.mono (by decide)) rfl rfl (aa (ae (pv 1)) ai))))
theorem tI:FnScope ["self"] ["self"] (aj (mth (top 113) 0)):=by walk_at "S"
theorem hR{f:Addr}{fd:FuncData}(F0:Fun K "__init__" "Desk.__init__" (mth (top 113) 0) f fd){C_Desk:Addr}(m_Desk:mg "Desk" = some (.ref C_Desk)){C_Thousandths:Addr}(m_Thousandths:mg "Thousandths" = some (.ref C_Thousandths)){a_FIRST_SETTINGS:Addr}(m_FIRST_SETTINGS:mg "FIRST_SETTINGS" = some (.ref a_FIRST_SETTINGS))(T_FIRST_SETTINGS:KDD P w K a_FIRST_SETTINGS ed)(cT:ClsT_Desk K C_Desk)(nn_Thousandths:ο K mainGlobals "Thousandths" = some (some (.ref C_Thousandths)))(mk_Thousandths:W8 K C_Thousandths=true)(ii_Thousandths:Λ K (.ref C_Thousandths) "__init__" = some (some (.builtin "object.__init__")))(so_Thousandths:PySem.W.subIn K (.ref C_Thousandths) (.type "object")=some true)(kc_Thousandths:ξ K (.ref C_Thousandths)=true)(z_dict:mg "dict" = none)(hM:uJ K C_Desk "__init__" f)(mk:W8 K C_Desk=true)(kc:ξ K (.ref C_Desk)=true):SL.MkS P w K mg base 1 "Desk" 1 eK:=by
 have S:=tI
 refine⟨C_Desk,f,fd,["self"],cT.nn,m_Desk,⟨mk,hM.1,hM.2,kc⟩,SL.jZ (N:=["self"]) (ps:=["self"]) (k:=0) (g:=iX) F0 S (λcdv A outer s H E hr=>?_),(F0.binds (by walk_at "B1"))⟩
 unfold iX
 exact(aO (jm (bA (pv 0)) C2 cT.nn cT.cl cT.cues_)
  (aO (jm (bA (pv 0)) (bn (pd_mk0 ⟨mk_Thousandths,ii_Thousandths,so_Thousandths,kc_Thousandths⟩ nn_Thousandths rfl m_Thousandths)) cT.nn cT.cl cT.clock_)
  (aO (jm (bA (pv 0)) (AB T_FIRST_SETTINGS rfl rfl z_dict rfl m_FIRST_SETTINGS) cT.nn cT.cl cT.settings_)
  (aR (jm (bA (pv 0)) (tm (cV ai)) cT.nn cT.cl cT.cuts_)))))
theorem mO:FnScope ["row", "parts", "words"] ["row"] (aj (top 114)):=by walk_at "S"
theorem gh{f:Addr}{fd:FuncData}(F0:Fun K "words_and_text" "words_and_text" (top 114) f fd)(hm:mg "words_and_text" = some (.ref f))(z_isinstance:mg "isinstance" = none)(z_str:mg "str" = none):Def P w K mg base 1 "words_and_text" 1 bE:=by
 have S:=mO
 refine bG (N:=["row", "parts", "words"]) (ps:=["row"]) (k:=0) (g:=dr) F0 S hm (F0.binds (by walk_at "B1")) λcdv A outer s H E hr=>?_
 unfold dr
 exact(av (bH (dH (cS (fq rfl (m3 _) rfl z_isinstance rfl z_str PyProof.Rows.boot_str (ae (pv 0))))) (aw dR) bw)
  (av (b7 (i:=1) S.nd rfl (by walk_at "L") (cW PySem.F.slot_str_partition PySem.F.type_str_partition gw (ae (pv 0)) (aa aq ai)))
  (av (b7 (i:=2) S.nd rfl (by walk_at "L") (cW PySem.F.slot_str_split PySem.F.type_str_split lN (aA (ae (pv 1)) al (λ_ _=>rfl)) (aa aq ai)))
  (av (bH (aL (bO hr.units) (aA (ae (pv 2)) al (λ_ _=>rfl)) aq (aJ _)) (aw (bc (cc (aa (ae (pv 2)) (aa (aA (ae (pv 1)) al (λ_ _=>rfl)) ai))))) bw)
  (aw (bc (cc (aa (cW PySem.F.slot_str_split PySem.F.type_str_split lN (ae (pv 0)) (aa aq ai)) (aa aq ai)))))))))
theorem zq:FnScope ["words"] ["words"] (aj (top 115)):=by walk_at "S"
theorem rh{f:Addr}{fd:FuncData}(F0:Fun K "is_row" "is_row" (top 115) f fd)(hm:mg "is_row" = some (.ref f)){a_HOW_MANY:Addr}(m_HOW_MANY:mg "HOW_MANY" = some (.ref a_HOW_MANY))(T_HOW_MANY:KDD P w K a_HOW_MANY dF)(z_len:mg "len" = none):Def P w K mg base 1 "is_row" 1 iM:=by
 have S:=zq
 refine bG (N:=["words"]) (ps:=["words"]) (k:=0) (g:=ng) F0 S hm (F0.binds (by walk_at "B1")) λcdv A outer s H E hr=>?_
 unfold ng
 exact(av (bH (aL (bO hr.units) (aA (ae (pv 0)) al (λ_ _=>rfl)) aq (aJ _)) (aw (bc (pd_or (fH (bO hr.units) (tP (ae (pv 0)) (mT al) vC) (fk (aa aq ai)) (aJ _)) (gN (fZ (fH (bO hr.units) (aU bC rfl z_len PySem.boot_len (aa (ae (pv 0)) ai)) al (aJ _)) (gN (fH (bO hr.units) (aA (ae (pv 0)) al (λ_ _=>rfl)) aq (aJ _)))))))) bw)
  (av (bH (aL (bO hr.units) (aA (ae (pv 0)) al (λ_ _=>rfl)) aq (aJ _)) (aw (bc (fZ (fH dop_ge (aU bC rfl z_len PySem.boot_len (aa (ae (pv 0)) ai)) al (aJ _)) (gN (fH (bO hr.units) (aC cf (aU bC rfl z_len PySem.boot_len (aa (ae (pv 0)) ai)) al) al (aJ _)))))) bw)
  (aw (bc (fH (bO hr.units) (Bh T_HOW_MANY rfl m_HOW_MANY (aA (ae (pv 0)) al (λ_ _=>rfl)) ⟨rfl,rfl,rfl,rfl⟩) (aU bC rfl z_len PySem.boot_len (aa (ae (pv 0)) ai)) (aJ _))))))
theorem o0:FnScope ["self", "name"] ["self", "name"] (aj (mth (top 113) 3)):=by walk_at "S"
theorem iE{f:Addr}{fd:FuncData}(F0:Fun K "cues_by" "Desk.cues_by" (mth (top 113) 3) f fd){C_Desk:Addr}(m_Desk:mg "Desk" = some (.ref C_Desk))(cT:ClsT_Desk K C_Desk)(hM:uJ K C_Desk "cues_by" f):DefM P w K mg base 1 "Desk" "cues_by" 2 eE:=by
 have S:=o0
 refine⟨C_Desk,f,fd,["self", "name"],cT.nn,cT.cl,⟨hM.1,hM.2,F0.kp⟩,uj (N:=["self", "name"]) (ps:=["self", "name"]) (k:=0) (g:=fO) F0 S (λcdv A outer s H E hr=>?_),(F0.binds (by walk_at "B2"))⟩
 unfold fO
 exact(av (bH (aL (xB (dS hr)) (ae (pv 1)) (ja ⟨cT.nn,cT.cl⟩ cT.cues_ (ae (pv 0))) rfl) (aw dR) bw)
  (aw (bc (cp (dS hr) (ja ⟨cT.nn,cT.cl⟩ cT.cues_ (ae (pv 0))) (ae (pv 1)) (λ_ _=>rfl)))))
theorem p7:FnScope ["number"] ["number"] (aj (top 80)):=by walk_at "S"
theorem bK{f:Addr}{fd:FuncData}(F0:Fun K "begin_point" "begin_point" (top 80) f fd)(hm:mg "begin_point" = some (.ref f)):Def P w K mg base 1 "begin_point" 1 bb:=by
 have S:=p7
 refine bG (N:=["number"]) (ps:=["number"]) (k:=0) (g:=gr) F0 S hm (F0.binds (by walk_at "B1")) λcdv A outer s H E hr=>?_
 unfold gr
 exact(aw (bc (aC aF (aC fR al (ae (pv 0))) al)))
theorem tw:FnScope ["number"] ["number"] (aj (top 81)):=by walk_at "S"
theorem de{f:Addr}{fd:FuncData}(F0:Fun K "end_point" "end_point" (top 81) f fd)(hm:mg "end_point" = some (.ref f)):Def P w K mg base 1 "end_point" 1 bX:=by
 have S:=tw
 refine bG (N:=["number"]) (ps:=["number"]) (k:=0) (g:=iR) F0 S hm (F0.binds (by walk_at "B1")) λcdv A outer s H E hr=>?_
 unfold iR
 exact(aw (bc (aC aF (aC fR al (ae (pv 0))) al)))
theorem pW:FnScope ["settings", "cue", "number", "begin", "end", "length"] ["settings", "cue", "number"] (aj (top 82)):=by walk_at "S"
theorem ji{f:Addr}{fd:FuncData}(F0:Fun K "rules_alone" "rules_alone" (top 82) f fd)(hm:mg "rules_alone" = some (.ref f))(bK:Def P w K mg base 1 "begin_point" 1 bb)(de:Def P w K mg base 1 "end_point" 1 bX)(z_len:mg "len" = none)(z_max:mg "max" = none):DefF P w K mg base 2 "rules_alone" 3 dZ:=by
 have S:=pW
 refine nu (N:=["settings", "cue", "number", "begin", "end", "length"]) (ps:=["settings", "cue", "number"]) (k:=1) (g:=gn) F0 S hm (F0.binds (by walk_at "B3")) λcdv A outer s H E hr=>?_
 unfold gn
 exact(cn (b7 (i:=3) S.nd rfl (by walk_at "L") (aG bK (hr.mono (by decide)) rfl rfl (aa (ae (pv 2)) ai)))
  (cn (b7 (i:=4) S.nd rfl (by walk_at "L") (aG de (hr.mono (by decide)) rfl rfl (aa (ae (pv 2)) ai)))
  (cn (b7 (i:=5) S.nd rfl (by walk_at "L") (aU (jw rfl) rfl z_max PyProof.Rows.boot_max (aa (cp (dS hr) (ae (pv 0)) aq (λ_ _=>rfl)) (aa (aC fR (cp (dS hr) (ae (pv 0)) aq (λ_ _=>rfl)) (aU bC rfl z_len PySem.boot_len (aa (aA (ae (pv 1)) al (λ_ _=>rfl)) ai))) ai))))
  (kG (mU (cV (aa (cc (aa al (aa (ae (pv 3)) (aa al (aa i9 (aa (cc (aa aq (aa (ae (pv 2)) ai))) ai)))))) (aa (cc (aa (ae (pv 3)) (aa (ae (pv 4)) (aa (ae (pv 5)) (aa i9 (aa (cc (aa aq (aa (ae (pv 2)) ai))) ai)))))) (aa (cc (aa (ae (pv 4)) (aa (ae (pv 3)) (aa (qo (cp (dS hr) (ae (pv 0)) aq (λ_ _=>rfl))) (aa i9 (aa (cc (aa aq (aa (ae (pv 2)) ai))) ai)))))) ai)))))))))
theorem zp:FnScope ["settings", "cue", "number", "begin", "end", "why"] ["settings", "cue", "number"] (aj (top 83)):=by walk_at "S"
theorem rf{f:Addr}{fd:FuncData}(F0:Fun K "wishes" "wishes" (top 83) f fd)(hm:mg "wishes" = some (.ref f))(bK:Def P w K mg base 1 "begin_point" 1 bb)(de:Def P w K mg base 1 "end_point" 1 bX):DefF P w K mg base 2 "wishes" 3 jD:=by
 have S:=zp
 refine nu (N:=["settings", "cue", "number", "begin", "end", "why"]) (ps:=["settings", "cue", "number"]) (k:=1) (g:=m9) F0 S hm (F0.binds (by walk_at "B3")) λcdv A outer s H E hr=>?_
 unfold m9
 exact(cn (b7 (i:=3) S.nd rfl (by walk_at "L") (aG bK (hr.mono (by decide)) rfl rfl (aa (ae (pv 2)) ai)))
  (cn (b7 (i:=4) S.nd rfl (by walk_at "L") (aG de (hr.mono (by decide)) rfl rfl (aa (ae (pv 2)) ai)))
  (cn (b7 (i:=5) S.nd rfl (by walk_at "L") (cc (aa aq (aa (ae (pv 2)) ai))))
  (kG (mU (cV (aa (cc (aa al (aa (ae (pv 3)) (aa (aA (ae (pv 1)) al (λ_ _=>rfl)) (aa (cp (dS hr) (ae (pv 0)) aq (λ_ _=>rfl)) (aa (ae (pv 5)) ai)))))) (aa (cc (aa (ae (pv 3)) (aa al (aa (qo (aA (ae (pv 1)) al (λ_ _=>rfl))) (aa (cp (dS hr) (ae (pv 0)) aq (λ_ _=>rfl)) (aa (ae (pv 5)) ai)))))) (aa (cc (aa al (aa (ae (pv 4)) (aa (aA (ae (pv 1)) al (λ_ _=>rfl)) (aa (cp (dS hr) (ae (pv 0)) aq (λ_ _=>rfl)) (aa (ae (pv 5)) ai)))))) (aa (cc (aa (ae (pv 4)) (aa al (aa (qo (aA (ae (pv 1)) al (λ_ _=>rfl))) (aa (cp (dS hr) (ae (pv 0)) aq (λ_ _=>rfl)) (aa (ae (pv 5)) ai)))))) ai))))))))))
theorem oU:FnScope ["settings", "cues", "place", "number", "rules", "way", "other"] ["settings", "cues", "place", "number"] (aj (top 84)):=by walk_at "S"
theorem iB{f:Addr}{fd:FuncData}(F0:Fun K "rules_behind" "rules_behind" (top 84) f fd)(hm:mg "rules_behind" = some (.ref f))(bK:Def P w K mg base 1 "begin_point" 1 bb)(de:Def P w K mg base 1 "end_point" 1 bX)(z_len:mg "len" = none)(z_range:mg "range" = none):DefF P w K mg base 2 "rules_behind" 4 dy:=by
 have S:=oU
 refine nu (N:=["settings", "cues", "place", "number", "rules", "way", "other"]) (ps:=["settings", "cues", "place", "number"]) (k:=1) (g:=fK) F0 S hm (F0.binds (by walk_at "B4")) λcdv A outer s H E hr=>?_
 unfold fK jz
 exact(cn (gY (i:=4) S.nd rfl (by walk_at "L") (cV ai))
  (cn (bH (aL lc (aC aF (ae (pv 2)) al) (aU bC rfl z_len PySem.boot_len (aa (ae (pv 1)) ai)) (aJ _)) (aw (jP (i:=4) (pv 4) (cc (aa (aG bK (hr.mono (by decide)) rfl rfl (aa (ae (pv 3)) ai)) (aa (aG bK (hr.mono (by decide)) rfl rfl (aa (aC aF (ae (pv 3)) al) ai)) (aa al (aa i9 (aa (cc (aa aq (aa (ae (pv 3)) (aa (aC aF (ae (pv 3)) al) ai)))) ai)))))))) bw)
  (cn (fG PassesOwn.never rfl (vD rfl z_range (aa al (aa (aC hU (aU bC rfl z_len PySem.boot_len (aa (ae (pv 1)) ai)) (ae (pv 2))) ai))) (aI (aS (i:=5) S.nd rfl (by walk_at "L"))) (aw (bH (aL (bO hr.units) (aA (aA (ae (pv 1)) (aC aF (ae (pv 2)) (ae (pv 5))) (λ_ _=>rfl)) al (λ_ _=>rfl)) (aA (aA (ae (pv 1)) (ae (pv 2)) (λ_ _=>rfl)) al (λ_ _=>rfl)) (aJ _)) (av (b7 (i:=6) S.nd rfl (by walk_at "L") (aC aF (ae (pv 3)) (ae (pv 5))))
  (av (jP (i:=4) (pv 4) (cc (aa (aG de (hr.mono (by decide)) rfl rfl (aa (ae (pv 3)) ai)) (aa (aG bK (hr.mono (by decide)) rfl rfl (aa (ae (pv 6)) ai)) (aa (cp (dS hr) (ae (pv 0)) aq (λ_ _=>rfl)) (aa i9 (aa (cc (aa aq (aa (ae (pv 3)) (aa (ae (pv 6)) ai)))) ai)))))))
  (aw Bl))) bw)))
  (sk (pv 4)))))
theorem oT:FnScope ["shy", "cue", "number", "k", "cut", "begin", "end"] ["shy", "cue", "number", "k", "cut"] (aj (top 85)):=by walk_at "S"
theorem iA{f:Addr}{fd:FuncData}(F0:Fun K "rules_of_cut" "rules_of_cut" (top 85) f fd)(hm:mg "rules_of_cut" = some (.ref f))(bK:Def P w K mg base 1 "begin_point" 1 bb)(de:Def P w K mg base 1 "end_point" 1 bX):DefF P w K mg base 2 "rules_of_cut" 5 cB:=by
 have S:=oT
 refine nu (N:=["shy", "cue", "number", "k", "cut", "begin", "end"]) (ps:=["shy", "cue", "number", "k", "cut"]) (k:=1) (g:=fJ) F0 S hm (F0.binds λ_ _ _ _ _ _ us hl=>match us,hl with | [_,_,_,_,_],_=>rfl) λcdv A outer s H E hr=>?_
 unfold fJ
 exact(cn (b7 (i:=5) S.nd rfl (by walk_at "L") (aG bK (hr.mono (by decide)) rfl rfl (aa (ae (pv 2)) ai)))
  (cn (b7 (i:=6) S.nd rfl (by walk_at "L") (aG de (hr.mono (by decide)) rfl rfl (aa (ae (pv 2)) ai)))
  (yo (PDW.t (gX (aL cv (aA (ae (pv 1)) al (λ_ _=>rfl)) (aC hU (ae (pv 4)) (ae (pv 0))) (aJ _)) (gA (aL cv (aC aF (ae (pv 4)) (ae (pv 0))) (aA (ae (pv 1)) al (λ_ _=>rfl)) (aJ _))))) (kG (mU (cV (aa (cc (aa (ae (pv 5)) (aa al (aa (aC hU (ae (pv 0)) (ae (pv 4))) (aa i9 (aa (cc (aa aq (aa (ae (pv 2)) (aa (ae (pv 3)) ai)))) ai)))))) (aa (cc (aa al (aa (ae (pv 6)) (aa (aC aF (ae (pv 4)) (ae (pv 0))) (aa i9 (aa (cc (aa aq (aa (ae (pv 2)) (aa (ae (pv 3)) ai)))) ai)))))) ai)))))
  (yo (aL cv (aC aF (aA (ae (pv 1)) al (λ_ _=>rfl)) (aA (ae (pv 1)) al (λ_ _=>rfl))) (aC fR al (ae (pv 4))) (aJ _)) (kG (mU (cV (aa (cc (aa (ae (pv 6)) (aa al (aa (qo (ae (pv 4))) (aa i9 (aa (cc (aa aq (aa (ae (pv 2)) (aa (ae (pv 3)) ai)))) ai)))))) ai))))
  (kG (mU (cV (aa (cc (aa al (aa (ae (pv 5)) (aa (ae (pv 4)) (aa i9 (aa (cc (aa aq (aa (ae (pv 2)) (aa (ae (pv 3)) ai)))) ai)))))) ai))))))))
theorem vf:FnScope ["settings", "cues", "cuts", "first", "rules", "place", "cue", "number", "k", "cut"] ["settings", "cues", "cuts", "first"] (aj (top 74)):=by walk_at "S"
theorem rg{f:Addr}{fd:FuncData}{T:Addr}{tk:Tok}{tn:Nat}{toc:Value}{tod:Option Addr}{tsl:Array (Option Value)}(F0:FunD K "rules_of" "rules_of" (top 74) f fd (.ref T))(hT:K.lookup T=some ⟨toc,tod,.seq #[.int 0 tk] tn,tsl⟩)(hm:mg "rules_of" = some (.ref f))(ji:DefF P w K mg base 2 "rules_alone" 3 dZ)(rf:DefF P w K mg base 2 "wishes" 3 jD)(iB:DefF P w K mg base 2 "rules_behind" 4 dy)(iA:DefF P w K mg base 2 "rules_of_cut" 5 cB)(z_enumerate:mg "enumerate" = none):Def P w K mg base 3 "rules_of" 4 dP  /\ DefZ P w K mg base 3 "rules_of" 3 0 dP:=by
 have S:=vf
 refine Cy (N:=["settings", "cues", "cuts", "first", "rules", "place", "cue", "number", "k", "cut"]) (ps:=["settings", "cues", "cuts", "first"]) (k:=2) (g:=jU) F0 S hm (F0.bindsT hT rfl λ_ _ _ _ _ _ us hl=>match us,hl with | [_,_,_,_],_=>⟨_,rfl,rfl⟩) (F0.bindsZ (d:=.int 0 tk) hT rfl λ_ _ _ _ _ _ us hl=>match us,hl with | [_,_,_],_=>⟨_,rfl,rfl⟩) rfl λcdv A outer s H E hr=>?_
 unfold jU nB nD
 exact(av (gY (i:=4) S.nd rfl (by walk_at "L") (cV ai))
  (av (fG PassesOwn.never rfl (kH rfl z_enumerate (aa (ae (pv 1)) ai)) (e5 rfl (aT (aI (aS (i:=5) S.nd rfl (by walk_at "L"))) (aT (aI (aS (i:=6) S.nd rfl (by walk_at "L"))) dQ))) (av (b7 (i:=7) S.nd rfl (by walk_at "L") (aC aF (ae (pv 3)) (ae (pv 5))))
  (av (qr (i:=4) (pv 4) (pd (kI ji (hr.mono (by decide)) rfl rfl (aa (ae (pv 0)) (aa (ae (pv 6)) (aa (ae (pv 7)) ai))))))
  (av (qr (i:=4) (pv 4) (pd (kI rf (hr.mono (by decide)) rfl rfl (aa (ae (pv 0)) (aa (ae (pv 6)) (aa (ae (pv 7)) ai))))))
  (av (qr (i:=4) (pv 4) (pd (kI iB (hr.mono (by decide)) rfl rfl (aa (ae (pv 0)) (aa (ae (pv 1)) (aa (ae (pv 5)) (aa (ae (pv 7)) ai)))))))
  (aw (fG PassesOwn.never rfl (kH rfl z_enumerate (aa (ae (pv 2)) ai)) (e5 rfl (aT (aI (aS (i:=8) S.nd rfl (by walk_at "L"))) (aT (aI (aS (i:=9) S.nd rfl (by walk_at "L"))) dQ))) (aw (qr (i:=4) (pv 4) (pd (kI iA (hr.mono (by decide)) rfl rfl (aa (cp (dS hr) (ae (pv 0)) aq (λ_ _=>rfl)) (aa (ae (pv 6)) (aa (ae (pv 7)) (aa (ae (pv 8)) (aa (ae (pv 9)) ai))))))))))))))))
  (aw (pf (pv 4)))))
theorem vd:FnScope ["cues", "times", "cue"] ["cues"] (aj (top 119)):=by walk_at "S"
theorem mz{f:Addr}{fd:FuncData}(F0:Fun K "times_of" "times_of" (top 119) f fd)(hm:mg "times_of" = some (.ref f)):Def P w K mg base 1 "times_of" 1 iJ:=by
 have S:=vd
 refine bG (N:=["cues", "times", "cue"]) (ps:=["cues"]) (k:=0) (g:=jT) F0 S hm (F0.binds (by walk_at "B1")) λcdv A outer s H E hr=>?_
 unfold jT hV
 exact(av (gY (i:=1) S.nd rfl (by walk_at "L") (cV (aa al ai)))
  (av (fG PassesOwn.never rfl (fF (ae (pv 0))) (aI (aS (i:=2) S.nd rfl (by walk_at "L"))) (aw (qr (i:=1) (pv 1) (cV (aa (aA (ae (pv 2)) al (λ_ _=>rfl)) (aa (aA (ae (pv 2)) al (λ_ _=>rfl)) ai))))))
  (aw (pf (pv 1)))))
theorem oV:FnScope ["rule"] ["rule"] (aj (top 78)):=by walk_at "S"
theorem iC{f:Addr}{fd:FuncData}(F0:Fun K "must_be_kept" "must_be_kept" (top 78) f fd)(hm:mg "must_be_kept" = some (.ref f)):Def P w K mg base 1 "must_be_kept" 1 cC:=by
 have S:=oV
 refine bG (N:=["rule"]) (ps:=["rule"]) (k:=0) (g:=fL) F0 S hm (F0.binds (by walk_at "B1")) λcdv A outer s H E hr=>?_
 unfold fL
 exact(aw (bc (fH dop_is (aA (ae (pv 0)) al (λ_ _=>rfl)) i9 (aJ _))))
theorem wK:FnScope ["rule", "times"] ["rule", "times"] (aj (top 79)):=by walk_at "S"
theorem oq{f:Addr}{fd:FuncData}(F0:Fun K "lacking" "lacking" (top 79) f fd)(hm:mg "lacking" = some (.ref f))(z_max:mg "max" = none):Def P w K mg base 1 "lacking" 2 gk:=by
 have S:=wK
 refine bG (N:=["rule", "times"]) (ps:=["rule", "times"]) (k:=0) (g:=lC) F0 S hm (F0.binds (by walk_at "B2")) λcdv A outer s H E hr=>?_
 unfold lC
 exact(aw (bc (aU (jw rfl) rfl z_max PyProof.Rows.boot_max (aa al (aa (aC hU (aA (ae (pv 0)) al (λ_ _=>rfl)) (aC hU (aA (ae (pv 1)) (aA (ae (pv 0)) al (λ_ _=>rfl)) (λ_ _=>rfl)) (aA (ae (pv 1)) (aA (ae (pv 0)) al (λ_ _=>rfl)) (λ_ _=>rfl)))) ai)))))
theorem zt:FnScope ["rules", "times"] ["rules", "times"] (aj (top 76)):=by walk_at "S"
theorem rj{f:Addr}{fd:FuncData}(F0:Fun K "broken" "broken" (top 76) f fd)(hm:mg "broken" = some (.ref f))(iC:Def P w K mg base 1 "must_be_kept" 1 cC)(oq:Def P w K mg base 1 "lacking" 2 gk)(z_enumerate:mg "enumerate" = none):Def P w K mg base 2 "broken" 2 lr:=by
 have S:=zt
 refine bG (N:=["rules", "times"]) (ps:=["rules", "times"]) (k:=1) (g:=ni) F0 S hm (F0.binds (by walk_at "B2")) λcdv A outer s H E hr=>?_
 unfold ni
 exact(aw (bc (ik (fr:=[(1, "times")]) (tn:=["number", "rule"]) rfl rfl (by decide +kernel) (by rfl) (λ_ _ h=>h) (g8 (by rfl)) (pA rfl rfl rfl ⟨_,rfl⟩ jY) (by decide +kernel) (kH rfl z_enumerate (aa (ae (pv 0)) ai)) (λC s3 H3 fp=>(e5 rfl (aT (aI (aS (i:=0) (show(["number", "rule", "times"]:List Str).Nodup from by decide +kernel) rfl (by walk_at "L"))) (aT (aI (aS (i:=1) (show(["number", "rule", "times"]:List Str).Nodup from by decide +kernel) rfl (by walk_at "L"))) dQ)))) (λC s3 H3 fp=>(vB (PDW.t (gX (cS (aG iC (hr.mono (by decide)) rfl rfl (aa (ae (pv 1)) ai))) (gA (aL rc (aG oq (hr.mono (by decide)) rfl rfl (aa (ae (pv 1)) (aa (ae (pv 2)) ai))) al (aJ _))))))) (λC s3 H3 fp=>(ae (pv 0))))))
theorem ve:FnScope ["why"] ["why"] (aj (top 120)):=by walk_at "S"
theorem mB{f:Addr}{fd:FuncData}(F0:Fun K "show_why" "show_why" (top 120) f fd)(hm:mg "show_why" = some (.ref f))(z_str:mg "str" = none):Def P w K mg base 1 "show_why" 1 gj:=by
 have S:=ve
 refine bG (N:=["why"]) (ps:=["why"]) (k:=0) (g:=ip) F0 S hm (F0.binds (by walk_at "B1")) λcdv A outer s H E hr=>?_
 unfold ip
 exact(aw (bc (cW PySem.F.slot_str_join PySem.F.type_str_join nk aq (aa (ik (fr:=[]) (tn:=["part"]) rfl rfl (by decide +kernel) (by rfl) (λ_ _ h=>h) (g8 (by rfl)) jY (by decide +kernel) (fF (ae (pv 0))) (λC s3 H3 fp=>(aI (aS (i:=0) (show(["part"]:List Str).Nodup from by decide +kernel) rfl (by walk_at "L")))) (λC s3 H3 fp=>ij) (λC s3 H3 fp=>(bB xE rfl z_str PyProof.Rows.boot_str (aa (ae (pv 0)) ai)))) ai))))
theorem jH:FnScope ["self", "cues", "rules", "whys"] ["self", "cues"] (aj (mth (top 113) 4)):=by walk_at "S"
theorem d8{f:Addr}{fd:FuncData}(F0:Fun K "whys_of_broken" "Desk.whys_of_broken" (mth (top 113) 4) f fd){C_Desk:Addr}(m_Desk:mg "Desk" = some (.ref C_Desk))(cT:ClsT_Desk K C_Desk)(rg:Def P w K mg base 3 "rules_of" 4 dP)(mz:Def P w K mg base 1 "times_of" 1 iJ)(rj:Def P w K mg base 2 "broken" 2 lr)(mB:Def P w K mg base 1 "show_why" 1 gj)(dz_rules_of:DefZ P w K mg base 3 "rules_of" 3 0 dP)(hM:uJ K C_Desk "whys_of_broken" f):DefM P w K mg base 4 "Desk" "whys_of_broken" 2 cg:=by
 have S:=jH
 refine⟨C_Desk,f,fd,["self", "cues"],cT.nn,cT.cl,⟨hM.1,hM.2,F0.kp⟩,uj (N:=["self", "cues", "rules", "whys"]) (ps:=["self", "cues"]) (k:=3) (g:=cK) F0 S (λcdv A outer s H E hr=>?_),(F0.binds (by walk_at "B2"))⟩
 unfold cK
 exact(av (b7 (i:=2) S.nd rfl (by walk_at "L") (Bk dz_rules_of (hr.mono (by decide)) rfl rfl (aa (ja ⟨cT.nn,cT.cl⟩ cT.settings_ (ae (pv 0))) (aa (ae (pv 1)) (aa (ja ⟨cT.nn,cT.cl⟩ cT.cuts_ (ae (pv 0))) ai)))))
  (av (wZ (iy:=3) (fr:=[(2, "rules")]) (tn:=["number"]) rfl rfl (by decide +kernel) (by rfl) (λ_ _ h=>h) (g8 (by rfl)) (pA rfl rfl rfl ⟨_,rfl⟩ jY) (by decide +kernel) (fF (aG rj (hr.mono (by decide)) rfl rfl (aa (ae (pv 2)) (aa (aG mz (hr.mono (by decide)) rfl rfl (aa (ae (pv 1)) ai)) ai)))) (λC s3 H3 fp=>(aI (aS (i:=0) (show(["number", "rules"]:List Str).Nodup from by decide +kernel) rfl (by walk_at "L")))) (λC s3 H3 fp=>ij) (λC s3 H3 fp=>(aG mB (hr.mono (by decide)) rfl rfl (aa (aA (aA (ae (pv 1)) (ae (pv 0)) (λ_ _=>rfl)) al (λ_ _=>rfl)) ai))) S.nd rfl (by walk_at "L"))
  (aw (bc (pd_if (wW (ae (pv 3))) (cW PySem.F.slot_str_join PySem.F.type_str_join nk aq (aa (ae (pv 3)) ai)) aq)))))
theorem pX:FnScope ["word", "low", "high"] ["word", "low", "high"] (aj (top 118)):=by walk_at "S"
theorem jj{f:Addr}{fd:FuncData}(F0:Fun K "read_number" "read_number" (top 118) f fd)(hm:mg "read_number" = some (.ref f))(dk:Def P w K mg base 1 "are_figures" 1 bZ)(z_len:mg "len" = none)(z_int:mg "int" = none):Def P w K mg base 2 "read_number" 3 eX:=by
 have S:=pX
 refine bG (N:=["word", "low", "high"]) (ps:=["word", "low", "high"]) (k:=1) (g:=gp) F0 S hm (F0.binds (by walk_at "B3")) λcdv A outer s H E hr=>?_
 unfold gp
 exact(av (bH (PDW.t (qm (dH (cS (aG dk (hr.mono (by decide)) rfl rfl (aa (ae (pv 0)) ai)))) (qm (aL rc (aU bC rfl z_len PySem.boot_len (aa (ae (pv 0)) ai)) al (aJ _)) (o9 (PDW.t (gX (aL (bO hr.units) (aA (ae (pv 0)) al (λ_ _=>rfl)) aq (aJ _)) (gA (aL (fQ hr.units) (ae (pv 0)) aq (aJ _))))))))) (aw dR) bw)
  (av (bH (dH (sj cv cv (ae (pv 1)) (bB et rfl z_int PyProof.Rows.boot_int (aa (ae (pv 0)) ai)) (ae (pv 2)))) (aw dR) bw)
  (aw (bc (bB et rfl z_int PyProof.Rows.boot_int (aa (ae (pv 0)) ai))))))
theorem jI:FnScope ["self", "words", "bounds"] ["self", "words"] (aj (mth (top 113) 6)):=by walk_at "S"
theorem dN{f:Addr}{fd:FuncData}(F0:Fun K "change_setting" "Desk.change_setting" (mth (top 113) 6) f fd){C_Desk:Addr}(m_Desk:mg "Desk" = some (.ref C_Desk)){a_BOUNDS:Addr}(m_BOUNDS:mg "BOUNDS" = some (.ref a_BOUNDS))(T_BOUNDS:KDD P w K a_BOUNDS eF)(cT:ClsT_Desk K C_Desk)(jj:Def P w K mg base 2 "read_number" 3 eX)(hM:uJ K C_Desk "change_setting" f):SL.DefSM P w K mg base 3 "Desk" "change_setting" 2 b9:=by
 have S:=jI
 refine⟨C_Desk,f,fd,["self", "words"],cT.nn,cT.cl,⟨hM.1,hM.2,F0.kp⟩,SL.jZ (N:=["self", "words", "bounds"]) (ps:=["self", "words"]) (k:=2) (g:=cL) F0 S (λcdv A outer s H E hr=>?_),(F0.binds (by walk_at "B2"))⟩
 unfold cL
 exact(aO (dE (cH (wX T_BOUNDS rfl m_BOUNDS (aA (ae (pv 1)) al (λ_ _=>rfl)))) (aR j9) dm)
  (aO (dq (i:=2) S.nd rfl (by walk_at "L") (bn (DI T_BOUNDS rfl m_BOUNDS (aA (ae (pv 1)) al (λ_ _=>rfl)) (λ_ _=>rfl))))
  (aR (o4 (dS hr) (sx_at (bA (pv 0)) cT.nn cT.cl cT.settings_) (bn (aA (ae (pv 1)) al (λ_ _=>rfl))) (bn (aG jj (hr.mono (by decide)) rfl rfl (aa (aA (ae (pv 1)) al (λ_ _=>rfl)) (aa (aA (ae (pv 2)) al (λ_ _=>rfl)) (aa (aA (ae (pv 2)) al (λ_ _=>rfl)) ai)))))))))
theorem oZ:FnScope ["self", "moment"] ["self", "moment"] (aj (mth (top 113) 7)):=by walk_at "S"
theorem gS{f:Addr}{fd:FuncData}(F0:Fun K "put_cut" "Desk.put_cut" (mth (top 113) 7) f fd){C_Desk:Addr}(m_Desk:mg "Desk" = some (.ref C_Desk))(cT:ClsT_Desk K C_Desk)(z_sorted:mg "sorted" = none)(hM:uJ K C_Desk "put_cut" f):SL.DefSM P w K mg base 1 "Desk" "put_cut" 2 dX:=by
 have S:=oZ
 refine⟨C_Desk,f,fd,["self", "moment"],cT.nn,cT.cl,⟨hM.1,hM.2,F0.kp⟩,SL.jZ (N:=["self", "moment"]) (ps:=["self", "moment"]) (k:=0) (g:=fN) F0 S (λcdv A outer s H E hr=>?_),(F0.binds (by walk_at "B2"))⟩
 unfold fN
 exact(aR (dE (mL (aL my (ae (pv 1)) (ja ⟨cT.nn,cT.cl⟩ cT.cuts_ (ae (pv 0))) rfl)) (aR (jm (bA (pv 0)) (tm (wY rfl rfl z_sorted (aa (Bg (yr (ja ⟨cT.nn,cT.cl⟩ cT.cuts_ (ae (pv 0))) (Bg (cV (aa (ae (pv 1)) ai))))) ai))) cT.nn cT.cl cT.cuts_)) dm))
theorem mP:FnScope ["self", "moment"] ["self", "moment"] (aj (mth (top 113) 8)):=by walk_at "S"
theorem fP{f:Addr}{fd:FuncData}(F0:Fun K "leave_cut" "Desk.leave_cut" (mth (top 113) 8) f fd){C_Desk:Addr}(m_Desk:mg "Desk" = some (.ref C_Desk))(cT:ClsT_Desk K C_Desk)(hM:uJ K C_Desk "leave_cut" f):SL.DefSM P w K mg base 1 "Desk" "leave_cut" 2 dg:=by
 have S:=mP
 refine⟨C_Desk,f,fd,["self", "moment"],cT.nn,cT.cl,⟨hM.1,hM.2,F0.kp⟩,SL.jZ (N:=["self", "moment"]) (ps:=["self", "moment"]) (k:=0) (g:=eI) F0 S (λcdv A outer s H E hr=>?_),(F0.binds (by walk_at "B2"))⟩
 unfold eI
 exact(aR (jm (bA (pv 0)) (uU (zB (fr:=[(1, "moment")]) (tn:=["cut"]) rfl rfl (by decide +kernel) (by rfl) (λ_ _ h=>h) (g8 (by rfl)) (pA rfl rfl rfl ⟨_,rfl⟩ jY) (by decide +kernel) (fF (ja ⟨cT.nn,cT.cl⟩ cT.cuts_ (ae (pv 0)))) (λC s3 H3 fp=>(aI (aS (i:=0) (show(["cut", "moment"]:List Str).Nodup from by decide +kernel) rfl (by walk_at "L")))) (λC s3 H3 fp=>(vB (aL (fQ hr.units) (ae (pv 0)) (ae (pv 1)) (aJ _)))) (λC s3 H3 fp=>(ae (pv 0))))) cT.nn cT.cl cT.cuts_))
theorem wM:FnScope ["thing"] ["thing"] (aj (top 17)):=by walk_at "S"
theorem jx{f:Addr}{fd:FuncData}(F0:Fun K "is_name" "is_name" (top 17) f fd)(hm:mg "is_name" = some (.ref f))(z_isinstance:mg "isinstance" = none)(z_str:mg "str" = none)(z_len:mg "len" = none)(z_all:mg "all" = none):Def P w K mg base 1 "is_name" 1 gm:=by
 have S:=wM
 refine bG (N:=["thing"]) (ps:=["thing"]) (k:=0) (g:=lE) F0 S hm (F0.binds (by walk_at "B1")) λcdv A outer s H E hr=>?_
 unfold lE
 exact(av (bH (PDW.t (qm (dH (cS (fq rfl (m3 _) rfl z_isinstance rfl z_str PyProof.Rows.boot_str (ae (pv 0))))) (o9 (dH (sj cv cv al (aU bC rfl z_len PySem.boot_len (aa (ae (pv 0)) ai)) al))))) (aw (bc oC)) bw)
  (aw (bc (aU (lQ rfl) rfl z_all PyProof.Rows.boot_all (aa (ik (fr:=[]) (tn:=["sign"]) rfl rfl (by decide +kernel) (by rfl) (λ_ _ h=>h) (g8 (by rfl)) jY (by decide +kernel) (fF (ae (pv 0))) (λC s3 H3 fp=>(aI (aS (i:=0) (show(["sign"]:List Str).Nodup from by decide +kernel) rfl (by walk_at "L")))) (λC s3 H3 fp=>ij) (λC s3 H3 fp=>(kJ cv cv aq (ae (pv 0)) aq))) ai)))))
theorem vh:FnScope ["word"] ["word"] (aj (top 117)):=by walk_at "S"
theorem mD{f:Addr}{fd:FuncData}(F0:Fun K "read_new" "read_new" (top 117) f fd)(hm:mg "read_new" = some (.ref f))(jx:Def P w K mg base 1 "is_name" 1 gm):Def P w K mg base 2 "read_new" 1 iL:=by
 have S:=vh
 refine bG (N:=["word"]) (ps:=["word"]) (k:=1) (g:=jW) F0 S hm (F0.binds (by walk_at "B1")) λcdv A outer s H E hr=>?_
 unfold jW
 exact(av (bH (dH (cS (aG jx (hr.mono (by decide)) rfl rfl (aa (ae (pv 0)) ai)))) (aw dR) bw)
  (aw (bc (ae (pv 0)))))
theorem vi:FnScope ["thing"] ["thing"] (aj (top 16)):=by walk_at "S"
theorem j6{f:Addr}{fd:FuncData}(F0:Fun K "is_whole" "is_whole" (top 16) f fd)(hm:mg "is_whole" = some (.ref f))(z_isinstance:mg "isinstance" = none)(z_int:mg "int" = none)(z_bool:mg "bool" = none):Def P w K mg base 1 "is_whole" 1 gl:=by
 have S:=vi
 refine bG (N:=["thing"]) (ps:=["thing"]) (k:=0) (g:=mr) F0 S hm (F0.binds (by walk_at "B1")) λcdv A outer s H E hr=>?_
 unfold mr
 exact(aw (bc (fZ (fq rfl (Eg _) rfl z_isinstance rfl z_int PyProof.Rows.boot_int (ae (pv 0))) (gN (pd_not (fq rfl (BR _) rfl z_isinstance rfl z_bool PyProof.Rows.boot_bool (ae (pv 0))))))))
theorem oW:FnScope ["sign"] ["sign"] (aj (top 20)):=by walk_at "S"
theorem iD{f:Addr}{fd:FuncData}(F0:Fun K "is_word_sign" "is_word_sign" (top 20) f fd)(hm:mg "is_word_sign" = some (.ref f)){t_PERCENT:Tok}(m_PERCENT:mg "PERCENT" = some (.int 37 t_PERCENT))(z_ord:mg "ord" = none):Def P w K mg base 1 "is_word_sign" 1 dz:=by
 have S:=oW
 refine bG (N:=["sign"]) (ps:=["sign"]) (k:=0) (g:=fM) F0 S hm (F0.binds (by walk_at "B1")) λcdv A outer s H E hr=>?_
 unfold fM
 exact(aw (bc (fZ (kJ cv cv aq (ae (pv 0)) aq) (gN (fH (fQ hr.units) (aU Aa rfl z_ord PyProof.Rows.boot_ord (aa (ae (pv 0)) ai)) (Bj rfl m_PERCENT) (aJ _))))))
theorem wL:FnScope ["text"] ["text"] (aj (top 19)):=by walk_at "S"
theorem ot{f:Addr}{fd:FuncData}(F0:Fun K "is_word" "is_word" (top 19) f fd)(hm:mg "is_word" = some (.ref f))(iD:Def P w K mg base 1 "is_word_sign" 1 dz)(z_len:mg "len" = none)(z_all:mg "all" = none):Def P w K mg base 2 "is_word" 1 h9:=by
 have S:=wL
 refine bG (N:=["text"]) (ps:=["text"]) (k:=1) (g:=lD) F0 S hm (F0.binds (by walk_at "B1")) λcdv A outer s H E hr=>?_
 unfold lD
 exact(aw (bc (fZ (kJ cv cv al (aU bC rfl z_len PySem.boot_len (aa (ae (pv 0)) ai)) al) (gN (aU (lQ rfl) rfl z_all PyProof.Rows.boot_all (aa (ik (fr:=[]) (tn:=["sign"]) rfl rfl (by decide +kernel) (by rfl) (λ_ _ h=>h) (g8 (by rfl)) jY (by decide +kernel) (fF (ae (pv 0))) (λC s3 H3 fp=>(aI (aS (i:=0) (show(["sign"]:List Str).Nodup from by decide +kernel) rfl (by walk_at "L")))) (λC s3 H3 fp=>ij) (λC s3 H3 fp=>(aG iD (hr.mono (by decide)) rfl rfl (aa (ae (pv 0)) ai)))) ai))))))
theorem tz:FnScope ["thing"] ["thing"] (aj (top 18)):=by walk_at "S"
theorem lj{f:Addr}{fd:FuncData}(F0:Fun K "are_words" "are_words" (top 18) f fd)(hm:mg "are_words" = some (.ref f))(ot:Def P w K mg base 2 "is_word" 1 h9)(z_isinstance:mg "isinstance" = none)(z_str:mg "str" = none)(z_all:mg "all" = none):Def P w K mg base 3 "are_words" 1 gI:=by
 have S:=tz
 refine bG (N:=["thing"]) (ps:=["thing"]) (k:=2) (g:=iS) F0 S hm (F0.binds (by walk_at "B1")) λcdv A outer s H E hr=>?_
 unfold iS
 exact(aw (bc (fZ (fq rfl (m3 _) rfl z_isinstance rfl z_str PyProof.Rows.boot_str (ae (pv 0))) (gN (aU (lQ rfl) rfl z_all PyProof.Rows.boot_all (aa (ik (fr:=[]) (tn:=["part"]) rfl rfl (by decide +kernel) (by rfl) (λ_ _ h=>h) (g8 (by rfl)) jY (by decide +kernel) (fF (cW PySem.F.slot_str_split PySem.F.type_str_split lN (ae (pv 0)) (aa aq ai))) (λC s3 H3 fp=>(aI (aS (i:=0) (show(["part"]:List Str).Nodup from by decide +kernel) rfl (by walk_at "L")))) (λC s3 H3 fp=>ij) (λC s3 H3 fp=>(aG ot (hr.mono (by decide)) rfl rfl (aa (ae (pv 0)) ai)))) ai))))))
theorem zr:FnScope ["thing"] ["thing"] (aj (top 48)):=by walk_at "S"
theorem ri{f:Addr}{fd:FuncData}(F0:Fun K "is_cue" "is_cue" (top 48) f fd)(hm:mg "is_cue" = some (.ref f))(j6:Def P w K mg base 1 "is_whole" 1 gl)(jx:Def P w K mg base 1 "is_name" 1 gm)(lj:Def P w K mg base 3 "are_words" 1 gI)(z_isinstance:mg "isinstance" = none)(z_tuple:mg "tuple" = none)(z_len:mg "len" = none):Def P w K mg base 4 "is_cue" 1 lq:=by
 have S:=zr
 refine bG (N:=["thing"]) (ps:=["thing"]) (k:=3) (g:=nh) F0 S hm (F0.binds (by walk_at "B1")) λcdv A outer s H E hr=>?_
 unfold nh
 exact(av (bH (PDW.t (qm (dH (cS (fq rfl (zO _) rfl z_isinstance rfl z_tuple PyProof.Rows.boot_tuple (ae (pv 0))))) (o9 (aL (fQ hr.units) (aU bC rfl z_len PySem.boot_len (aa (ae (pv 0)) ai)) al (aJ _))))) (aw (bc oC)) bw)
  (av (bH (PDW.t (qm (dH (cS (aG j6 (hr.mono (by decide)) rfl rfl (aa (aA (ae (pv 0)) al (λ_ _=>rfl)) ai)))) (o9 (dH (cS (aG j6 (hr.mono (by decide)) rfl rfl (aa (aA (ae (pv 0)) al (λ_ _=>rfl)) ai))))))) (aw (bc oC)) bw)
  (aw (bc (fZ (kJ cv lc al (aA (ae (pv 0)) al (λ_ _=>rfl)) (aA (ae (pv 0)) al (λ_ _=>rfl))) (fZ (aG jx (hr.mono (by decide)) rfl rfl (aa (aA (ae (pv 0)) al (λ_ _=>rfl)) ai)) (gN (aG lj (hr.mono (by decide)) rfl rfl (aa (aA (ae (pv 0)) al (λ_ _=>rfl)) ai)))))))))
theorem vg:FnScope ["clock", "row", "number", "parts", "cue"] ["clock", "row", "number"] (aj (top 53)):=by walk_at "S"
theorem mC{f:Addr}{fd:FuncData}(F0:Fun K "read_row" "read_row" (top 53) f fd)(hm:mg "read_row" = some (.ref f))(bP:DefM P w K mg base 6 "Thousandths" "read" 2 bz)(ri:Def P w K mg base 4 "is_cue" 1 lq)(z_len:mg "len" = none):Def P w K mg base 7 "read_row" 3 iK:=by
 have S:=vg
 refine bG (N:=["clock", "row", "number", "parts", "cue"]) (ps:=["clock", "row", "number"]) (k:=6) (g:=jV) F0 S hm (F0.binds (by walk_at "B3")) λcdv A outer s H E hr=>?_
 unfold jV
 exact(av (b7 (i:=3) S.nd rfl (by walk_at "L") (cW PySem.F.slot_str_split PySem.F.type_str_split xC (ae (pv 1)) (aa aq (aa al ai))))
  (av (bH (aL (fQ hr.units) (aU bC rfl z_len PySem.boot_len (aa (ae (pv 3)) ai)) al (aJ _)) (aw dR) bw)
  (av (DH (λpn xe=>(aw (b7 (i:=4) S.nd rfl (by walk_at "L") (cc (aa (jq bP (hr.mono (by decide)) rfl (ae (pv 0)) (aa (aA (ae (pv 3)) al (λ_ _=>rfl)) ai)) (aa (jq bP (hr.mono (by decide)) rfl (ae (pv 0)) (aa (aA (ae (pv 3)) al (λ_ _=>rfl)) ai)) (aa (aA (ae (pv 3)) al (λ_ _=>rfl)) (aa (aA (ae (pv 3)) al (λ_ _=>rfl)) ai)))))))))
  (av (bH (dH (cS (aG ri (hr.mono (by decide)) rfl rfl (aa (ae (pv 4)) ai)))) (aw dR) bw)
  (aw (bc (ae (pv 4))))))))
theorem wJ:FnScope ["text"] ["text"] (aj (top 52)):=by walk_at "S"
theorem oj{f:Addr}{fd:FuncData}(F0:Fun K "rows_of" "rows_of" (top 52) f fd)(hm:mg "rows_of" = some (.ref f)):Def P w K mg base 1 "rows_of" 1 jE:=by
 have S:=wJ
 refine bG (N:=["text"]) (ps:=["text"]) (k:=0) (g:=lB) F0 S hm (F0.binds (by walk_at "B1")) λcdv A outer s H E hr=>?_
 unfold lB
 exact(aw (bc (pd_if (wW (ae (pv 0))) (cW PySem.F.slot_str_split PySem.F.type_str_split lN (ae (pv 0)) (aa aq ai)) (fk ai))))
theorem tu:FnScope ["clock", "text", "cues", "number", "row", "cue"] ["clock", "text"] (aj (top 51)):=by walk_at "S"
theorem li{f:Addr}{fd:FuncData}(F0:Fun K "read_cues" "read_cues" (top 51) f fd)(hm:mg "read_cues" = some (.ref f))(mC:Def P w K mg base 7 "read_row" 3 iK)(oj:Def P w K mg base 1 "rows_of" 1 jE)(z_isinstance:mg "isinstance" = none)(z_str:mg "str" = none)(z_enumerate:mg "enumerate" = none):DefF P w K mg base 8 "read_cues" 2 gH:=by
 have S:=tu
 refine nu (N:=["clock", "text", "cues", "number", "row", "cue"]) (ps:=["clock", "text"]) (k:=7) (g:=iQ) F0 S hm (F0.binds (by walk_at "B2")) λcdv A outer s H E hr=>?_
 unfold iQ gx
 exact(cn (bH (dH (cS (fq rfl (m3 _) rfl z_isinstance rfl z_str PyProof.Rows.boot_str (ae (pv 1))))) (aw dR) bw)
  (cn (gY (i:=2) S.nd rfl (by walk_at "L") (cV ai))
  (cn (fG PassesOwn.never rfl (zA rfl z_enumerate (aa (aG oj (hr.mono (by decide)) rfl rfl (aa (ae (pv 1)) ai)) ai)) (e5 rfl (aT (aI (aS (i:=3) S.nd rfl (by walk_at "L"))) (aT (aI (aS (i:=4) S.nd rfl (by walk_at "L"))) dQ))) (av (b7 (i:=5) S.nd rfl (by walk_at "L") (aG mC (hr.mono (by decide)) rfl rfl (aa (ae (pv 0)) (aa (ae (pv 4)) (aa (ae (pv 3)) ai)))))
  (av (bH (Bf 2 (PDW.t (gX (wW (ae (pv 2))) (gA (aL lc (aA (ae (pv 5)) al (λ_ _=>rfl)) (aA (aA (ae (pv 2)) (qo al) (λ_ _=>rfl)) al (λ_ _=>rfl)) (aJ _)))))) (aw dR) bw)
  (aw (jP (i:=2) (pv 2) (ae (pv 5)))))))
  (sk (pv 2)))))
theorem nV:FnScope ["self", "words", "text", "name"] ["self", "words", "text"] (aj (mth (top 113) 9)):=by walk_at "S"
theorem gg{f:Addr}{fd:FuncData}(F0:Fun K "put_cues" "Desk.put_cues" (mth (top 113) 9) f fd){C_Desk:Addr}(m_Desk:mg "Desk" = some (.ref C_Desk))(cT:ClsT_Desk K C_Desk)(mD:Def P w K mg base 2 "read_new" 1 iL)(li:DefF P w K mg base 8 "read_cues" 2 gH)(hM:uJ K C_Desk "put_cues" f):SL.DefSM P w K mg base 9 "Desk" "put_cues" 3 dA:=by
 have S:=nV
 refine⟨C_Desk,f,fd,["self", "words", "text"],cT.nn,cT.cl,⟨hM.1,hM.2,F0.kp⟩,SL.jZ (N:=["self", "words", "text", "name"]) (ps:=["self", "words", "text"]) (k:=8) (g:=e6) F0 S (λcdv A outer s H E hr=>?_),(F0.binds (by walk_at "B3"))⟩
 unfold e6
 exact(aO (dq (i:=3) S.nd rfl (by walk_at "L") (bn (aG mD (hr.mono (by decide)) rfl rfl (aa (aA (ae (pv 1)) al (λ_ _=>rfl)) ai))))
  (aR (o4 (dS hr) (sx_at (bA (pv 0)) cT.nn cT.cl cT.cues_) (bA (pv 3)) (uU (kI li (hr.mono (by decide)) rfl rfl (aa (ja ⟨cT.nn,cT.cl⟩ cT.clock_ (ae (pv 0))) (aa (ae (pv 2)) ai)))))))
theorem qa:FnScope ["self", "words", "text", "first"] ["self", "words", "text"] (aj (mth (top 113) 2)):=by walk_at "S"
theorem iz{f:Addr}{fd:FuncData}(F0:Fun K "change" "Desk.change" (mth (top 113) 2) f fd){C_Desk:Addr}(m_Desk:mg "Desk" = some (.ref C_Desk))(cT:ClsT_Desk K C_Desk)(bP:DefM P w K mg base 6 "Thousandths" "read" 2 bz)(dN:SL.DefSM P w K mg base 3 "Desk" "change_setting" 2 b9)(gS:SL.DefSM P w K mg base 1 "Desk" "put_cut" 2 dX)(fP:SL.DefSM P w K mg base 1 "Desk" "leave_cut" 2 dg)(gg:SL.DefSM P w K mg base 9 "Desk" "put_cues" 3 dA)(hM:uJ K C_Desk "change" f):SL.DefSM P w K mg base 10 "Desk" "change" 3 cG:=by
 have S:=qa
 refine⟨C_Desk,f,fd,["self", "words", "text"],cT.nn,cT.cl,⟨hM.1,hM.2,F0.kp⟩,SL.jZ (N:=["self", "words", "text", "first"]) (ps:=["self", "words", "text"]) (k:=9) (g:=di) F0 S (λcdv A outer s H E hr=>?_),(F0.binds (by walk_at "B3"))⟩
 unfold di
 exact(aO (dq (i:=3) S.nd rfl (by walk_at "L") (bn (aA (ae (pv 1)) al (λ_ _=>rfl))))
  (aR (dE (cH (aL (bO hr.units) (ae (pv 3)) aq (aJ _))) (aR j9) (aR (dE (cH (aL (bO hr.units) (ae (pv 3)) aq (aJ _))) (aR (jG (gM dN (hr.mono (by decide)) rfl (bA (pv 0)) (cI (bA (pv 1)) fY)))) (aR (dE (cH (aL (bO hr.units) (ae (pv 3)) aq (aJ _))) (aR (jG (gM gS (hr.mono (by decide)) rfl (bA (pv 0)) (cI (ef (jq bP (hr.mono (by decide)) rfl (ja ⟨cT.nn,cT.cl⟩ cT.clock_ (ae (pv 0))) (aa (aA (ae (pv 1)) al (λ_ _=>rfl)) ai))) fY)))) (aR (dE (cH (aL (bO hr.units) (ae (pv 3)) aq (aJ _))) (aR (jG (gM fP (hr.mono (by decide)) rfl (bA (pv 0)) (cI (ef (jq bP (hr.mono (by decide)) rfl (ja ⟨cT.nn,cT.cl⟩ cT.clock_ (ae (pv 0))) (aa (aA (ae (pv 1)) al (λ_ _=>rfl)) ai))) fY)))) (aR (dE (cH (aL (bO hr.units) (ae (pv 3)) aq (aJ _))) (aR (jG (gM gg (hr.mono (by decide)) rfl (bA (pv 0)) (cI (bA (pv 1)) (cI (bA (pv 2)) fY))))) (aR (dE (cH (aL (bO hr.units) (ae (pv 3)) aq (aJ _))) (aR j9) (aR (dE (cH (aL (bO hr.units) (ae (pv 3)) aq (aJ _))) (aR j9) (aR (dE (cH (aL (bO hr.units) (ae (pv 3)) aq (aJ _))) (aR j9) (aR (dE (cH (aL (bO hr.units) (ae (pv 3)) aq (aJ _))) (aR j9) (aR (dE (cH (aL (bO hr.units) (ae (pv 3)) aq (aJ _))) (aR j9) (aR j9))))))))))))))))))))))
theorem vm:FnScope ["self", "row", "parts", "words"] ["self", "row"] (aj (mth (top 113) 1)):=by walk_at "S"
theorem db{f:Addr}{fd:FuncData}(F0:Fun K "say" "Desk.say" (mth (top 113) 1) f fd){C_Desk:Addr}(m_Desk:mg "Desk" = some (.ref C_Desk))(cT:ClsT_Desk K C_Desk)(gh:Def P w K mg base 1 "words_and_text" 1 bE)(rh:Def P w K mg base 1 "is_row" 1 iM)(iE:DefM P w K mg base 1 "Desk" "cues_by" 2 eE)(d8:DefM P w K mg base 4 "Desk" "whys_of_broken" 2 cg)(iz:SL.DefSM P w K mg base 10 "Desk" "change" 3 cG)(hM:uJ K C_Desk "say" f):SL.DefSM P w K mg base 11 "Desk" "say" 2 bt:=by
 have S:=vm
 refine⟨C_Desk,f,fd,["self", "row"],cT.nn,cT.cl,⟨hM.1,hM.2,F0.kp⟩,SL.jZ (N:=["self", "row", "parts", "words"]) (ps:=["self", "row"]) (k:=10) (g:=iq) F0 S (λcdv A outer s H E hr=>?_),(F0.binds (by walk_at "B2"))⟩
 unfold iq
 exact(aO (dq (i:=2) S.nd rfl (by walk_at "L") (bn (aG gh (hr.mono (by decide)) rfl rfl (aa (ae (pv 1)) ai))))
  (aO (dq (i:=3) S.nd rfl (by walk_at "L") (bn (aA (ae (pv 2)) al (λ_ _=>rfl))))
  (aO (dE (cH (dH (cS (aG rh (hr.mono (by decide)) rfl rfl (aa (ae (pv 3)) ai))))) (aR j9) dm)
  (aO (dE (cH (aL (bO hr.units) (aA (ae (pv 3)) al (λ_ _=>rfl)) aq (aJ _))) (aR j9) dm)
  (aO (dE (cH (aL (bO hr.units) (aA (ae (pv 3)) al (λ_ _=>rfl)) aq (aJ _))) (aR (ib (ef (jq d8 (hr.mono (by decide)) rfl (ae (pv 0)) (aa (jq iE (hr.mono (by decide)) rfl (ae (pv 0)) (aa (aA (ae (pv 3)) al (λ_ _=>rfl)) ai)) ai))))) dm)
  (aO (dE (cH (aL (bO hr.units) (aA (ae (pv 3)) al (λ_ _=>rfl)) aq (aJ _))) (aR j9) dm)
  (aO (dE (cH (aL (bO hr.units) (aA (ae (pv 3)) al (λ_ _=>rfl)) aq (aJ _))) (aR j9) dm)
  (aO (jG (gM iz (hr.mono (by decide)) rfl (bA (pv 0)) (cI (bA (pv 3)) (cI (bn (aA (ae (pv 2)) al (λ_ _=>rfl))) fY))))
  (aR (ib (bn aq)))))))))))
theorem oY:FnScope ["_law_script", "_law_k"] ["_law_script", "_law_k"] (aj (top 122)):=by walk_at "S"
theorem fT{f:Addr}{fd:FuncData}(F0:Fun K "_law_cell_at" "_law_cell_at" (top 122) f fd)(hm:mg "_law_cell_at" = some (.ref f))(z_len:mg "len" = none):Def P w K mg base 1 "_law_cell_at" 2 cF:=by
 have S:=oY
 refine bG (N:=["_law_script", "_law_k"]) (ps:=["_law_script", "_law_k"]) (k:=0) (g:=el) F0 S hm (F0.binds (by walk_at "B2")) λcdv A outer s H E hr=>?_
 unfold el
 exact(av (bH (aL lc (ae (pv 1)) (aU bC rfl z_len PySem.boot_len (aa (ae (pv 0)) ai)) (aJ _)) (aw (bc (aA (ae (pv 0)) (ae (pv 1)) (λ_ _=>rfl)))) bw)
  (aw (bc al)))
theorem oX:FnScope ["_law_cell", "_law_many", "_law_found", "_law_number", "_law_k"] ["_law_cell", "_law_many"] (aj (top 123)):=by walk_at "S"
theorem eA{f:Addr}{fd:FuncData}(F0:Fun K "_law_numbers" "_law_numbers" (top 123) f fd)(hm:mg "_law_numbers" = some (.ref f))(z_range:mg "range" = none):Def P w K mg base 1 "_law_numbers" 2 cE:=by
 have S:=oX
 refine bG (N:=["_law_cell", "_law_many", "_law_found", "_law_number", "_law_k"]) (ps:=["_law_cell", "_law_many"]) (k:=0) (g:=ek) F0 S hm (F0.binds (by walk_at "B2")) λcdv A outer s H E hr=>?_
 unfold ek jA
 exact(av (gY (i:=2) S.nd rfl (by walk_at "L") (cV ai))
  (av (b7 (i:=3) S.nd rfl (by walk_at "L") (aC cf (ae (pv 0)) al))
  (av (fG PassesOwn.never rfl (vE rfl z_range (aa (ae (pv 1)) ai)) (aI (aS (i:=4) S.nd rfl (by walk_at "L"))) (av (b7 (i:=3) S.nd rfl (by walk_at "L") (aC cf (aC fR (aC aF (aC aF (ae (pv 3)) (ae (pv 4))) al) al) al))
  (aw (jP (i:=2) (pv 2) (ae (pv 3))))))
  (aw (pf (pv 2))))))
theorem p9:FnScope ["_law_moment_here", "_law_ahead", "_law_seconds", "_law_rest", "_law_minutes", "_law_hours"] ["_law_moment_here"] (aj (top 124)):=by walk_at "S"
theorem cx{f:Addr}{fd:FuncData}(F0:Fun K "_law_moment" "_law_moment" (top 124) f fd)(hm:mg "_law_moment" = some (.ref f))(z_divmod:mg "divmod" = none)(z_str:mg "str" = none):Def P w K mg base 1 "_law_moment" 1 bL:=by
 have S:=p9
 refine bG (N:=["_law_moment_here", "_law_ahead", "_law_seconds", "_law_rest", "_law_minutes", "_law_hours"]) (ps:=["_law_moment_here"]) (k:=0) (g:=gv) F0 S hm (F0.binds (by walk_at "B1")) λcdv A outer s H E hr=>?_
 unfold gv
 exact(av (qt (aU j4 rfl z_divmod PyProof.Rows.boot_divmod (aa (ae (pv 0)) (aa al ai))) (e5 rfl (aT (aI (aS (i:=2) S.nd rfl (by walk_at "L"))) (aT (aI (aS (i:=3) S.nd rfl (by walk_at "L"))) dQ))))
  (av (qt (aU j4 rfl z_divmod PyProof.Rows.boot_divmod (aa (ae (pv 2)) (aa al ai))) (e5 rfl (aT (aI (aS (i:=4) S.nd rfl (by walk_at "L"))) (aT (aI (aS (i:=2) S.nd rfl (by walk_at "L"))) dQ))))
  (av (qt (aU j4 rfl z_divmod PyProof.Rows.boot_divmod (aa (ae (pv 4)) (aa al ai))) (e5 rfl (aT (aI (aS (i:=5) S.nd rfl (by walk_at "L"))) (aT (aI (aS (i:=4) S.nd rfl (by walk_at "L"))) dQ))))
  (av (b7 (i:=1) S.nd rfl (by walk_at "L") (aC aF (aC aF (aC aF (aC aF (cW PySem.F.slot_str_zfill PySem.F.type_str_zfill lM (bB dv rfl z_str PyProof.Rows.boot_str (aa (ae (pv 5)) ai)) (aa al ai)) aq) (cW PySem.F.slot_str_zfill PySem.F.type_str_zfill lM (bB dv rfl z_str PyProof.Rows.boot_str (aa (ae (pv 4)) ai)) (aa al ai))) aq) (cW PySem.F.slot_str_zfill PySem.F.type_str_zfill lM (bB dv rfl z_str PyProof.Rows.boot_str (aa (ae (pv 2)) ai)) (aa al ai))))
  (aw (bc (aC aF (aC aF (ae (pv 1)) aq) (cW PySem.F.slot_str_zfill PySem.F.type_str_zfill lM (bB dv rfl z_str PyProof.Rows.boot_str (aa (ae (pv 3)) ai)) (aa al ai)))))))))
theorem vj:FnScope ["_law_settings", "_law_cuts", "_law_cues_here", "_law_cell", "_law_some", "_law_near", "_law_moment_here", "_law_key", "_law_low", "_law_high", "_law_begin", "_law_end"] ["_law_settings", "_law_cuts", "_law_cues_here", "_law_cell"] (aj (top 125)):=by walk_at "S"
theorem lb{f:Addr}{fd:FuncData}(F0:Fun K "_law_row" "_law_row" (top 125) f fd)(hm:mg "_law_row" = some (.ref f))(eA:Def P w K mg base 1 "_law_numbers" 2 cE)(cx:Def P w K mg base 1 "_law_moment" 1 bL)(z_int:mg "int" = none)(z_min:mg "min" = none)(z_max:mg "max" = none)(z_str:mg "str" = none)(z_len:mg "len" = none):SL.DefS P w K mg base 2 "_law_row" 4 df:=by
 have S:=vj
 refine SL.EL (N:=["_law_settings", "_law_cuts", "_law_cues_here", "_law_cell", "_law_some", "_law_near", "_law_moment_here", "_law_key", "_law_low", "_law_high", "_law_begin", "_law_end"]) (ps:=["_law_settings", "_law_cuts", "_law_cues_here", "_law_cell"]) (k:=1) (g:=fm) F0 S hm (F0.binds (by walk_at "B4")) λcdv A outer s H E hr=>?_
 unfold fm
 exact(aO (dq (i:=4) S.nd rfl (by walk_at "L") (bn (aG eA (hr.mono (by decide)) rfl rfl (aa (ae (pv 3)) (aa al ai)))))
  (aO (dE (cH (aL (bO hr.units) (aC cf (ae (pv 3)) al) al (aJ _))) (aO (dq (i:=7) S.nd rfl (by walk_at "L") (bn (aA (fk (aa aq (aa aq (aa aq (aa aq (aa aq (aa aq (aa aq ai)))))))) (aC cf (aA (ae (pv 4)) al (λ_ _=>rfl)) al) (λ_ _=>rfl))))
  (aO (dq (i:=8) S.nd rfl (by walk_at "L") (bn (bB et rfl z_int PyProof.Rows.boot_int (aa (fH yW (ae (pv 7)) (fk (aa aq (aa aq ai))) rfl) ai))))
  (aO (dq (i:=9) S.nd rfl (by walk_at "L") (bn (aC yV al al)))
  (aO (dE (cH (aL yW (ae (pv 7)) (fk (aa aq (aa aq ai))) rfl)) (aR (dq (i:=9) S.nd rfl (by walk_at "L") (bn al))) dm)
  (aO (o4 (dS hr) (bA (pv 0)) (bA (pv 7)) (bn (aA (fk (aa (ae (pv 8)) (aa (aC aF (ae (pv 8)) (aC cf (aA (ae (pv 4)) al (λ_ _=>rfl)) al)) (aa (aC cf (aA (ae (pv 4)) al (λ_ _=>rfl)) al) (aa (ae (pv 9)) ai))))) (aC cf (aA (ae (pv 4)) al (λ_ _=>rfl)) al) (λ_ _=>rfl))))
  (aO (o4 (dS hr) (bA (pv 0)) (bA (pv 7)) (ef (aU (jw rfl) rfl z_max PyProof.Rows.boot_max (aa (ae (pv 8)) (aa (aU (Ab rfl) rfl z_min PyProof.Rows.boot_min (aa (ae (pv 9)) (aa (cp (dS hr) (ae (pv 0)) (ae (pv 7)) (λ_ _=>rfl)) ai))) ai)))))
  (aR (ib (ef (aC aF (aC aF (aC aF aq (ae (pv 7))) aq) (bB dv rfl z_str PyProof.Rows.boot_str (aa (cp (dS hr) (ae (pv 0)) (ae (pv 7)) (λ_ _=>rfl)) ai)))))))))))) dm)
  (aO (C5 (sg_tup rfl (vc (tq (aS (i:=10) S.nd rfl (by walk_at "L"))) (vc (tq (aS (i:=11) S.nd rfl (by walk_at "L"))) C8))) (bn (tP (aA (ae (pv 2)) (aC cf (aC uq (aA (ae (pv 4)) al (λ_ _=>rfl)) al) (aU bC rfl z_len PySem.boot_len (aa (ae (pv 2)) ai))) (λ_ _=>rfl)) vC (mT al))))
  (aO (dq (i:=5) S.nd rfl (by walk_at "L") (ef (aA (fk (aa (ae (pv 10)) (aa (ae (pv 11)) (aa (aC aF (ae (pv 10)) (cp (dS hr) (ae (pv 0)) aq (λ_ _=>rfl))) (aa (aC hU (ae (pv 11)) (cp (dS hr) (ae (pv 0)) aq (λ_ _=>rfl))) (aa (aC uq (aC aF (ae (pv 10)) (ae (pv 11))) al) ai)))))) (aC cf (aA (ae (pv 4)) al (λ_ _=>rfl)) al) (λ_ _=>rfl))))
  (aO (dq (i:=6) S.nd rfl (by walk_at "L") (bn (aU (jw rfl) rfl z_max PyProof.Rows.boot_max (aa al (aa (aC hU (aC aF (ae (pv 5)) (aC cf (aA (ae (pv 4)) al (λ_ _=>rfl)) al)) al) ai)))))
  (aO (dE (mL (PDW.t (gX (aL (bO hr.units) (aC cf (aA (ae (pv 4)) al (λ_ _=>rfl)) al) al (aJ _)) (gA (aL rc (aU bC rfl z_len PySem.boot_len (aa (ae (pv 1)) ai)) al (aJ _)))))) (aO (dq (i:=6) S.nd rfl (by walk_at "L") (ef (aA (ae (pv 1)) (aC cf (aA (ae (pv 4)) al (λ_ _=>rfl)) (aU bC rfl z_len PySem.boot_len (aa (ae (pv 1)) ai))) (λ_ _=>rfl))))
  (aO (jG (sx_rem (bA (pv 1)) (bA (pv 6))))
  (aR (ib (bn (aC aF aq (aG cx (hr.mono (by decide)) rfl rfl (aa (ae (pv 6)) ai)))))))) dm)
  (aO (dE (mL (PDW.t (gX (aL (bO hr.units) (aC cf (aA (ae (pv 4)) al (λ_ _=>rfl)) al) al (aJ _)) (gA (aL my (ae (pv 6)) (ae (pv 1)) rfl))))) (aR (ib (bn (aC aF aq (aG cx (hr.mono (by decide)) rfl rfl (aa (ae (pv 6)) ai)))))) dm)
  (aO (dE (mL (aL my (ae (pv 6)) (ae (pv 1)) rfl)) (aR (jG (sx_app (bA (pv 1)) (bA (pv 6))))) dm)
  (aR (ib (bn (aC aF aq (aG cx (hr.mono (by decide)) rfl rfl (aa (ae (pv 6)) ai))))))))))))))
theorem tG:FnScope ["_law_settings", "_law_cue", "_law_k", "_law_t", "_law_begin", "_law_end", "_law_hand", "_law_words"] ["_law_settings", "_law_cue", "_law_k", "_law_t"] (aj (top 126)):=by walk_at "S"
theorem lm{f:Addr}{fd:FuncData}(F0:Fun K "_law_side" "_law_side" (top 126) f fd)(hm:mg "_law_side" = some (.ref f)):Def P w K mg base 1 "_law_side" 4 gK:=by
 have S:=tG
 refine bG (N:=["_law_settings", "_law_cue", "_law_k", "_law_t", "_law_begin", "_law_end", "_law_hand", "_law_words"]) (ps:=["_law_settings", "_law_cue", "_law_k", "_law_t"]) (k:=0) (g:=iV) F0 S hm (F0.binds (by walk_at "B4")) λcdv A outer s H E hr=>?_
 unfold iV
 exact(av (qt (ae (pv 1)) (e5 rfl (aT (aI (aS (i:=4) S.nd rfl (by walk_at "L"))) (aT (aI (aS (i:=5) S.nd rfl (by walk_at "L"))) (aT (aI (aS (i:=6) S.nd rfl (by walk_at "L"))) (aT (aI (aS (i:=7) S.nd rfl (by walk_at "L"))) dQ))))))
  (av (bH (PDW.t (gX (aL cv (aC aF (ae (pv 4)) (cp (dS hr) (ae (pv 0)) aq (λ_ _=>rfl))) (ae (pv 3)) (aJ _)) (gA (aL cv (aC aF (ae (pv 3)) (cp (dS hr) (ae (pv 0)) aq (λ_ _=>rfl))) (ae (pv 5)) (aJ _))))) (aw (bc aq)) bw)
  (av (bH (aL cv (aC aF (ae (pv 4)) (ae (pv 5))) (aC fR al (ae (pv 3))) (aJ _)) (av (bH (aL rc (ae (pv 5)) (ae (pv 3)) (aJ _)) (aw (bc aq)) bw)
  (aw (bc aq))) bw)
  (av (bH (aL lc (ae (pv 4)) (ae (pv 3)) (aJ _)) (aw (bc aq)) bw)
  (aw (bc aq))))))
theorem rN:FnScope ["_law_settings", "_law_cues_here", "_law_c", "_law_d"] ["_law_settings", "_law_cues_here", "_law_c"] (aj (top 127)):=by walk_at "S"
theorem j7{f:Addr}{fd:FuncData}(F0:Fun K "_law_apart" "_law_apart" (top 127) f fd)(hm:mg "_law_apart" = some (.ref f))(z_str:mg "str" = none)(z_len:mg "len" = none)(z_range:mg "range" = none):Def P w K mg base 1 "_law_apart" 3 fX:=by
 have S:=rN
 refine bG (N:=["_law_settings", "_law_cues_here", "_law_c", "_law_d"]) (ps:=["_law_settings", "_law_cues_here", "_law_c"]) (k:=0) (g:=hE) F0 S hm (F0.binds (by walk_at "B3")) λcdv A outer s H E hr=>?_
 unfold hE cm
 exact(av (fG PassesOwn.never rfl (vD rfl z_range (aa (aC aF (ae (pv 2)) al) (aa (aU bC rfl z_len PySem.boot_len (aa (ae (pv 1)) ai)) ai))) (aI (aS (i:=3) S.nd rfl (by walk_at "L"))) (aw (bH (aL (bO hr.units) (aA (aA (ae (pv 1)) (ae (pv 3)) (λ_ _=>rfl)) al (λ_ _=>rfl)) (aA (aA (ae (pv 1)) (ae (pv 2)) (λ_ _=>rfl)) al (λ_ _=>rfl)) (aJ _)) (av (bH (aL lc (aA (aA (ae (pv 1)) (ae (pv 3)) (λ_ _=>rfl)) al (λ_ _=>rfl)) (aC aF (aA (aA (ae (pv 1)) (ae (pv 2)) (λ_ _=>rfl)) al (λ_ _=>rfl)) (cp (dS hr) (ae (pv 0)) aq (λ_ _=>rfl))) (aJ _)) (aw (bc (fk (aa (aC aF (aC aF (aC aF aq (bB dv rfl z_str PyProof.Rows.boot_str (aa (ae (pv 2)) ai))) aq) (bB dv rfl z_str PyProof.Rows.boot_str (aa (ae (pv 3)) ai))) ai)))) bw)
  (aw (bc (fk ai)))) bw)))
  (aw (bc (fk ai))))
theorem vk:FnScope ["_law_settings", "_law_cues_here", "_law_cuts", "_law_due_here", "_law_c", "_law_cue", "_law_begin", "_law_end", "_law_hand", "_law_words", "_law_k", "_law_t", "_law_side_here"] ["_law_settings", "_law_cues_here", "_law_cuts"] (aj (top 128)):=by walk_at "S"
theorem gi{f:Addr}{fd:FuncData}(F0:Fun K "_law_due" "_law_due" (top 128) f fd)(hm:mg "_law_due" = some (.ref f))(j7:Def P w K mg base 1 "_law_apart" 3 fX)(lm:Def P w K mg base 1 "_law_side" 4 gK)(z_len:mg "len" = none)(z_max:mg "max" = none)(z_str:mg "str" = none)(z_sorted:mg "sorted" = none)(z_enumerate:mg "enumerate" = none):Def P w K mg base 2 "_law_due" 3 dl:=by
 have S:=vk
 refine bG (N:=["_law_settings", "_law_cues_here", "_law_cuts", "_law_due_here", "_law_c", "_law_cue", "_law_begin", "_law_end", "_law_hand", "_law_words", "_law_k", "_law_t", "_law_side_here"]) (ps:=["_law_settings", "_law_cues_here", "_law_cuts"]) (k:=1) (g:=jX) F0 S hm (F0.binds (by walk_at "B3")) λcdv A outer s H E hr=>?_
 unfold jX fV hZ
 exact(av (gY (i:=3) S.nd rfl (by walk_at "L") (cV ai))
  (av (fG PassesOwn.never rfl (kH rfl z_enumerate (aa (ae (pv 1)) ai)) (e5 rfl (aT (aI (aS (i:=4) S.nd rfl (by walk_at "L"))) (aT (aI (aS (i:=5) S.nd rfl (by walk_at "L"))) dQ))) (av (qt (ae (pv 5)) (e5 rfl (aT (aI (aS (i:=6) S.nd rfl (by walk_at "L"))) (aT (aI (aS (i:=7) S.nd rfl (by walk_at "L"))) (aT (aI (aS (i:=8) S.nd rfl (by walk_at "L"))) (aT (aI (aS (i:=9) S.nd rfl (by walk_at "L"))) dQ))))))
  (av (bH (aL lc (aC hU (ae (pv 7)) (ae (pv 6))) (aU (jw rfl) rfl z_max PyProof.Rows.boot_max (aa (cp (dS hr) (ae (pv 0)) aq (λ_ _=>rfl)) (aa (aC fR (cp (dS hr) (ae (pv 0)) aq (λ_ _=>rfl)) (aU bC rfl z_len PySem.boot_len (aa (ae (pv 9)) ai))) ai))) (aJ _)) (aw (jP (i:=3) (pv 3) (aC aF aq (bB dv rfl z_str PyProof.Rows.boot_str (aa (ae (pv 4)) ai))))) bw)
  (av (bH (aL rc (aC hU (ae (pv 7)) (ae (pv 6))) (cp (dS hr) (ae (pv 0)) aq (λ_ _=>rfl)) (aJ _)) (aw (jP (i:=3) (pv 3) (aC aF aq (bB dv rfl z_str PyProof.Rows.boot_str (aa (ae (pv 4)) ai))))) bw)
  (av (gY (i:=3) S.nd rfl (by walk_at "L") (DE 3 (yr (ae (pv 3)) (aG j7 (hr.mono (by decide)) rfl rfl (aa (ae (pv 0)) (aa (ae (pv 1)) (aa (ae (pv 4)) ai)))))))
  (aw (fG PassesOwn.never rfl (kH rfl z_enumerate (aa (aU uw rfl z_sorted PyProof.Rows.boot_sorted (aa (ae (pv 2)) ai)) ai)) (e5 rfl (aT (aI (aS (i:=10) S.nd rfl (by walk_at "L"))) (aT (aI (aS (i:=11) S.nd rfl (by walk_at "L"))) dQ))) (av (b7 (i:=12) S.nd rfl (by walk_at "L") (aG lm (hr.mono (by decide)) rfl rfl (aa (ae (pv 0)) (aa (ae (pv 5)) (aa (ae (pv 10)) (aa (ae (pv 11)) ai))))))
  (aw (bH (aL (fQ hr.units) (ae (pv 12)) aq (aJ _)) (aw (jP (i:=3) (pv 3) (aC aF (aC aF (aC aF (aC aF (ae (pv 12)) aq) (bB dv rfl z_str PyProof.Rows.boot_str (aa (ae (pv 4)) ai))) aq) (bB dv rfl z_str PyProof.Rows.boot_str (aa (ae (pv 10)) ai))))) bw))))))))))
  (yp 3 (av (bH (aL (bO hr.units) (ae (pv 3)) (fk ai) (aJ _)) (aw (bc aq)) bw)
  (aw (bc (cW PySem.F.slot_str_join PySem.F.type_str_join nk aq (aa (ae (pv 3)) ai))))))))
theorem tH:FnScope ["_law_cells", "_law_cues_here", "_law_begin", "_law_cell", "_law_some", "_law_words"] ["_law_cells"] (aj (top 129)):=by walk_at "S"
theorem ln{f:Addr}{fd:FuncData}(F0:Fun K "_law_cues" "_law_cues" (top 129) f fd)(hm:mg "_law_cues" = some (.ref f))(eA:Def P w K mg base 1 "_law_numbers" 2 cE):Def P w K mg base 2 "_law_cues" 1 gL:=by
 have S:=tH
 refine bG (N:=["_law_cells", "_law_cues_here", "_law_begin", "_law_cell", "_law_some", "_law_words"]) (ps:=["_law_cells"]) (k:=1) (g:=iW) F0 S hm (F0.binds (by walk_at "B1")) λcdv A outer s H E hr=>?_
 unfold iW eW
 exact(av (gY (i:=1) S.nd rfl (by walk_at "L") (cV ai))
  (av (b7 (i:=2) S.nd rfl (by walk_at "L") al)
  (av (fG PassesOwn.never rfl (fF (ae (pv 0))) (aI (aS (i:=3) S.nd rfl (by walk_at "L"))) (av (b7 (i:=4) S.nd rfl (by walk_at "L") (aG eA (hr.mono (by decide)) rfl rfl (aa (ae (pv 3)) (aa al ai))))
  (av (b7 (i:=2) S.nd rfl (by walk_at "L") (aC aF (ae (pv 2)) (aA (fk (aa al (aa (aC cf (aA (ae (pv 4)) al (λ_ _=>rfl)) al) (aa (aC cf (aA (ae (pv 4)) al (λ_ _=>rfl)) al) (aa (aC cf (aA (ae (pv 4)) al (λ_ _=>rfl)) (aC yV al al)) ai))))) (aC cf (aA (ae (pv 4)) al (λ_ _=>rfl)) al) (λ_ _=>rfl))))
  (av (b7 (i:=5) S.nd rfl (by walk_at "L") (aA (fk (aa aq (aa aq (aa aq ai)))) (aC cf (aA (ae (pv 4)) al (λ_ _=>rfl)) al) (λ_ _=>rfl)))
  (aw (jP (i:=1) (pv 1) (cc (aa (ae (pv 2)) (aa (aC aF (aC aF (ae (pv 2)) al) (aC cf (aA (ae (pv 4)) al (λ_ _=>rfl)) al)) (aa (aA (fk (aa aq (aa aq (aa aq ai)))) (aC cf (aC uq (aA (ae (pv 4)) al (λ_ _=>rfl)) al) al) (λ_ _=>rfl)) (aa (ae (pv 5)) ai)))))))))))
  (aw (pf (pv 1))))))
theorem tF:FnScope ["_law_cues_here", "_law_rows", "_law_begin", "_law_end", "_law_hand", "_law_words"] ["_law_cues_here"] (aj (top 130)):=by walk_at "S"
theorem iY{f:Addr}{fd:FuncData}(F0:Fun K "_law_text" "_law_text" (top 130) f fd)(hm:mg "_law_text" = some (.ref f))(cx:Def P w K mg base 1 "_law_moment" 1 bL):Def P w K mg base 2 "_law_text" 1 eD:=by
 have S:=tF
 refine bG (N:=["_law_cues_here", "_law_rows", "_law_begin", "_law_end", "_law_hand", "_law_words"]) (ps:=["_law_cues_here"]) (k:=1) (g:=iU) F0 S hm (F0.binds (by walk_at "B1")) λcdv A outer s H E hr=>?_
 unfold iU gy
 exact(av (gY (i:=1) S.nd rfl (by walk_at "L") (cV ai))
  (av (fG PassesOwn.never rfl (fF (ae (pv 0))) (e5 rfl (aT (aI (aS (i:=2) S.nd rfl (by walk_at "L"))) (aT (aI (aS (i:=3) S.nd rfl (by walk_at "L"))) (aT (aI (aS (i:=4) S.nd rfl (by walk_at "L"))) (aT (aI (aS (i:=5) S.nd rfl (by walk_at "L"))) dQ))))) (aw (jP (i:=1) (pv 1) (aC aF (aC aF (aC aF (aC aF (aC aF (aC aF (aG cx (hr.mono (by decide)) rfl rfl (aa (ae (pv 2)) ai)) aq) (aG cx (hr.mono (by decide)) rfl rfl (aa (ae (pv 3)) ai))) aq) (ae (pv 4))) aq) (ae (pv 5))))))
  (yp 1 (aw (bc (cW PySem.F.slot_str_join PySem.F.type_str_join nk aq (aa (ae (pv 1)) ai)))))))
theorem sc_law:FnScope ["_law_script", "_law_many", "_law_cues_here", "_law_settings", "_law_cuts", "_law_desk", "_law_cell", "_law_other"] ["_law_script"] (aj (top 131)):=by walk_at "S"
theorem fn_law{f:Addr}{fd:FuncData}(F0:Fun K "law" "law" (top 131) f fd)(fT:Def P w K mg base 1 "_law_cell_at" 2 cF)(ln:Def P w K mg base 2 "_law_cues" 1 gL)(iY:Def P w K mg base 2 "_law_text" 1 eD)(gi:Def P w K mg base 2 "_law_due" 3 dl)(z_range:mg "range" = none)(hR:SL.MkS P w K mg base 1 "Desk" 1 eK)(db:SL.DefSM P w K mg base 11 "Desk" "say" 2 bt)(lb:SL.DefS P w K mg base 2 "_law_row" 4 df):FnOk P w K mg base CX0 12 f fd ["_law_script"] (spD K 1 zd):=by
 have S:=sc_law
 refine SL.fn_toD (SL.jZ (N:=["_law_script", "_law_many", "_law_cues_here", "_law_settings", "_law_cuts", "_law_desk", "_law_cell", "_law_other"]) (ps:=["_law_script"]) (k:=11) (g:=yF) F0 S λcdv A outer s H E hr=>?_)
 unfold yF lR
 exact(aO (dq (i:=1) S.nd rfl (by walk_at "L") (bn (aC aF al (aC cf (aG fT (hr.mono (by decide)) rfl rfl (aa (ae (pv 0)) (aa al ai))) al))))
  (aO (dq (i:=2) S.nd rfl (by walk_at "L") (bn (aG ln (hr.mono (by decide)) rfl rfl (aa (ik (fr:=[(0, "_law_script")]) (tn:=["_law_k"]) rfl rfl (by decide +kernel) (by rfl) (λ_ _ h=>h) (g8 (by rfl)) (pA rfl rfl rfl ⟨_,rfl⟩ jY) (by decide +kernel) (vE rfl z_range (aa (ae (pv 1)) ai)) (λC s3 H3 fp=>(aI (aS (i:=0) (show(["_law_k", "_law_script"]:List Str).Nodup from by decide +kernel) rfl (by walk_at "L")))) (λC s3 H3 fp=>ij) (λC s3 H3 fp=>(aC aF (aG fT (hr.mono (by decide)) rfl rfl (aa (ae (pv 1)) (aa (aC aF al (ae (pv 0))) ai))) (aC fR al (ae (pv 0)))))) ai))))
  (aO (dq (i:=3) S.nd rfl (by walk_at "L") (ya (cU aq al (cU aq al (cU aq al (cU aq al (cU aq al (cU aq al (cU aq al yq))))))) rfl rfl (by decide) (by decide)))
  (aO (dq (i:=4) S.nd rfl (by walk_at "L") (tm (cV ai)))
  (aO (dq (i:=5) S.nd rfl (by walk_at "L") (AA hR (hr.mono (by decide)) rfl))
  (aO (dE (SW.t (sw_or (nR (fQ hr.units) (gM db (hr.mono (by decide)) rfl (bA (pv 5)) (cI (bn (aC aF aq (aG iY (hr.mono (by decide)) rfl rfl (aa (ae (pv 2)) ai)))) fY)) (bn aq) (aJ _)) (AC (nR (fQ hr.units) (gM db (hr.mono (by decide)) rfl (bA (pv 5)) (cI (bn aq) fY)) (ef (aG gi (hr.mono (by decide)) rfl rfl (aa (ae (pv 3)) (aa (ae (pv 2)) (aa (ae (pv 4)) ai))))) (aJ _))))) (aR (ib (bn oC))) dm)
  (aO (ss_for PassesOwn.never rfl (fF (tP (ae (pv 0)) (mT al) (mT al))) (tq (aS (i:=6) S.nd rfl (by walk_at "L"))) (aO (dE (nR (fQ hr.units) (gM db (hr.mono (by decide)) rfl (bA (pv 5)) (cI (C3 lb (hr.mono (by decide)) rfl rfl (cI (bA (pv 3)) (cI (bA (pv 4)) (cI (bA (pv 2)) (cI (bA (pv 6)) fY))))) fY)) (bn aq) (aJ _)) (aR (ib (bn oC))) dm)
  (aR (dE (nR (fQ hr.units) (gM db (hr.mono (by decide)) rfl (bA (pv 5)) (cI (bn aq) fY)) (ef (aG gi (hr.mono (by decide)) rfl rfl (aa (ae (pv 3)) (aa (ae (pv 2)) (aa (ae (pv 4)) ai))))) (aJ _)) (aR (ib (bn oC))) dm))))
  (aO (dq (i:=7) S.nd rfl (by walk_at "L") (AA hR (hr.mono (by decide)) rfl))
  (aO (dE (SW.t (sw_or (nR (fQ hr.units) (gM db (hr.mono (by decide)) rfl (bA (pv 7)) (cI (bn (aC aF aq (aG iY (hr.mono (by decide)) rfl rfl (aa (ae (pv 2)) ai)))) fY)) (bn aq) (aJ _)) (AC (nR (fQ hr.units) (gM db (hr.mono (by decide)) rfl (bA (pv 5)) (cI (bn aq) fY)) (ef (aG gi (hr.mono (by decide)) rfl rfl (aa (ae (pv 3)) (aa (ae (pv 2)) (aa (ae (pv 4)) ai))))) (aJ _))))) (aR (ib (bn oC))) dm)
  (aO (dq (i:=3) S.nd rfl (by walk_at "L") (ya (cU aq al (cU aq al (cU aq al (cU aq al (cU aq al (cU aq al (cU aq al yq))))))) rfl rfl (by decide) (by decide)))
  (aR (ib (sx_cmp (bO hr.units) (gM db (hr.mono (by decide)) rfl (bA (pv 7)) (cI (bn aq) fY)) (ef (aG gi (hr.mono (by decide)) rfl rfl (aa (ae (pv 3)) (aa (ae (pv 2)) (aa (fk ai) ai))))) (aJ _))))))))))))))
end
theorem all_mk{l:PySem.W.OpenLaw}{w:World}{K:ε}{h:Heap}{mg:Str->Option Value}{fa f0 f1 f2 f3 f4 f5 f6 f7 f8 f9 f10 f11 f12 f13 f14 f15 f16 f17 f18 f19 f20 f21 f22 f23 f24 f25 f26 f27 f28 f29 f30 f31 f32 f33 f34 f35 f36 f37 f38 f39 f40 f41 f42 f43 f44 f45 f46 f47 f48 f49 f50:Addr}(X:K.In h)(G:h.Ns mainGlobals mg)(hfa:mg "law" = some (.ref fa))
  {od0 an0 od1 an1 od2 an2 od3 an3 od4 an4 od5 an5 od6 an6 od7 an7 od8 an8 od9 an9 od10 an10 od11 an11 od12 an12 od13 an13 od14 an14 od15 an15 od16 an16 od17 an17 od18 an18 od19 an19 od20 an20 od21 an21 od22 an22 od23 an23 od24 an24 od25 an25 od26 an26 od27 an27 od28 an28 od29 an29 od30 an30 od31 an31 od32 an32 od33 an33 od34 an34 od35 an35 od36 an36 od37 an37 od38 an38 od39 an39 od40 an40 od41 an41 od42 an42 od43 an43 od44 an44 od45 an45 od46 an46 od47 an47 od48 an48 od49 an49 od50 an50:Option Addr} {sl0 sl1 sl2 sl3 sl4 sl5 sl6 sl7 sl8 sl9 sl10 sl11 sl12 sl13 sl14 sl15 sl16 sl17 sl18 sl19 sl20 sl21 sl22 sl23 sl24 sl25 sl26 sl27 sl28 sl29 sl30 sl31 sl32 sl33 sl34 sl35 sl36 sl37 sl38 sl39 sl40 sl41 sl42 sl43 sl44 sl45 sl46 sl47 sl48 sl49 sl50:Array (Option Value)} {oc0 kV0 dc0 pm0 cd0 ct0 oc1 kV1 dc1 pm1 cd1 ct1 oc2 kV2 dc2 pm2 cd2 ct2 oc3 kV3 dc3 pm3 cd3 ct3 oc4 kV4 dc4 pm4 cd4 ct4 oc5 kV5 dc5 pm5 cd5 ct5 oc6 kV6 dc6 pm6 cd6 ct6 oc7 kV7 dc7 pm7 cd7 ct7 oc8 kV8 dc8 pm8 cd8 ct8 oc9 kV9 dc9 pm9 cd9 ct9 oc10 kV10 dc10 pm10 cd10 ct10 oc11 kV11 dc11 pm11 cd11 ct11 oc12 kV12 dc12 pm12 cd12 ct12 oc13 kV13 dc13 pm13 cd13 ct13 oc14 kV14 dc14 pm14 cd14 ct14 oc15 kV15 dc15 pm15 cd15 ct15 oc16 kV16 dc16 pm16 cd16 ct16 oc17 kV17 dc17 pm17 cd17 ct17 oc18 kV18 dc18 pm18 cd18 ct18 oc19 kV19 dc19 pm19 cd19 ct19 oc20 kV20 dc20 pm20 cd20 ct20 oc21 kV21 dc21 pm21 cd21 ct21 oc22 kV22 dc22 pm22 cd22 ct22 oc23 kV23 dc23 pm23 cd23 ct23 oc24 kV24 dc24 pm24 cd24 ct24 oc25 kV25 dc25 pm25 cd25 ct25 oc26 kV26 dc26 pm26 cd26 ct26 oc27 kV27 dc27 pm27 cd27 ct27 oc28 kV28 dc28 pm28 cd28 ct28 oc29 kV29 dc29 pm29 cd29 ct29 oc30 kV30 dc30 pm30 cd30 ct30 oc31 kV31 dc31 pm31 cd31 ct31 oc32 kV32 dc32 pm32 cd32 ct32 oc33 kV33 dc33 pm33 cd33 ct33 oc34 kV34 dc34 pm34 cd34 ct34 oc35 kV35 dc35 pm35 cd35 ct35 oc36 kV36 dc36 pm36 cd36 ct36 oc37 kV37 dc37 pm37 cd37 ct37 oc38 kV38 dc38 pm38 cd38 ct38 oc39 kV39 dc39 pm39 cd39 ct39 oc40 kV40 dc40 pm40 cd40 ct40 oc41 kV41 dc41 pm41 cd41 ct41 oc42 kV42 dc42 pm42 cd42 ct42 oc43 kV43 dc43 pm43 cd43 ct43 oc44 kV44 dc44 pm44 cd44 ct44 oc45 kV45 dc45 pm45 cd45 ct45 oc46 kV46 dc46 pm46 cd46 ct46 oc47 kV47 dc47 pm47 cd47 ct47 oc48 kV48 dc48 pm48 cd48 ct48 oc49 kV49 dc49 pm49 cd49 ct49 oc50 kV50 dc50 pm50 cd50 ct50:Value}
  (a0:ο K mainGlobals "are_figures" = some (some (.ref f0))) (l0:K.lookup f0=some ⟨oc0,od0,.func (ψ "are_figures" "are_figures" (aE (top 21)) (ax (top 21)) (aj (top 21)) .none kV0 dc0 pm0 an0 cd0 ct0),sl0⟩) (c0:ς K cd0 "are_figures" = true) (k0:ξ K (.ref f0)=true)
  (a1:ο K mainGlobals "has_figures" = some (some (.ref f1))) (l1:K.lookup f1=some ⟨oc1,od1,.func (ψ "has_figures" "has_figures" (aE (top 42)) (ax (top 42)) (aj (top 42)) .none kV1 dc1 pm1 an1 cd1 ct1),sl1⟩) (c1:ς K cd1 "has_figures" = true) (k1:ξ K (.ref f1)=true)
  (a2:ο K mainGlobals "are_hours" = some (some (.ref f2))) (l2:K.lookup f2=some ⟨oc2,od2,.func (ψ "are_hours" "are_hours" (aE (top 40)) (ax (top 40)) (aj (top 40)) .none kV2 dc2 pm2 an2 cd2 ct2),sl2⟩) (c2:ς K cd2 "are_hours" = true) (k2:ξ K (.ref f2)=true)
  (a3:ο K mainGlobals "are_sixtieths" = some (some (.ref f3))) (l3:K.lookup f3=some ⟨oc3,od3,.func (ψ "are_sixtieths" "are_sixtieths" (aE (top 41)) (ax (top 41)) (aj (top 41)) .none kV3 dc3 pm3 an3 cd3 ct3),sl3⟩) (c3:ς K cd3 "are_sixtieths" = true) (k3:ξ K (.ref f3)=true)
  (a4:ο K mainGlobals "read_parts" = some (some (.ref f4))) (l4:K.lookup f4=some ⟨oc4,od4,.func (ψ "read_parts" "read_parts" (aE (top 39)) (ax (top 39)) (aj (top 39)) .none kV4 dc4 pm4 an4 cd4 ct4),sl4⟩) (c4:ς K cd4 "read_parts" = true) (k4:ξ K (.ref f4)=true)
  (a5:ο K mainGlobals "read_moment" = some (some (.ref f5))) (l5:K.lookup f5=some ⟨oc5,od5,.func (ψ "read_moment" "read_moment" (aE (top 33)) (ax (top 33)) (aj (top 33)) .none kV5 dc5 pm5 an5 cd5 ct5),sl5⟩) (c5:ς K cd5 "read_moment" = true) (k5:ξ K (.ref f5)=true)
  (a8:ο K mainGlobals "words_and_text" = some (some (.ref f8))) (l8:K.lookup f8=some ⟨oc8,od8,.func (ψ "words_and_text" "words_and_text" (aE (top 114)) (ax (top 114)) (aj (top 114)) .none kV8 dc8 pm8 an8 cd8 ct8),sl8⟩) (c8:ς K cd8 "words_and_text" = true) (k8:ξ K (.ref f8)=true)
  (a9:ο K mainGlobals "is_row" = some (some (.ref f9))) (l9:K.lookup f9=some ⟨oc9,od9,.func (ψ "is_row" "is_row" (aE (top 115)) (ax (top 115)) (aj (top 115)) .none kV9 dc9 pm9 an9 cd9 ct9),sl9⟩) (c9:ς K cd9 "is_row" = true) (k9:ξ K (.ref f9)=true)
  (a11:ο K mainGlobals "begin_point" = some (some (.ref f11))) (l11:K.lookup f11=some ⟨oc11,od11,.func (ψ "begin_point" "begin_point" (aE (top 80)) (ax (top 80)) (aj (top 80)) .none kV11 dc11 pm11 an11 cd11 ct11),sl11⟩) (c11:ς K cd11 "begin_point" = true) (k11:ξ K (.ref f11)=true)
  (a12:ο K mainGlobals "end_point" = some (some (.ref f12))) (l12:K.lookup f12=some ⟨oc12,od12,.func (ψ "end_point" "end_point" (aE (top 81)) (ax (top 81)) (aj (top 81)) .none kV12 dc12 pm12 an12 cd12 ct12),sl12⟩) (c12:ς K cd12 "end_point" = true) (k12:ξ K (.ref f12)=true)
  (a13:ο K mainGlobals "rules_alone" = some (some (.ref f13))) (l13:K.lookup f13=some ⟨oc13,od13,.func (ψ "rules_alone" "rules_alone" (aE (top 82)) (ax (top 82)) (aj (top 82)) .none kV13 dc13 pm13 an13 cd13 ct13),sl13⟩) (c13:ς K cd13 "rules_alone" = true) (k13:ξ K (.ref f13)=true)
  (a14:ο K mainGlobals "wishes" = some (some (.ref f14))) (l14:K.lookup f14=some ⟨oc14,od14,.func (ψ "wishes" "wishes" (aE (top 83)) (ax (top 83)) (aj (top 83)) .none kV14 dc14 pm14 an14 cd14 ct14),sl14⟩) (c14:ς K cd14 "wishes" = true) (k14:ξ K (.ref f14)=true)
  (a15:ο K mainGlobals "rules_behind" = some (some (.ref f15))) (l15:K.lookup f15=some ⟨oc15,od15,.func (ψ "rules_behind" "rules_behind" (aE (top 84)) (ax (top 84)) (aj (top 84)) .none kV15 dc15 pm15 an15 cd15 ct15),sl15⟩) (c15:ς K cd15 "rules_behind" = true) (k15:ξ K (.ref f15)=true)
  (a16:ο K mainGlobals "rules_of_cut" = some (some (.ref f16))) (l16:K.lookup f16=some ⟨oc16,od16,.func (ψ "rules_of_cut" "rules_of_cut" (aE (top 85)) (ax (top 85)) (aj (top 85)) .none kV16 dc16 pm16 an16 cd16 ct16),sl16⟩) (c16:ς K cd16 "rules_of_cut" = true) (k16:ξ K (.ref f16)=true)
  {T17:Addr} {tt17:Tok} {tn17:Nat} {toc17:Value} {tod17:Option Addr} {tsl17:Array (Option Value)} (a17:ο K mainGlobals "rules_of" = some (some (.ref f17))) (l17:K.lookup f17=some ⟨oc17,od17,.func (ψ "rules_of" "rules_of" (aE (top 74)) (ax (top 74)) (aj (top 74)) (.ref T17) kV17 dc17 pm17 an17 cd17 ct17),sl17⟩) (c17:ς K cd17 "rules_of" = true) (k17:ξ K (.ref f17)=true) (t17:K.lookup T17=some ⟨toc17,tod17,.seq #[.int 0 tt17] tn17,tsl17⟩)
  (a18:ο K mainGlobals "times_of" = some (some (.ref f18))) (l18:K.lookup f18=some ⟨oc18,od18,.func (ψ "times_of" "times_of" (aE (top 119)) (ax (top 119)) (aj (top 119)) .none kV18 dc18 pm18 an18 cd18 ct18),sl18⟩) (c18:ς K cd18 "times_of" = true) (k18:ξ K (.ref f18)=true)
  (a19:ο K mainGlobals "must_be_kept" = some (some (.ref f19))) (l19:K.lookup f19=some ⟨oc19,od19,.func (ψ "must_be_kept" "must_be_kept" (aE (top 78)) (ax (top 78)) (aj (top 78)) .none kV19 dc19 pm19 an19 cd19 ct19),sl19⟩) (c19:ς K cd19 "must_be_kept" = true) (k19:ξ K (.ref f19)=true)
  (a20:ο K mainGlobals "lacking" = some (some (.ref f20))) (l20:K.lookup f20=some ⟨oc20,od20,.func (ψ "lacking" "lacking" (aE (top 79)) (ax (top 79)) (aj (top 79)) .none kV20 dc20 pm20 an20 cd20 ct20),sl20⟩) (c20:ς K cd20 "lacking" = true) (k20:ξ K (.ref f20)=true)
  (a21:ο K mainGlobals "broken" = some (some (.ref f21))) (l21:K.lookup f21=some ⟨oc21,od21,.func (ψ "broken" "broken" (aE (top 76)) (ax (top 76)) (aj (top 76)) .none kV21 dc21 pm21 an21 cd21 ct21),sl21⟩) (c21:ς K cd21 "broken" = true) (k21:ξ K (.ref f21)=true)
  (a22:ο K mainGlobals "show_why" = some (some (.ref f22))) (l22:K.lookup f22=some ⟨oc22,od22,.func (ψ "show_why" "show_why" (aE (top 120)) (ax (top 120)) (aj (top 120)) .none kV22 dc22 pm22 an22 cd22 ct22),sl22⟩) (c22:ς K cd22 "show_why" = true) (k22:ξ K (.ref f22)=true)
  (a24:ο K mainGlobals "read_number" = some (some (.ref f24))) (l24:K.lookup f24=some ⟨oc24,od24,.func (ψ "read_number" "read_number" (aE (top 118)) (ax (top 118)) (aj (top 118)) .none kV24 dc24 pm24 an24 cd24 ct24),sl24⟩) (c24:ς K cd24 "read_number" = true) (k24:ξ K (.ref f24)=true)
  (a28:ο K mainGlobals "is_name" = some (some (.ref f28))) (l28:K.lookup f28=some ⟨oc28,od28,.func (ψ "is_name" "is_name" (aE (top 17)) (ax (top 17)) (aj (top 17)) .none kV28 dc28 pm28 an28 cd28 ct28),sl28⟩) (c28:ς K cd28 "is_name" = true) (k28:ξ K (.ref f28)=true)
  (a29:ο K mainGlobals "read_new" = some (some (.ref f29))) (l29:K.lookup f29=some ⟨oc29,od29,.func (ψ "read_new" "read_new" (aE (top 117)) (ax (top 117)) (aj (top 117)) .none kV29 dc29 pm29 an29 cd29 ct29),sl29⟩) (c29:ς K cd29 "read_new" = true) (k29:ξ K (.ref f29)=true)
  (a30:ο K mainGlobals "is_whole" = some (some (.ref f30))) (l30:K.lookup f30=some ⟨oc30,od30,.func (ψ "is_whole" "is_whole" (aE (top 16)) (ax (top 16)) (aj (top 16)) .none kV30 dc30 pm30 an30 cd30 ct30),sl30⟩) (c30:ς K cd30 "is_whole" = true) (k30:ξ K (.ref f30)=true)
  (a31:ο K mainGlobals "is_word_sign" = some (some (.ref f31))) (l31:K.lookup f31=some ⟨oc31,od31,.func (ψ "is_word_sign" "is_word_sign" (aE (top 20)) (ax (top 20)) (aj (top 20)) .none kV31 dc31 pm31 an31 cd31 ct31),sl31⟩) (c31:ς K cd31 "is_word_sign" = true) (k31:ξ K (.ref f31)=true)
  (a32:ο K mainGlobals "is_word" = some (some (.ref f32))) (l32:K.lookup f32=some ⟨oc32,od32,.func (ψ "is_word" "is_word" (aE (top 19)) (ax (top 19)) (aj (top 19)) .none kV32 dc32 pm32 an32 cd32 ct32),sl32⟩) (c32:ς K cd32 "is_word" = true) (k32:ξ K (.ref f32)=true)
  (a33:ο K mainGlobals "are_words" = some (some (.ref f33))) (l33:K.lookup f33=some ⟨oc33,od33,.func (ψ "are_words" "are_words" (aE (top 18)) (ax (top 18)) (aj (top 18)) .none kV33 dc33 pm33 an33 cd33 ct33),sl33⟩) (c33:ς K cd33 "are_words" = true) (k33:ξ K (.ref f33)=true)
  (a34:ο K mainGlobals "is_cue" = some (some (.ref f34))) (l34:K.lookup f34=some ⟨oc34,od34,.func (ψ "is_cue" "is_cue" (aE (top 48)) (ax (top 48)) (aj (top 48)) .none kV34 dc34 pm34 an34 cd34 ct34),sl34⟩) (c34:ς K cd34 "is_cue" = true) (k34:ξ K (.ref f34)=true)
  (a35:ο K mainGlobals "read_row" = some (some (.ref f35))) (l35:K.lookup f35=some ⟨oc35,od35,.func (ψ "read_row" "read_row" (aE (top 53)) (ax (top 53)) (aj (top 53)) .none kV35 dc35 pm35 an35 cd35 ct35),sl35⟩) (c35:ς K cd35 "read_row" = true) (k35:ξ K (.ref f35)=true)
  (a36:ο K mainGlobals "rows_of" = some (some (.ref f36))) (l36:K.lookup f36=some ⟨oc36,od36,.func (ψ "rows_of" "rows_of" (aE (top 52)) (ax (top 52)) (aj (top 52)) .none kV36 dc36 pm36 an36 cd36 ct36),sl36⟩) (c36:ς K cd36 "rows_of" = true) (k36:ξ K (.ref f36)=true)
  (a37:ο K mainGlobals "read_cues" = some (some (.ref f37))) (l37:K.lookup f37=some ⟨oc37,od37,.func (ψ "read_cues" "read_cues" (aE (top 51)) (ax (top 51)) (aj (top 51)) .none kV37 dc37 pm37 an37 cd37 ct37),sl37⟩) (c37:ς K cd37 "read_cues" = true) (k37:ξ K (.ref f37)=true)
  (a41:ο K mainGlobals "_law_cell_at" = some (some (.ref f41))) (l41:K.lookup f41=some ⟨oc41,od41,.func (ψ "_law_cell_at" "_law_cell_at" (aE (top 122)) (ax (top 122)) (aj (top 122)) .none kV41 dc41 pm41 an41 cd41 ct41),sl41⟩) (c41:ς K cd41 "_law_cell_at" = true) (k41:ξ K (.ref f41)=true)
  (a42:ο K mainGlobals "_law_numbers" = some (some (.ref f42))) (l42:K.lookup f42=some ⟨oc42,od42,.func (ψ "_law_numbers" "_law_numbers" (aE (top 123)) (ax (top 123)) (aj (top 123)) .none kV42 dc42 pm42 an42 cd42 ct42),sl42⟩) (c42:ς K cd42 "_law_numbers" = true) (k42:ξ K (.ref f42)=true)
  (a43:ο K mainGlobals "_law_moment" = some (some (.ref f43))) (l43:K.lookup f43=some ⟨oc43,od43,.func (ψ "_law_moment" "_law_moment" (aE (top 124)) (ax (top 124)) (aj (top 124)) .none kV43 dc43 pm43 an43 cd43 ct43),sl43⟩) (c43:ς K cd43 "_law_moment" = true) (k43:ξ K (.ref f43)=true)
  (a44:ο K mainGlobals "_law_row" = some (some (.ref f44))) (l44:K.lookup f44=some ⟨oc44,od44,.func (ψ "_law_row" "_law_row" (aE (top 125)) (ax (top 125)) (aj (top 125)) .none kV44 dc44 pm44 an44 cd44 ct44),sl44⟩) (c44:ς K cd44 "_law_row" = true) (k44:ξ K (.ref f44)=true)
  (a45:ο K mainGlobals "_law_side" = some (some (.ref f45))) (l45:K.lookup f45=some ⟨oc45,od45,.func (ψ "_law_side" "_law_side" (aE (top 126)) (ax (top 126)) (aj (top 126)) .none kV45 dc45 pm45 an45 cd45 ct45),sl45⟩) (c45:ς K cd45 "_law_side" = true) (k45:ξ K (.ref f45)=true)
  (a46:ο K mainGlobals "_law_apart" = some (some (.ref f46))) (l46:K.lookup f46=some ⟨oc46,od46,.func (ψ "_law_apart" "_law_apart" (aE (top 127)) (ax (top 127)) (aj (top 127)) .none kV46 dc46 pm46 an46 cd46 ct46),sl46⟩) (c46:ς K cd46 "_law_apart" = true) (k46:ξ K (.ref f46)=true)
  (a47:ο K mainGlobals "_law_due" = some (some (.ref f47))) (l47:K.lookup f47=some ⟨oc47,od47,.func (ψ "_law_due" "_law_due" (aE (top 128)) (ax (top 128)) (aj (top 128)) .none kV47 dc47 pm47 an47 cd47 ct47),sl47⟩) (c47:ς K cd47 "_law_due" = true) (k47:ξ K (.ref f47)=true)
  (a48:ο K mainGlobals "_law_cues" = some (some (.ref f48))) (l48:K.lookup f48=some ⟨oc48,od48,.func (ψ "_law_cues" "_law_cues" (aE (top 129)) (ax (top 129)) (aj (top 129)) .none kV48 dc48 pm48 an48 cd48 ct48),sl48⟩) (c48:ς K cd48 "_law_cues" = true) (k48:ξ K (.ref f48)=true)
  (a49:ο K mainGlobals "_law_text" = some (some (.ref f49))) (l49:K.lookup f49=some ⟨oc49,od49,.func (ψ "_law_text" "_law_text" (aE (top 130)) (ax (top 130)) (aj (top 130)) .none kV49 dc49 pm49 an49 cd49 ct49),sl49⟩) (c49:ς K cd49 "_law_text" = true) (k49:ξ K (.ref f49)=true)
  (a50:ο K mainGlobals "law" = some (some (.ref f50))) (l50:K.lookup f50=some ⟨oc50,od50,.func (ψ "law" "law" (aE (top 131)) (ax (top 131)) (aj (top 131)) .none kV50 dc50 pm50 an50 cd50 ct50),sl50⟩) (c50:ς K cd50 "law" = true) (k50:ξ K (.ref f50)=true)
  (z_all:ο K mainGlobals "all" = some none)
  (z_len:ο K mainGlobals "len" = some none)
  (z_int:ο K mainGlobals "int" = some none)
  (z_isinstance:ο K mainGlobals "isinstance" = some none)
  (z_str:ο K mainGlobals "str" = some none)
  (z_dict:ο K mainGlobals "dict" = some none)
  (z_max:ο K mainGlobals "max" = some none)
  (z_range:ο K mainGlobals "range" = some none)
  (z_enumerate:ο K mainGlobals "enumerate" = some none)
  (z_sorted:ο K mainGlobals "sorted" = some none)
  (z_bool:ο K mainGlobals "bool" = some none)
  (z_ord:ο K mainGlobals "ord" = some none)
  (z_tuple:ο K mainGlobals "tuple" = some none)
  (z_divmod:ο K mainGlobals "divmod" = some none)
  (z_min:ο K mainGlobals "min" = some none)
  {C_Thousandths:Addr} (n_Thousandths:ο K mainGlobals "Thousandths" = some (some (.ref C_Thousandths)))
  {C_Desk:Addr} (n_Desk:ο K mainGlobals "Desk" = some (some (.ref C_Desk)))
  (a6:Λ K (.ref C_Thousandths) "read" = some (some (.ref f6))) (l6:K.lookup f6=some ⟨oc6,od6,.func (ψ "read" "Thousandths.read" (aE (mth (top 45) 1)) (ax (mth (top 45) 1)) (aj (mth (top 45) 1)) .none kV6 dc6 pm6 an6 cd6 ct6),sl6⟩) (c6:ς K cd6 "Thousandths.read" = true) (k6:ξ K (.ref f6)=true) (i6:W0 K (.ref f6)=true)
  (a7:Λ K (.ref C_Desk) "__init__" = some (some (.ref f7))) (l7:K.lookup f7=some ⟨oc7,od7,.func (ψ "__init__" "Desk.__init__" (aE (mth (top 113) 0)) (ax (mth (top 113) 0)) (aj (mth (top 113) 0)) .none kV7 dc7 pm7 an7 cd7 ct7),sl7⟩) (c7:ς K cd7 "Desk.__init__" = true) (k7:ξ K (.ref f7)=true) (i7:W0 K (.ref f7)=true)
  (mk7:W8 K C_Desk=true) (kc7:ξ K (.ref C_Desk)=true)
  (a10:Λ K (.ref C_Desk) "cues_by" = some (some (.ref f10))) (l10:K.lookup f10=some ⟨oc10,od10,.func (ψ "cues_by" "Desk.cues_by" (aE (mth (top 113) 3)) (ax (mth (top 113) 3)) (aj (mth (top 113) 3)) .none kV10 dc10 pm10 an10 cd10 ct10),sl10⟩) (c10:ς K cd10 "Desk.cues_by" = true) (k10:ξ K (.ref f10)=true) (i10:W0 K (.ref f10)=true)
  (a23:Λ K (.ref C_Desk) "whys_of_broken" = some (some (.ref f23))) (l23:K.lookup f23=some ⟨oc23,od23,.func (ψ "whys_of_broken" "Desk.whys_of_broken" (aE (mth (top 113) 4)) (ax (mth (top 113) 4)) (aj (mth (top 113) 4)) .none kV23 dc23 pm23 an23 cd23 ct23),sl23⟩) (c23:ς K cd23 "Desk.whys_of_broken" = true) (k23:ξ K (.ref f23)=true) (i23:W0 K (.ref f23)=true)
  (a25:Λ K (.ref C_Desk) "change_setting" = some (some (.ref f25))) (l25:K.lookup f25=some ⟨oc25,od25,.func (ψ "change_setting" "Desk.change_setting" (aE (mth (top 113) 6)) (ax (mth (top 113) 6)) (aj (mth (top 113) 6)) .none kV25 dc25 pm25 an25 cd25 ct25),sl25⟩) (c25:ς K cd25 "Desk.change_setting" = true) (k25:ξ K (.ref f25)=true) (i25:W0 K (.ref f25)=true)
  (a26:Λ K (.ref C_Desk) "put_cut" = some (some (.ref f26))) (l26:K.lookup f26=some ⟨oc26,od26,.func (ψ "put_cut" "Desk.put_cut" (aE (mth (top 113) 7)) (ax (mth (top 113) 7)) (aj (mth (top 113) 7)) .none kV26 dc26 pm26 an26 cd26 ct26),sl26⟩) (c26:ς K cd26 "Desk.put_cut" = true) (k26:ξ K (.ref f26)=true) (i26:W0 K (.ref f26)=true)
  (a27:Λ K (.ref C_Desk) "leave_cut" = some (some (.ref f27))) (l27:K.lookup f27=some ⟨oc27,od27,.func (ψ "leave_cut" "Desk.leave_cut" (aE (mth (top 113) 8)) (ax (mth (top 113) 8)) (aj (mth (top 113) 8)) .none kV27 dc27 pm27 an27 cd27 ct27),sl27⟩) (c27:ς K cd27 "Desk.leave_cut" = true) (k27:ξ K (.ref f27)=true) (i27:W0 K (.ref f27)=true)
  (a38:Λ K (.ref C_Desk) "put_cues" = some (some (.ref f38))) (l38:K.lookup f38=some ⟨oc38,od38,.func (ψ "put_cues" "Desk.put_cues" (aE (mth (top 113) 9)) (ax (mth (top 113) 9)) (aj (mth (top 113) 9)) .none kV38 dc38 pm38 an38 cd38 ct38),sl38⟩) (c38:ς K cd38 "Desk.put_cues" = true) (k38:ξ K (.ref f38)=true) (i38:W0 K (.ref f38)=true)
  (a39:Λ K (.ref C_Desk) "change" = some (some (.ref f39))) (l39:K.lookup f39=some ⟨oc39,od39,.func (ψ "change" "Desk.change" (aE (mth (top 113) 2)) (ax (mth (top 113) 2)) (aj (mth (top 113) 2)) .none kV39 dc39 pm39 an39 cd39 ct39),sl39⟩) (c39:ς K cd39 "Desk.change" = true) (k39:ξ K (.ref f39)=true) (i39:W0 K (.ref f39)=true)
  (a40:Λ K (.ref C_Desk) "say" = some (some (.ref f40))) (l40:K.lookup f40=some ⟨oc40,od40,.func (ψ "say" "Desk.say" (aE (mth (top 113) 1)) (ax (mth (top 113) 1)) (aj (mth (top 113) 1)) .none kV40 dc40 pm40 an40 cd40 ct40),sl40⟩) (c40:ς K cd40 "Desk.say" = true) (k40:ξ K (.ref f40)=true) (i40:W0 K (.ref f40)=true)
  {t_FIGURES:Tok} (n_FIGURES:ο K mainGlobals "FIGURES" = some (some (.str "0123456789" t_FIGURES)))
  {a_FIRST_SETTINGS:Addr} (n_FIRST_SETTINGS:ο K mainGlobals "FIRST_SETTINGS" = some (some (.ref a_FIRST_SETTINGS))) (T_FIRST_SETTINGS:KDD l.prog w K a_FIRST_SETTINGS ed)
  {a_HOW_MANY:Addr} (n_HOW_MANY:ο K mainGlobals "HOW_MANY" = some (some (.ref a_HOW_MANY))) (T_HOW_MANY:KDD l.prog w K a_HOW_MANY dF)
  {a_BOUNDS:Addr} (n_BOUNDS:ο K mainGlobals "BOUNDS" = some (some (.ref a_BOUNDS))) (T_BOUNDS:KDD l.prog w K a_BOUNDS eF)
  {t_PERCENT:Tok} (n_PERCENT:ο K mainGlobals "PERCENT" = some (some (.int 37 t_PERCENT)))
  (nn_Thousandths:ο K mainGlobals "Thousandths" = some (some (.ref C_Thousandths)))
  (pg_Thousandths:V2 K C_Thousandths Str.empty=true)
  (hd_Thousandths:V7 K C_Thousandths=true)
  (po_Thousandths:U3 K C_Thousandths=true)
  (sa_Thousandths:Λ K (.ref C_Thousandths) "__setattr__" = some (some (.builtin "object.__setattr__")))
  (nn_Desk:ο K mainGlobals "Desk" = some (some (.ref C_Desk)))
  (pg_Desk:V2 K C_Desk Str.empty=true)
  (hd_Desk:V7 K C_Desk=true)
  (po_Desk:U3 K C_Desk=true)
  (sa_Desk:Λ K (.ref C_Desk) "__setattr__" = some (some (.builtin "object.__setattr__")))
  (na_Desk_cues:Λ K (.ref C_Desk) "cues" = some none)
  (na_Desk_clock:Λ K (.ref C_Desk) "clock" = some none)
  (mk_Thousandths:W8 K C_Thousandths=true)
  (ii_Thousandths:Λ K (.ref C_Thousandths) "__init__" = some (some (.builtin "object.__init__")))
  (so_Thousandths:PySem.W.subIn K (.ref C_Thousandths) (.type "object")=some true)
  (kc_Thousandths:ξ K (.ref C_Thousandths)=true)
  (na_Desk_settings:Λ K (.ref C_Desk) "settings" = some none)
  (na_Desk_cuts:Λ K (.ref C_Desk) "cuts" = some none) :
  ∃fd:FuncData,(∀(s:Shared) (v:Value),BindsTo s fd ⟨[v],[]⟩ [("_law_script",v)])/\∀base:Heap,K.In base->base.Ns mainGlobals mg->FnOk l.prog w K mg base CX0 12 fa fd ["_law_script"] (spD K 1 zd):=by
 have cT:ClsT_Desk K C_Desk:=⟨nn_Desk,⟨pg_Desk,hd_Desk,po_Desk,sa_Desk⟩,na_Desk_cues,na_Desk_clock,na_Desk_settings,na_Desk_cuts⟩
 have e:=hfa.symm.trans (Γ X G a50)
 cases e
 have zz_all:=Y2 X G z_all
 have zz_len:=Y2 X G z_len
 have zz_int:=Y2 X G z_int
 have zz_isinstance:=Y2 X G z_isinstance
 have zz_str:=Y2 X G z_str
 have zz_dict:=Y2 X G z_dict
 have zz_max:=Y2 X G z_max
 have zz_range:=Y2 X G z_range
 have zz_enumerate:=Y2 X G z_enumerate
 have zz_sorted:=Y2 X G z_sorted
 have zz_bool:=Y2 X G z_bool
 have zz_ord:=Y2 X G z_ord
 have zz_tuple:=Y2 X G z_tuple
 have zz_divmod:=Y2 X G z_divmod
 have zz_min:=Y2 X G z_min
 refine⟨ψ "law" "law" (aE (top 131)) (ax (top 131)) (aj (top 131)) .none kV50 dc50 pm50 an50 cd50 ct50,λs v=>.of_eq rfl,λbase _ _=>?_⟩
 have m_Thousandths:=Γ X G n_Thousandths
 have m_Desk:=Γ X G n_Desk
 have m_FIGURES:=Γ X G n_FIGURES
 have m_FIRST_SETTINGS:=Γ X G n_FIRST_SETTINGS
 have m_HOW_MANY:=Γ X G n_HOW_MANY
 have m_BOUNDS:=Γ X G n_BOUNDS
 have m_PERCENT:=Γ X G n_PERCENT
 have D0:Def l.prog w K mg base 1 "are_figures" 1 bZ:=dk (ba l0 c0 k0) (Γ X G a0) m_FIGURES zz_all
 have D1:Def l.prog w K mg base 2 "has_figures" 2 cj:=dj (ba l1 c1 k1) (Γ X G a1) D0 zz_len
 have D2:Def l.prog w K mg base 3 "are_hours" 1 gJ:=ll (ba l2 c2 k2) (Γ X G a2) D1 D0 zz_len
 have D3:Def l.prog w K mg base 3 "are_sixtieths" 1 cR:=e8 (ba l3 c3 k3) (Γ X G a3) D1 zz_int
 have D4:Def l.prog w K mg base 4 "read_parts" 3 fW:=j5 (ba l4 c4 k4) (Γ X G a4) D2 D3 D1 zz_isinstance zz_str zz_int
 have D5:Def l.prog w K mg base 5 "read_moment" 1 eY:=jk (ba l5 c5 k5) (Γ X G a5) D4
 have D6:DefM l.prog w K mg base 6 "Thousandths" "read" 2 bz:=bP (ba l6 c6 k6) m_Thousandths nn_Thousandths pg_Thousandths hd_Thousandths po_Thousandths sa_Thousandths D5 a6 i6
 have DS7:SL.MkS l.prog w K mg base 1 "Desk" 1 eK:=hR (ba l7 c7 k7) m_Desk m_Thousandths m_FIRST_SETTINGS T_FIRST_SETTINGS cT nn_Thousandths mk_Thousandths ii_Thousandths so_Thousandths kc_Thousandths zz_dict ⟨a7,i7⟩ mk7 kc7
 have D8:Def l.prog w K mg base 1 "words_and_text" 1 bE:=gh (ba l8 c8 k8) (Γ X G a8) zz_isinstance zz_str
 have D9:Def l.prog w K mg base 1 "is_row" 1 iM:=rh (ba l9 c9 k9) (Γ X G a9) m_HOW_MANY T_HOW_MANY zz_len
 have D10:DefM l.prog w K mg base 1 "Desk" "cues_by" 2 eE:=iE (ba l10 c10 k10) m_Desk cT ⟨a10,i10⟩
 have D11:Def l.prog w K mg base 1 "begin_point" 1 bb:=bK (ba l11 c11 k11) (Γ X G a11)
 have D12:Def l.prog w K mg base 1 "end_point" 1 bX:=de (ba l12 c12 k12) (Γ X G a12)
 have D13:DefF l.prog w K mg base 2 "rules_alone" 3 dZ:=ji (ba l13 c13 k13) (Γ X G a13) D11 D12 zz_len zz_max
 have D14:DefF l.prog w K mg base 2 "wishes" 3 jD:=rf (ba l14 c14 k14) (Γ X G a14) D11 D12
 have D15:DefF l.prog w K mg base 2 "rules_behind" 4 dy:=iB (ba l15 c15 k15) (Γ X G a15) D11 D12 zz_len zz_range
 have D16:DefF l.prog w K mg base 2 "rules_of_cut" 5 cB:=iA (ba l16 c16 k16) (Γ X G a16) D11 D12
 have DZ17:Def l.prog w K mg base 3 "rules_of" 4 dP/\DefZ l.prog w K mg base 3 "rules_of" 3 0 dP:=rg (Ex l17 c17 k17) t17 (Γ X G a17) D13 D14 D15 D16 zz_enumerate
 have D17:=DZ17.1
 have Z17:=DZ17.2
 have D18:Def l.prog w K mg base 1 "times_of" 1 iJ:=mz (ba l18 c18 k18) (Γ X G a18)
 have D19:Def l.prog w K mg base 1 "must_be_kept" 1 cC:=iC (ba l19 c19 k19) (Γ X G a19)
 have D20:Def l.prog w K mg base 1 "lacking" 2 gk:=oq (ba l20 c20 k20) (Γ X G a20) zz_max
 have D21:Def l.prog w K mg base 2 "broken" 2 lr:=rj (ba l21 c21 k21) (Γ X G a21) D19 D20 zz_enumerate
 have D22:Def l.prog w K mg base 1 "show_why" 1 gj:=mB (ba l22 c22 k22) (Γ X G a22) zz_str
 have D23:DefM l.prog w K mg base 4 "Desk" "whys_of_broken" 2 cg:=d8 (ba l23 c23 k23) m_Desk cT D17 D18 D21 D22 Z17 ⟨a23,i23⟩
 have D24:Def l.prog w K mg base 2 "read_number" 3 eX:=jj (ba l24 c24 k24) (Γ X G a24) D0 zz_len zz_int
 have DS25:SL.DefSM l.prog w K mg base 3 "Desk" "change_setting" 2 b9:=dN (ba l25 c25 k25) m_Desk m_BOUNDS T_BOUNDS cT D24 ⟨a25,i25⟩
 have DS26:SL.DefSM l.prog w K mg base 1 "Desk" "put_cut" 2 dX:=gS (ba l26 c26 k26) m_Desk cT zz_sorted ⟨a26,i26⟩
 have DS27:SL.DefSM l.prog w K mg base 1 "Desk" "leave_cut" 2 dg:=fP (ba l27 c27 k27) m_Desk cT ⟨a27,i27⟩
 have D28:Def l.prog w K mg base 1 "is_name" 1 gm:=jx (ba l28 c28 k28) (Γ X G a28) zz_isinstance zz_str zz_len zz_all
 have D29:Def l.prog w K mg base 2 "read_new" 1 iL:=mD (ba l29 c29 k29) (Γ X G a29) D28
 have D30:Def l.prog w K mg base 1 "is_whole" 1 gl:=j6 (ba l30 c30 k30) (Γ X G a30) zz_isinstance zz_int zz_bool
 have D31:Def l.prog w K mg base 1 "is_word_sign" 1 dz:=iD (ba l31 c31 k31) (Γ X G a31) m_PERCENT zz_ord
 have D32:Def l.prog w K mg base 2 "is_word" 1 h9:=ot (ba l32 c32 k32) (Γ X G a32) D31 zz_len zz_all
 have D33:Def l.prog w K mg base 3 "are_words" 1 gI:=lj (ba l33 c33 k33) (Γ X G a33) D32 zz_isinstance zz_str zz_all
 have D34:Def l.prog w K mg base 4 "is_cue" 1 lq:=ri (ba l34 c34 k34) (Γ X G a34) D30 D28 D33 zz_isinstance zz_tuple zz_len
 have D35:Def l.prog w K mg base 7 "read_row" 3 iK:=mC (ba l35 c35 k35) (Γ X G a35) D6 D34 zz_len
 have D36:Def l.prog w K mg base 1 "rows_of" 1 jE:=oj (ba l36 c36 k36) (Γ X G a36)
 have D37:DefF l.prog w K mg base 8 "read_cues" 2 gH:=li (ba l37 c37 k37) (Γ X G a37) D35 D36 zz_isinstance zz_str zz_enumerate
 have DS38:SL.DefSM l.prog w K mg base 9 "Desk" "put_cues" 3 dA:=gg (ba l38 c38 k38) m_Desk cT D29 D37 ⟨a38,i38⟩
 have DS39:SL.DefSM l.prog w K mg base 10 "Desk" "change" 3 cG:=iz (ba l39 c39 k39) m_Desk cT D6 DS25 DS26 DS27 DS38 ⟨a39,i39⟩
 have DS40:SL.DefSM l.prog w K mg base 11 "Desk" "say" 2 bt:=db (ba l40 c40 k40) m_Desk cT D8 D9 D10 D23 DS39 ⟨a40,i40⟩
 have D41:Def l.prog w K mg base 1 "_law_cell_at" 2 cF:=fT (ba l41 c41 k41) (Γ X G a41) zz_len
 have D42:Def l.prog w K mg base 1 "_law_numbers" 2 cE:=eA (ba l42 c42 k42) (Γ X G a42) zz_range
 have D43:Def l.prog w K mg base 1 "_law_moment" 1 bL:=cx (ba l43 c43 k43) (Γ X G a43) zz_divmod zz_str
 have DS44:SL.DefS l.prog w K mg base 2 "_law_row" 4 df:=lb (ba l44 c44 k44) (Γ X G a44) D42 D43 zz_int zz_min zz_max zz_str zz_len
 have D44:Def l.prog w K mg base 2 "_law_row" 4 xU:=DS44.toD
 have D45:Def l.prog w K mg base 1 "_law_side" 4 gK:=lm (ba l45 c45 k45) (Γ X G a45)
 have D46:Def l.prog w K mg base 1 "_law_apart" 3 fX:=j7 (ba l46 c46 k46) (Γ X G a46) zz_str zz_len zz_range
 have D47:Def l.prog w K mg base 2 "_law_due" 3 dl:=gi (ba l47 c47 k47) (Γ X G a47) D46 D45 zz_len zz_max zz_str zz_sorted zz_enumerate
 have D48:Def l.prog w K mg base 2 "_law_cues" 1 gL:=ln (ba l48 c48 k48) (Γ X G a48) D42
 have D49:Def l.prog w K mg base 2 "_law_text" 1 eD:=iY (ba l49 c49 k49) (Γ X G a49) D43
 exact fn_law (ba l50 c50 k50) D41 D48 D49 D47 zz_range DS7 DS40 DS44
end K62
def PySem.W.Fast.tw4450829405899888734 : Nat := 0
def PySem.W.Fast.tw463920382938335927 : Nat := 0
def PySem.W.Fast.tw6327460796933236702 : Nat := 0
def PySem.W.Fast.tw17106383806672289947 : Nat := 0
def PySem.W.Fast.tw11813560462635416297 : Nat := 0
def PySem.W.Fast.tw1056732329317483570 : Nat := 0
def PySem.W.Fast.tw11700635946510711277 : Nat := 0
def PySem.W.Fast.tw12047038354393099552 : Nat := 0
def PySem.W.Fast.tw6478330619662592154 : Nat := 0
def PySem.W.Fast.tw431237499069866784 : Nat := 0
def PySem.W.Fast.tw5160553064339866994 : Nat := 0
def PySem.W.Fast.tw5866114541469566073 : Nat := 0
def PySem.W.Fast.tw729247494414619556 : Nat := 0
def PySem.W.Fast.tw8959749869214611352 : Nat := 0
def PySem.W.Fast.tw2070192184615130032 : Nat := 0
def PySem.W.Fast.tw11892775089285344207 : Nat := 0
def PySem.W.Fast.tw5120993059135335604 : Nat := 0
def PySem.W.Fast.tw16773822834671772053 : Nat := 0
def PySem.W.Fast.tw14206804212264070819 : Nat := 0
def PySem.W.Fast.tw44558446557422248 : Nat := 0
def PySem.W.Fast.tw9480530777197239524 : Nat := 0
def PySem.W.Fast.tw11868590153430027325 : Nat := 0
def PySem.W.Fast.tw1115830607743004960 : Nat := 0
def PySem.W.Fast.tw6053325052164252721 : Nat := 0
def PySem.W.Fast.tw4073862499581634254 : Nat := 0
def PySem.W.Fast.tw17193663854890464754 : Nat := 0
def PySem.W.Fast.tw15679037808770248197 : Nat := 0
def PySem.W.Fast.tw16511503623822252826 : Nat := 0
def PySem.W.Fast.tw14497937476414478326 : Nat := 0
def PySem.W.Fast.tw376553754556902721 : Nat := 0
def PySem.W.Fast.tw10905139937495016275 : Nat := 0
def PySem.W.Fast.tw10541496581251702729 : Nat := 0
def PySem.W.Fast.tw16091722219085745877 : Nat := 0
def PySem.W.Fast.tw14024444209681736229 : Nat := 0
def PySem.W.Fast.tw10477147735427658467 : Nat := 0
def PySem.W.Fast.tw913751087303074789 : Nat := 0
def PySem.W.Fast.tw4062286194509585298 : Nat := 0
def PySem.W.Fast.tw9548064056276798334 : Nat := 0
def PySem.W.Fast.tw17250335912997596969 : Nat := 0
def PySem.W.Fast.tw12036870870818734174 : Nat := 0
def PySem.W.Fast.tw5680522883737905800 : Nat := 0
def PySem.W.Fast.tw10895740875666876081 : Nat := 0
def PySem.W.Fast.tw7236389298288718818 : Nat := 0
def PySem.W.Fast.tw7214513863983476817 : Nat := 0
def PySem.W.Fast.tw15103841838014966209 : Nat := 0
def PySem.W.Fast.tw13426533051293517967 : Nat := 0
def PySem.W.Fast.tw8336512902690381749 : Nat := 0
def PySem.W.Fast.tw14410873556461090195 : Nat := 0
def PySem.W.Fast.tw3828579311559411542 : Nat := 0
def PySem.W.Fast.tw13473558479479500704 : Nat := 0
def PySem.W.Fast.tw4101729045670659213 : Nat := 0
def PySem.W.Fast.tw11434259462838736588 : Nat := 0
def PySem.W.Fast.tw3528238765659406737 : Nat := 0
def PySem.W.Fast.tw2680040625292422088 : Nat := 0
def PySem.W.Fast.tw6835288483126781405 : Nat := 0
def PySem.W.Fast.tw14496728279423890262 : Nat := 0
def PySem.W.Fast.tw14442584299202928071 : Nat := 0
def PySem.W.Fast.tw9439916591173460292 : Nat := 0
def PySem.W.Fast.tw14390325422332194839 : Nat := 0
def PySem.W.Fast.tw13978851223219107740 : Nat := 0
def PySem.W.Fast.tw7692811530876037018 : Nat := 0
def PySem.W.Fast.tw8835720568262384161 : Nat := 0
def PySem.W.Fast.tw16601597035525787875 : Nat := 0
def PySem.W.Fast.tw8359689594464167748 : Nat := 0
def PySem.W.Fast.tw11600998578180671693 : Nat := 0
def PySem.W.Fast.tw2099023106118073567 : Nat := 0
def PySem.W.Fast.tw2503831273453946207 : Nat := 0
def PySem.W.Fast.tw14802114726970145663 : Nat := 0
def PySem.W.Fast.tw9422941417774195104 : Nat := 0
def PySem.W.Fast.tw13420791102623949603 : Nat := 0
def PySem.W.Fast.tw5900570294512133984 : Nat := 0
def PySem.W.Fast.tw16670153652304804617 : Nat := 0
def PySem.W.Fast.tw12178860282271797652 : Nat := 0
def PySem.W.Fast.tw17804996294485821859 : Nat := 0
def PySem.W.Fast.tw2548652599016445854 : Nat := 0
def PySem.W.Fast.tw7585890946904150517 : Nat := 0
def PySem.W.Fast.tw2542403574880239764 : Nat := 0
def PySem.W.Fast.tw15656637118682958288 : Nat := 0
def PySem.W.Fast.tw12855874659321833173 : Nat := 0
def PySem.W.Fast.tw3546382763025934985 : Nat := 0
def PySem.W.Fast.tw4662278514332378454 : Nat := 0
def PySem.W.Fast.tw13205076799596645423 : Nat := 0
def PySem.W.Fast.tw11415976539933749074 : Nat := 0
def PySem.W.Fast.tw12817841802787362570 : Nat := 0
def PySem.W.Fast.tw6052386914566622465 : Nat := 0
def PySem.W.Fast.tw10339295288584421534 : Nat := 0
def PySem.W.Fast.tw11390830083022447618 : Nat := 0
def PySem.W.Fast.tw18069244917368171341 : Nat := 0
def PySem.W.Fast.tw4063352205846506870 : Nat := 0
def PySem.W.Fast.tw4840950067939492004 : Nat := 0
def PySem.W.Fast.tw9419099589466278387 : Nat := 0
def PySem.W.Fast.tw12297240575586937361 : Nat := 0
def PySem.W.Fast.tw1867471638628633683 : Nat := 0
def PySem.W.Fast.tw11006111205676654019 : Nat := 0
def PySem.W.Fast.tw5335230283404939821 : Nat := 0
def PySem.W.Fast.tw9296440801450145715 : Nat := 0
def PySem.W.Fast.tw15842445588016555012 : Nat := 0
def PySem.W.Fast.tw13168525942062097499 : Nat := 0
def PySem.W.Fast.tw14994248431499229838 : Nat := 0
def PySem.W.Fast.tw11691884873456419726 : Nat := 0
def PySem.W.Fast.tw11525792436316958182 : Nat := 0
def PySem.W.Fast.tw1655287400450256736 : Nat := 0
def PySem.W.Fast.tw1307371527902367056 : Nat := 0
def PySem.W.Fast.tw16186573710759436119 : Nat := 0
def PySem.W.Fast.tw9330962905115975742 : Nat := 0
def PySem.W.Fast.tw15877215782340376139 : Nat := 0
def PySem.W.Fast.tw2255051132585473426 : Nat := 0
def PySem.W.Fast.tw16993914944695044405 : Nat := 0
def PySem.W.Fast.tw10596591178630639842 : Nat := 0
def PySem.W.Fast.tw11368736126341105407 : Nat := 0
def PySem.W.Fast.tw17122153757050891095 : Nat := 0
def PySem.W.Fast.tw3078322291508580189 : Nat := 0
def PySem.W.Fast.tw3440666377247544470 : Nat := 0
def PySem.W.Fast.tw5322004029557529310 : Nat := 0
def PySem.W.Fast.tw11754253909619246284 : Nat := 0
def PySem.W.Fast.tw574936212804774816 : Nat := 0
def PySem.W.Fast.tw16481740102221887721 : Nat := 0
def PySem.W.Fast.tw3493585378254644867 : Nat := 0
def PySem.W.Fast.tw477365340669182677 : Nat := 0
def PySem.W.Fast.tw13971260263335241351 : Nat := 0
def PySem.W.Fast.tw15976575484381448175 : Nat := 0
def PySem.W.Fast.tw6373547982167209593 : Nat := 0
def PySem.W.Fast.tw9200600464839652926 : Nat := 0
def PySem.W.Fast.tw6513444932173516889 : Nat := 0
def PySem.W.Fast.tw15259821274412627432 : Nat := 0
def PySem.W.Fast.tw3967844661678885306 : Nat := 0
def PySem.W.Fast.tw3882779578647412319 : Nat := 0
def PySem.W.Fast.tw11818507584992036613 : Nat := 0
def PySem.W.Fast.tw13003464161357725633 : Nat := 0
def PySem.W.Fast.tw4903765507201965882 : Nat := 0
def PySem.W.Fast.tw15121731856440701205 : Nat := 0
def PySem.W.Fast.tw1947295163843092393 : Nat := 0
def PySem.W.Fast.tw145406947953313807 : Nat := 0
def PySem.W.Fast.tw214914557382692903 : Nat := 0
def PySem.W.Fast.tw16067450023211869042 : Nat := 0
def PySem.W.Fast.tw4162804178167814236 : Nat := 0
def PySem.W.Fast.tw2523488025707204107 : Nat := 0
def PySem.W.Fast.tw16493044410034832587 : Nat := 0
def PySem.W.Fast.tw8112280182949916670 : Nat := 0
def PySem.W.Fast.tw15587885443980009869 : Nat := 0
def PySem.W.Fast.tw18192938206058623323 : Nat := 0
def PySem.W.Fast.tw12941441674726340215 : Nat := 0
def PySem.W.Fast.tw615387880335417074 : Nat := 0
def PySem.W.Fast.tw1772358979806998400 : Nat := 0
def PySem.W.Fast.tw3405247159774393097 : Nat := 0
def PySem.W.Fast.tw9264220402590396797 : Nat := 0
def PySem.W.Fast.tw3724584894155860683 : Nat := 0
def PySem.W.Fast.tw12822000222906402852 : Nat := 0
def PySem.W.Fast.tw16973440186442573333 : Nat := 0
def PySem.W.Fast.tw15672814713649518851 : Nat := 0
def PySem.W.Fast.tw8038327620199155027 : Nat := 0
def PySem.W.Fast.tw4004448503033601859 : Nat := 0
def PySem.W.Fast.tw1871745890627420019 : Nat := 0
def PySem.W.Fast.tw13437714524452520299 : Nat := 0
def PySem.W.Fast.tw4267385042634612707 : Nat := 0
def PySem.W.Fast.tw9725797888397889850 : Nat := 0
def PySem.W.Fast.tw12605160016031931940 : Nat := 0
def PySem.W.Fast.tw13859463848654172400 : Nat := 0
def PySem.W.Fast.tw12316210774861582253 : Nat := 0
def PySem.W.Fast.tw17389381258347237319 : Nat := 0
def PySem.W.Fast.tw1479361679035163148 : Nat := 0
def PySem.W.Fast.tw15727873816120451456 : Nat := 0
def PySem.W.Fast.tw8397782274753055421 : Nat := 0
def PySem.W.Fast.tw1051016905467820082 : Nat := 0
def PySem.W.Fast.tw15277523960121978521 : Nat := 0
def PySem.W.Fast.tw16053007983997572128 : Nat := 0
def PySem.W.Fast.tw12445749715605675936 : Nat := 0
def PySem.W.Fast.tw10400090388987051411 : Nat := 0
def PySem.W.Fast.tw11281950581208603889 : Nat := 0
def PySem.W.Fast.tw4344675477964429881 : Nat := 0
def PySem.W.Fast.tw13208456043280250049 : Nat := 0
def PySem.W.Fast.tw3552966996204494416 : Nat := 0
def PySem.W.Fast.tw9191895643890880729 : Nat := 0
def PySem.W.Fast.tw16758873278808392061 : Nat := 0
def PySem.W.Fast.tw4539204466722031211 : Nat := 0
def PySem.W.Fast.tw5152956191497705340 : Nat := 0
def PySem.W.Fast.tw15836075034701035233 : Nat := 0
def PySem.W.Fast.tw16692163424565691896 : Nat := 0
def PySem.W.Fast.tw13303528027860152963 : Nat := 0
def PySem.W.Fast.tw12643554242971889770 : Nat := 0
def PySem.W.Fast.tw405483728550572035 : Nat := 0
def PySem.W.Fast.tw11044354354021667161 : Nat := 0
def PySem.W.Fast.tw12579847675852949785 : Nat := 0
def PySem.W.Fast.tw8866779042506305599 : Nat := 0
def PySem.W.Fast.tw4639075745405496006 : Nat := 0
def PySem.W.Fast.tw2468969936777132619 : Nat := 0
def PySem.W.Fast.tw1564703848727592223 : Nat := 0
def PySem.W.Fast.tw778680371097980384 : Nat := 0
def PySem.W.Fast.tw7670584501608368378 : Nat := 0
def PySem.W.Fast.tw3094312839516693434 : Nat := 0
def PySem.W.Fast.tw13558242788567056009 : Nat := 0
def PySem.W.Fast.tw11171388560613509685 : Nat := 0
def PySem.W.Fast.tw9355727732715349395 : Nat := 0
def PySem.W.Fast.tw1204410934456784499 : Nat := 0
def PySem.W.Fast.tw15312033410280590990 : Nat := 0
def PySem.W.Fast.tw4576086706992007608 : Nat := 0
def PySem.W.Fast.tw17194906863415513510 : Nat := 0
def PySem.W.Fast.tw11800111121028338668 : Nat := 0
def PySem.W.Fast.tw13829998630517667440 : Nat := 0
def PySem.W.Fast.tw14018854898852919073 : Nat := 0
def PySem.W.Fast.tw2713018986126716920 : Nat := 0
def PySem.W.Fast.tw6883675758736725463 : Nat := 0
def PySem.W.Fast.tw9044799378660102369 : Nat := 0
def PySem.W.Fast.tw11064393393906736155 : Nat := 0
def PySem.W.Fast.tw3373077248632352789 : Nat := 0
def PySem.W.Fast.tw3973245524030787246 : Nat := 0
def PySem.W.Fast.tw9242670199381692101 : Nat := 0
def PySem.W.Fast.tw6902473287276224942 : Nat := 0
def PySem.W.Fast.tw17673800611654216666 : Nat := 0
def PySem.W.Fast.tw4388826288095778195 : Nat := 0
def PySem.W.Fast.tw7972424724262802352 : Nat := 0
def PySem.W.Fast.tw6973671883733021828 : Nat := 0
def PySem.W.Fast.tw256777538584772529 : Nat := 0
def PySem.W.Fast.tw1223507443350451997 : Nat := 0
def PySem.W.Fast.tw1501300220754567672 : Nat := 0
def PySem.W.Fast.tw1286775543445372895 : Nat := 0
def PySem.W.Fast.tw2477797017326044271 : Nat := 0
def PySem.W.Fast.tw521291556137942698 : Nat := 0
def PySem.W.Fast.tw10827913460823770186 : Nat := 0
def PySem.W.Fast.tw5803205685974857283 : Nat := 0
def PySem.W.Fast.tw18090227782315856755 : Nat := 0
def PySem.W.Fast.tw14114881362081112848 : Nat := 0
def PySem.W.Fast.tw12877693384079088880 : Nat := 0
def PySem.W.Fast.tw14098091905984429879 : Nat := 0
def PySem.W.Fast.tw17934112685122326036 : Nat := 0
def PySem.W.Fast.tw1938121997657417509 : Nat := 0
def PySem.W.Fast.tw4610654693286236496 : Nat := 0
def PySem.W.Fast.tw16503932313180296047 : Nat := 0
def PySem.W.Fast.tw1967281597307753712 : Nat := 0
def PySem.W.Fast.tw13480702763646920777 : Nat := 0
def PySem.W.Fast.tw15563279391920335445 : Nat := 0
def PySem.W.Fast.tw7672200649717875976 : Nat := 0
def PySem.W.Fast.tw1398608807212666856 : Nat := 0
def PySem.W.Fast.tw17274611783482125234 : Nat := 0
def PySem.W.Fast.tw10327150954487474503 : Nat := 0
def PySem.W.Fast.tw16851859847693831658 : Nat := 0
def PySem.W.Fast.tw5052834018544749365 : Nat := 0
def PySem.W.Fast.tw2166653700519034525 : Nat := 0
def PySem.W.Fast.tw1043840013426850430 : Nat := 0
def PySem.W.Fast.tw17061899282049886611 : Nat := 0
def PySem.W.Fast.tw5832471637962857274 : Nat := 0
def PySem.W.Fast.tw15205778899688455846 : Nat := 0
def PySem.W.Fast.tw14048985238645256824 : Nat := 0
def PySem.W.Fast.tw3575426904571707559 : Nat := 0
def PySem.W.Fast.tw7555798871969767845 : Nat := 0
def PySem.W.Fast.tw10524686735806762060 : Nat := 0
def PySem.W.Fast.tw12319653313616617796 : Nat := 0
def PySem.W.Fast.tw3766789400934077153 : Nat := 0
def PySem.W.Fast.tw2853047972241528693 : Nat := 0
def PySem.W.Fast.tw4596274278336163607 : Nat := 0
def PySem.W.Fast.tw8290833521328247183 : Nat := 0
def PySem.W.Fast.tw7797893500860235150 : Nat := 0
def PySem.W.Fast.tw10834716562062326017 : Nat := 0
def PySem.W.Fast.tw5065073186685083659 : Nat := 0
def PySem.W.Fast.tw17066670215994400805 : Nat := 0
def PySem.W.Fast.tw5400127481007603377 : Nat := 0
def PySem.W.Fast.tw2569778797189324626 : Nat := 0
def PySem.W.Fast.tw5615482919020369059 : Nat := 0
def PySem.W.Fast.tw17665139489949043599 : Nat := 0
def PySem.W.Fast.tw10789000154339766453 : Nat := 0
def PySem.W.Fast.tw2238482491489725741 : Nat := 0
def PySem.W.Fast.tw11449595525858283100 : Nat := 0
def PySem.W.Fast.tw9994806227316751017 : Nat := 0
def PySem.W.Fast.tw4874317067980512757 : Nat := 0
def PySem.W.Fast.tw3063703379256128088 : Nat := 0
def PySem.W.Fast.tw11669524806680815261 : Nat := 0
def PySem.W.Fast.tw17035913392119700252 : Nat := 0
def PySem.W.Fast.tw4220291140123197155 : Nat := 0
def PySem.W.Fast.tw2348132074140268800 : Nat := 0
def PySem.W.Fast.tw7479018107549624625 : Nat := 0
def PySem.W.Fast.tw350681976169138016 : Nat := 0
def PySem.W.Fast.tw7944080319416835075 : Nat := 0
def PySem.W.Fast.tw16979538897085183010 : Nat := 0
def PySem.W.Fast.tw14657318547436834987 : Nat := 0
def PySem.W.Fast.tw12685716950214494778 : Nat := 0
def PySem.W.Fast.tw17877771420495976972 : Nat := 0
def PySem.W.Fast.tw17188496783277215789 : Nat := 0
def PySem.W.Fast.tw12015356018494155041 : Nat := 0
def PySem.W.Fast.tw3981509849156020726 : Nat := 0
def PySem.W.Fast.tw14357956933933335317 : Nat := 0
def PySem.W.Fast.tw15807917489762241497 : Nat := 0
def PySem.W.Fast.tw11015024787474947499 : Nat := 0
def PySem.W.Fast.tw2419485375928735163 : Nat := 0
def PySem.W.Fast.tw11566387011791582647 : Nat := 0
def PySem.W.Fast.tw1207878788281514590 : Nat := 0
def PySem.W.Fast.tw10012201341888174185 : Nat := 0
def PySem.W.Fast.tw1462870160911067345 : Nat := 0
def PySem.W.Fast.tw836822896178707251 : Nat := 0
def PySem.W.Fast.tw12799854331897057886 : Nat := 0
def PySem.W.Fast.tw1665634380562803606 : Nat := 0
def PySem.W.Fast.tw14739909506498917899 : Nat := 0
def PySem.W.Fast.tw4176258796925733036 : Nat := 0
def PySem.W.Fast.tw14129111583953896311 : Nat := 0
def PySem.W.Fast.tw2787454732076482128 : Nat := 0
def PySem.W.Fast.tw3162328471943807549 : Nat := 0
def PySem.W.Fast.tw5546281268227003980 : Nat := 0
def PySem.W.Fast.tw5989357886099352036 : Nat := 0
def PySem.W.Fast.tw11681328911813549282 : Nat := 0
def PySem.W.Fast.tw11387200577656691292 : Nat := 0
def PySem.W.Fast.tw14660151511687820033 : Nat := 0
def PySem.W.Fast.tw5195291524417863507 : Nat := 0
def PySem.W.Fast.tw7548981096287451797 : Nat := 0
def PySem.W.Fast.tw14628922490636517318 : Nat := 0
def PySem.W.Fast.tw4476000061997862948 : Nat := 0
def PySem.W.Fast.tw2166214379775058118 : Nat := 0
def PySem.W.Fast.tw7542531399484143944 : Nat := 0
def PySem.W.Fast.tw8879977787852425160 : Nat := 0
def PySem.W.Fast.tw13260556695290344033 : Nat := 0
def PySem.W.Fast.tw2384768436281804511 : Nat := 0
def PySem.W.Fast.tw1139195204592355620 : Nat := 0
def PySem.W.Fast.tw5486004148652344339 : Nat := 0
def PySem.W.Fast.tw10095801428686740334 : Nat := 0
def PySem.W.Fast.tw18250818777561049173 : Nat := 0
def PySem.W.Fast.tw3353742125514651055 : Nat := 0
def PySem.W.Fast.tw12102090375462596708 : Nat := 0
def PySem.W.Fast.tw8984648156509458741 : Nat := 0
def PySem.W.Fast.tw4166099366196975217 : Nat := 0
def PySem.W.Fast.tw1115084803386942218 : Nat := 0
def PySem.W.Fast.tw10256064341713014935 : Nat := 0
def PySem.W.Fast.tw1928483229157032524 : Nat := 0
def PySem.W.Fast.tw13450423062307821113 : Nat := 0
def PySem.W.Fast.tw18413491237133417123 : Nat := 0
def PySem.W.Fast.tw16909886385549580362 : Nat := 0
def PySem.W.Fast.tw1181923262760138798 : Nat := 0
def PySem.W.Fast.tw4259497185926086155 : Nat := 0
def PySem.W.Fast.tw16960497105206717989 : Nat := 0
def PySem.W.Fast.tw8946940782118134518 : Nat := 0
def PySem.W.Fast.tw441512574233976362 : Nat := 0
def PySem.W.Fast.tw2830703556217321137 : Nat := 0
def PySem.W.Fast.tw11207008594236408153 : Nat := 0
def PySem.W.Fast.tw867181258160490894 : Nat := 0
def PySem.W.Fast.tw11212531204308347572 : Nat := 0
def PySem.W.Fast.tw16822465926391314886 : Nat := 0
def PySem.W.Fast.tw3855253059133355290 : Nat := 0
def PySem.W.Fast.tw1378142520470088611 : Nat := 0
def PySem.W.Fast.tw5263517769142817987 : Nat := 0
def PySem.W.Fast.tw3508643883433168827 : Nat := 0
def PySem.W.Fast.tw5111032572100887242 : Nat := 0
def PySem.W.Fast.tw13115691882806327165 : Nat := 0
def PySem.W.Fast.tw6949063372237584034 : Nat := 0
def PySem.W.Fast.tw8866866322068140731 : Nat := 0
def PySem.W.Fast.tw17133416186784879410 : Nat := 0
def PySem.W.Fast.tw16875369139972284889 : Nat := 0
def PySem.W.Fast.tw6979969702944528772 : Nat := 0
def PySem.W.Fast.tw3521633996240699195 : Nat := 0
def PySem.W.Fast.tw1704953488178419831 : Nat := 0
def PySem.W.Fast.tw10539172024771413467 : Nat := 0
def PySem.W.Fast.tw11435666369104014614 : Nat := 0
def PySem.W.Fast.tw8714835785337569832 : Nat := 0
def PySem.W.Fast.tw12842299316203920769 : Nat := 0
def PySem.W.Fast.tw10225840078503965751 : Nat := 0
def PySem.W.Fast.tw11285665904015458657 : Nat := 0
def PySem.W.Fast.tw8272819346198450091 : Nat := 0
def PySem.W.Fast.tw5866488176944771371 : Nat := 0
def PySem.W.Fast.tw7167741097246525523 : Nat := 0
def PySem.W.Fast.tw682795032061873535 : Nat := 0
def PySem.W.Fast.tw10331283590420041503 : Nat := 0
def PySem.W.Fast.tw14534517997577048570 : Nat := 0
def PySem.W.Fast.tw2977703647932152833 : Nat := 0
def PySem.W.Fast.tw16848568844890963824 : Nat := 0
def PySem.W.Fast.tw7939269310068355859 : Nat := 0
def PySem.W.Fast.tw16058008389907831544 : Nat := 0
def PySem.W.Fast.tw17455567168831940808 : Nat := 0
def PySem.W.Fast.tw3219619828112555547 : Nat := 0
def PySem.W.Fast.tw4014549474576144720 : Nat := 0
def PySem.W.Fast.tw6797660965350565376 : Nat := 0
def PySem.W.Fast.tw1842062888822719214 : Nat := 0
def PySem.W.Fast.tw12454098728833939956 : Nat := 0
def PySem.W.Fast.tw7957956311873371928 : Nat := 0
def PySem.W.Fast.tw14524100409035431037 : Nat := 0
def PySem.W.Fast.tw9548196948045383222 : Nat := 0
def PySem.W.Fast.tw1103122668697619088 : Nat := 0
def PySem.W.Fast.tw4435440061748910232 : Nat := 0
def PySem.W.Fast.tw6986334136095027553 : Nat := 0
def PySem.W.Fast.tw358138045949036941 : Nat := 0
def PySem.W.Fast.tw5579506372635831563 : Nat := 0
def PySem.W.Fast.tw16996089975608597831 : Nat := 0
def PySem.W.Fast.tw2224783187426207746 : Nat := 0
def PySem.W.Fast.tw12584837999669038225 : Nat := 0
def PySem.W.Fast.tw16034330694322300067 : Nat := 0
def PySem.W.Fast.tw7327825450546396343 : Nat := 0
def PySem.W.Fast.tw13338219079097336628 : Nat := 0
def PySem.W.Fast.tw5230078897574362701 : Nat := 0
def PySem.W.Fast.tw2837856545238773625 : Nat := 0
def PySem.W.Fast.tw17542424316442893629 : Nat := 0
def PySem.W.Fast.tw1365244071413779821 : Nat := 0
def PySem.W.Fast.tw8351640957043999444 : Nat := 0
def PySem.W.Fast.tw7544673373133995339 : Nat := 0
def PySem.W.Fast.tw8200373951098420399 : Nat := 0
def PySem.W.Fast.tw5390593033581611356 : Nat := 0
def PySem.W.Fast.tw2941747037330396981 : Nat := 0
def PySem.W.Fast.tw2037846160344624234 : Nat := 0
def PySem.W.Fast.tw4490122936408993983 : Nat := 0
def PySem.W.Fast.tw2913990541788208829 : Nat := 0
def PySem.W.Fast.tw14649998220384335815 : Nat := 0
def PySem.W.Fast.tw16059807434996695436 : Nat := 0
def PySem.W.Fast.tw1844420265272572382 : Nat := 0
open PySem.W PyProof.Rows
set_option maxRecDepth 100000 in
set_option maxHeartbeats 0 in
theorem PySem.Challenge.cw_cuetimer_k62_settings_and_cuts_holds : PySem.Challenge.rw_cuetimer_k62_settings_and_cuts.Holds := by
 w_on; o_law; k_head; (case hw => w_witness2)
 k_fill
 refine DL.walk (l := PySem.Challenge.rw_cuetimer_k62_settings_and_cuts) (k := 12) (F := K62.zd) (x := "_law_script") rfl rfl K62.BP ⟨rfl, by decide, by decide⟩ (fun w h Y => PySem.W.kIn_of Y) ?T
 case T =>
  intro w mg fa h KX G hmg
  refine' K62.all_mk KX G hmg ?a0 ?l0 ?c0 ?k0 ?a1 ?l1 ?c1 ?k1 ?a2 ?l2 ?c2 ?k2 ?a3 ?l3 ?c3 ?k3 ?a4 ?l4 ?c4 ?k4 ?a5 ?l5 ?c5 ?k5 ?a8 ?l8 ?c8 ?k8 ?a9 ?l9 ?c9 ?k9 ?a11 ?l11 ?c11 ?k11 ?a12 ?l12 ?c12 ?k12 ?a13 ?l13 ?c13 ?k13 ?a14 ?l14 ?c14 ?k14 ?a15 ?l15 ?c15 ?k15 ?a16 ?l16 ?c16 ?k16 ?a17 ?l17 ?c17 ?k17 ?t17 ?a18 ?l18 ?c18 ?k18 ?a19 ?l19 ?c19 ?k19 ?a20 ?l20 ?c20 ?k20 ?a21 ?l21 ?c21 ?k21 ?a22 ?l22 ?c22 ?k22 ?a24 ?l24 ?c24 ?k24 ?a28 ?l28 ?c28 ?k28 ?a29 ?l29 ?c29 ?k29 ?a30 ?l30 ?c30 ?k30 ?a31 ?l31 ?c31 ?k31 ?a32 ?l32 ?c32 ?k32 ?a33 ?l33 ?c33 ?k33 ?a34 ?l34 ?c34 ?k34 ?a35 ?l35 ?c35 ?k35 ?a36 ?l36 ?c36 ?k36 ?a37 ?l37 ?c37 ?k37 ?a41 ?l41 ?c41 ?k41 ?a42 ?l42 ?c42 ?k42 ?a43 ?l43 ?c43 ?k43 ?a44 ?l44 ?c44 ?k44 ?a45 ?l45 ?c45 ?k45 ?a46 ?l46 ?c46 ?k46 ?a47 ?l47 ?c47 ?k47 ?a48 ?l48 ?c48 ?k48 ?a49 ?l49 ?c49 ?k49 ?a50 ?l50 ?c50 ?k50 ?z_all ?z_len ?z_int ?z_isinstance ?z_str ?z_dict ?z_max ?z_range ?z_enumerate ?z_sorted ?z_bool ?z_ord ?z_tuple ?z_divmod ?z_min ?n_Thousandths ?n_Desk ?a6 ?l6 ?c6 ?k6 ?i6 ?a7 ?l7 ?c7 ?k7 ?i7 ?mk7 ?kc7 ?a10 ?l10 ?c10 ?k10 ?i10 ?a23 ?l23 ?c23 ?k23 ?i23 ?a25 ?l25 ?c25 ?k25 ?i25 ?a26 ?l26 ?c26 ?k26 ?i26 ?a27 ?l27 ?c27 ?k27 ?i27 ?a38 ?l38 ?c38 ?k38 ?i38 ?a39 ?l39 ?c39 ?k39 ?i39 ?a40 ?l40 ?c40 ?k40 ?i40 ?n_FIGURES ?n_FIRST_SETTINGS ?T_FIRST_SETTINGS ?n_HOW_MANY ?T_HOW_MANY ?n_BOUNDS ?T_BOUNDS ?n_PERCENT ?nn_Thousandths ?pg_Thousandths ?hd_Thousandths ?po_Thousandths ?sa_Thousandths ?nn_Desk ?pg_Desk ?hd_Desk ?po_Desk ?sa_Desk ?na_Desk_cues ?na_Desk_clock ?mk_Thousandths ?ii_Thousandths ?so_Thousandths ?kc_Thousandths ?na_Desk_settings ?na_Desk_cuts
  (case a0 => k_is)
  (case l0 => k_is)
  (case c0 => k_is)
  (case k0 => k_is)
  (case a1 => k_is)
  (case l1 => k_is)
  (case c1 => k_is)
  (case k1 => k_is)
  (case a2 => k_is)
  (case l2 => k_is)
  (case c2 => k_is)
  (case k2 => k_is)
  (case a3 => k_is)
  (case l3 => k_is)
  (case c3 => k_is)
  (case k3 => k_is)
  (case a4 => k_is)
  (case l4 => k_is)
  (case c4 => k_is)
  (case k4 => k_is)
  (case a5 => k_is)
  (case l5 => k_is)
  (case c5 => k_is)
  (case k5 => k_is)
  (case a8 => k_is)
  (case l8 => k_is)
  (case c8 => k_is)
  (case k8 => k_is)
  (case a9 => k_is)
  (case l9 => k_is)
  (case c9 => k_is)
  (case k9 => k_is)
  (case a11 => k_is)
  (case l11 => k_is)
  (case c11 => k_is)
  (case k11 => k_is)
  (case a12 => k_is)
  (case l12 => k_is)
  (case c12 => k_is)
  (case k12 => k_is)
  (case a13 => k_is)
  (case l13 => k_is)
  (case c13 => k_is)
  (case k13 => k_is)
  (case a14 => k_is)
  (case l14 => k_is)
  (case c14 => k_is)
  (case k14 => k_is)
  (case a15 => k_is)
  (case l15 => k_is)
  (case c15 => k_is)
  (case k15 => k_is)
  (case a16 => k_is)
  (case l16 => k_is)
  (case c16 => k_is)
  (case k16 => k_is)
  (case a17 => k_is)
  (case l17 => k_is)
  (case c17 => k_is)
  (case k17 => k_is)
  (case t17 => k_is)
  (case a18 => k_is)
  (case l18 => k_is)
  (case c18 => k_is)
  (case k18 => k_is)
  (case a19 => k_is)
  (case l19 => k_is)
  (case c19 => k_is)
  (case k19 => k_is)
  (case a20 => k_is)
  (case l20 => k_is)
  (case c20 => k_is)
  (case k20 => k_is)
  (case a21 => k_is)
  (case l21 => k_is)
  (case c21 => k_is)
  (case k21 => k_is)
  (case a22 => k_is)
  (case l22 => k_is)
  (case c22 => k_is)
  (case k22 => k_is)
  (case a24 => k_is)
  (case l24 => k_is)
  (case c24 => k_is)
  (case k24 => k_is)
  (case a28 => k_is)
  (case l28 => k_is)
  (case c28 => k_is)
  (case k28 => k_is)
  (case a29 => k_is)
  (case l29 => k_is)
  (case c29 => k_is)
  (case k29 => k_is)
  (case a30 => k_is)
  (case l30 => k_is)
  (case c30 => k_is)
  (case k30 => k_is)
  (case a31 => k_is)
  (case l31 => k_is)
  (case c31 => k_is)
  (case k31 => k_is)
  (case a32 => k_is)
  (case l32 => k_is)
  (case c32 => k_is)
  (case k32 => k_is)
  (case a33 => k_is)
  (case l33 => k_is)
  (case c33 => k_is)
  (case k33 => k_is)
  (case a34 => k_is)
  (case l34 => k_is)
  (case c34 => k_is)
  (case k34 => k_is)
  (case a35 => k_is)
  (case l35 => k_is)
  (case c35 => k_is)
  (case k35 => k_is)
  (case a36 => k_is)
  (case l36 => k_is)
  (case c36 => k_is)
  (case k36 => k_is)
  (case a37 => k_is)
  (case l37 => k_is)
  (case c37 => k_is)
  (case k37 => k_is)
  (case a41 => k_is)
  (case l41 => k_is)
  (case c41 => k_is)
  (case k41 => k_is)
  (case a42 => k_is)
  (case l42 => k_is)
  (case c42 => k_is)
  (case k42 => k_is)
  (case a43 => k_is)
  (case l43 => k_is)
  (case c43 => k_is)
  (case k43 => k_is)
  (case a44 => k_is)
  (case l44 => k_is)
  (case c44 => k_is)
  (case k44 => k_is)
  (case a45 => k_is)
  (case l45 => k_is)
  (case c45 => k_is)
  (case k45 => k_is)
  (case a46 => k_is)
  (case l46 => k_is)
  (case c46 => k_is)
  (case k46 => k_is)
  (case a47 => k_is)
  (case l47 => k_is)
  (case c47 => k_is)
  (case k47 => k_is)
  (case a48 => k_is)
  (case l48 => k_is)
  (case c48 => k_is)
  (case k48 => k_is)
  (case a49 => k_is)
  (case l49 => k_is)
  (case c49 => k_is)
  (case k49 => k_is)
  (case a50 => k_is)
  (case l50 => k_is)
  (case c50 => k_is)
  (case k50 => k_is)
  (case z_all => k_is)
  (case z_len => k_is)
  (case z_int => k_is)
  (case z_isinstance => k_is)
  (case z_str => k_is)
  (case z_dict => k_is)
  (case z_max => k_is)
  (case z_range => k_is)
  (case z_enumerate => k_is)
  (case z_sorted => k_is)
  (case z_bool => k_is)
  (case z_ord => k_is)
  (case z_tuple => k_is)
  (case z_divmod => k_is)
  (case z_min => k_is)
  (case n_Thousandths => k_is)
  (case n_Desk => k_is)
  (case a6 => k_is)
  (case l6 => k_is)
  (case c6 => k_is)
  (case k6 => k_is)
  (case i6 => k_is)
  (case a7 => k_is)
  (case l7 => k_is)
  (case c7 => k_is)
  (case k7 => k_is)
  (case i7 => k_is)
  (case mk7 => k_is)
  (case kc7 => k_is)
  (case a10 => k_is)
  (case l10 => k_is)
  (case c10 => k_is)
  (case k10 => k_is)
  (case i10 => k_is)
  (case a23 => k_is)
  (case l23 => k_is)
  (case c23 => k_is)
  (case k23 => k_is)
  (case i23 => k_is)
  (case a25 => k_is)
  (case l25 => k_is)
  (case c25 => k_is)
  (case k25 => k_is)
  (case i25 => k_is)
  (case a26 => k_is)
  (case l26 => k_is)
  (case c26 => k_is)
  (case k26 => k_is)
  (case i26 => k_is)
  (case a27 => k_is)
  (case l27 => k_is)
  (case c27 => k_is)
  (case k27 => k_is)
  (case i27 => k_is)
  (case a38 => k_is)
  (case l38 => k_is)
  (case c38 => k_is)
  (case k38 => k_is)
  (case i38 => k_is)
  (case a39 => k_is)
  (case l39 => k_is)
  (case c39 => k_is)
  (case k39 => k_is)
  (case i39 => k_is)
  (case a40 => k_is)
  (case l40 => k_is)
  (case c40 => k_is)
  (case k40 => k_is)
  (case i40 => k_is)
  (case n_FIGURES => k_is)
  (case n_FIRST_SETTINGS => k_is)
  (case T_FIRST_SETTINGS => (refine' K62.lV ?u_FIRST_SETTINGS (by decide); (case u_FIRST_SETTINGS => k_is)))
  (case n_HOW_MANY => k_is)
  (case T_HOW_MANY => (refine' K62.rQ ?u_HOW_MANY (by decide); (case u_HOW_MANY => k_is)))
  (case n_BOUNDS => k_is)
  (case T_BOUNDS => (refine' K62.vS ?u_BOUNDS (by decide) ?x0_BOUNDS ?x1_BOUNDS ?x2_BOUNDS ?x3_BOUNDS ?x4_BOUNDS ?x5_BOUNDS ?x6_BOUNDS; (case u_BOUNDS => k_is); (case x0_BOUNDS => k_is); (case x1_BOUNDS => k_is); (case x2_BOUNDS => k_is); (case x3_BOUNDS => k_is); (case x4_BOUNDS => k_is); (case x5_BOUNDS => k_is); (case x6_BOUNDS => k_is)))
  (case n_PERCENT => k_is)
  (case nn_Thousandths => k_is)
  (case pg_Thousandths => k_is)
  (case hd_Thousandths => k_is)
  (case po_Thousandths => k_is)
  (case sa_Thousandths => k_is)
  (case nn_Desk => k_is)
  (case pg_Desk => k_is)
  (case hd_Desk => k_is)
  (case po_Desk => k_is)
  (case sa_Desk => k_is)
  (case na_Desk_cues => k_is)
  (case na_Desk_clock => k_is)
  (case mk_Thousandths => k_is)
  (case ii_Thousandths => k_is)
  (case so_Thousandths => k_is)
  (case kc_Thousandths => k_is)
  (case na_Desk_settings => k_is)
  (case na_Desk_cuts => k_is)
#print axioms PySem.Challenge.cw_cuetimer_k62_settings_and_cuts_holds
