import PyProof.Rows.All
import Wide.All
import OpenK.AllK
import Wide.FinOn
import Lean
import PyProof.EqAt
import PyProof.EqKinds
import PyProof.TupleCall
import PySem.Challenge.RW_cuetimer_k41_least_of_one_point
set_option Elab.async false
set_option linter.all false
set_option maxRecDepth 100000
set_option maxHeartbeats 4000000
namespace L2
open PySem PySem.Spec PyProof.Rows
abbrev Key:=Sum Int Str
def keyIs:Key->Value->Bool
 | .inl k,v=>Value.isInt k v
 | .inr x,v=>Value.isStrOf x v
def keyH(w:World):Key->Int
 | .inl k=>hashInt k
 | .inr x=>hashStr w x
theorem cr:∀{k:Key} {v:Value},keyIs k v=true->(∃i t,k=Sum.inl i/\v=Value.int i t)\/(∃x t,k=Sum.inr x/\v=Value.str x t)
 | .inl i,v,h=>by
  obtain⟨t,e⟩:=Value.isInt_shape (k:=i) (v:=v) h
  exact .inl ⟨i,t,rfl,e⟩
 | .inr x,v,h=>by
  obtain⟨t,e⟩:=Value.isStrOf_shape (x:=x) (v:=v) h
  exact .inr ⟨x,t,rfl,e⟩
theorem key_ll(a b:Int):decide ((Sum.inl a:Key)=Sum.inl b)=(a==b):=by
 by_cases e:a=b
 ·subst e;simp
 ·have h:¬(Sum.inl a:Key)=Sum.inl b:=λq=>e (Sum.inl.inj q)
  rw[decide_eq_false h]
  exact(beq_eq_false_iff_ne.mpr e).symm
theorem key_rr(a b:Str):decide ((Sum.inr a:Key)=Sum.inr b)=decide (a=b):=by
 by_cases e:a=b
 ·subst e;simp
 ·have h:¬(Sum.inr a:Key)=Sum.inr b:=λq=>e (Sum.inr.inj q)
  rw[decide_eq_false h,decide_eq_false e]
theorem key_lr(a:Int)(b:Str):decide ((Sum.inl a:Key)=Sum.inr b)=false:=decide_eq_false (λq=>nomatch q)
theorem key_rl(a:Str)(b:Int):decide ((Sum.inr a:Key)=Sum.inl b)=false:=decide_eq_false (λq=>nomatch q)
def mixKind(prog:Program)(w:World):PySem.KeyKind prog w Key where
 is:=keyIs
 hash:=keyH w
 inj:=λv a b ha hb=>by
  rcases cr ha with ⟨i,t,rfl,rfl⟩ | ⟨x,t,rfl,rfl⟩
  ·rcases cr hb with ⟨j,u,rfl,e⟩ | ⟨y,u,rfl,e⟩
   ·injection e with e1 _;rw[e1]
   ·exact nomatch e
  ·rcases cr hb with ⟨j,u,rfl,e⟩ | ⟨y,u,rfl,e⟩
   ·exact nomatch e
   ·injection e with e1 _;rw[e1]
 byValue:=λk v h=>by
  rcases cr h with ⟨i,t,rfl,rfl⟩ | ⟨x,t,rfl,rfl⟩<;>rfl
 pyHash:=λhv h=>by
  rcases cr hv with ⟨i,t,rfl,rfl⟩ | ⟨x,t,rfl,rfl⟩
  ·exact wpAny_pyHash_int h
  ·exact wpAny_pyHash_str h
 eqBool:=λhu hv h=>by
  rcases cr hu with ⟨i,t,rfl,rfl⟩ | ⟨x,t,rfl,rfl⟩
  ·rcases cr hv with ⟨j,u,rfl,rfl⟩ | ⟨y,u,rfl,rfl⟩
   ·rw[key_ll] at h;exact wpAny_eqBool_int h
   ·rw[key_lr] at h;exact SeqAt.EqAt.int_str i t y u _ _ _ _ h
  ·rcases cr hv with ⟨j,u,rfl,rfl⟩ | ⟨y,u,rfl,rfl⟩
   ·rw[key_rl] at h;exact SeqAt.EqAt.str_int x t j u _ _ _ _ h
   ·rw[key_rr] at h;exact wpAny_eqBool_str h
 «strs»:=λk x t v h=>by
  rcases cr h with ⟨i,u,rfl,e⟩ | ⟨y,u,rfl,e⟩
  ·exact nomatch e
  ·injection e with e1 _
   subst e1
   cases v<;>rfl
end L2
namespace L2
open PySem PySem.Spec PyProof.Rows
inductive V where
 | non | bl (b:Bool) | int (i:Int) | str (x:Str) | byt (b:Array UInt8) | flt (b:UInt64) | ref (a:Addr) | ty (n:String)
 deriving DecidableEq
def bS:V->Value->Prop
 | .non,u=>u=Value.none
 | .bl b,u=>u=Value.bool b
 | .int i,u=>∃t,u=Value.int i t
 | .str x,u=>∃t,u=Value.str x t
 | .byt b,u=>∃t,u=Value.bytes b t
 | .flt b,u=>∃t,u=Value.float b t
 | .ref a,u=>u=Value.ref a
 | .ty n,u=>u=Value.type n
abbrev aU:List V->List Value->Prop:=Paired bS
theorem aU.length{xs:List V}{us:List Value}(r:aU xs us):xs.length=us.length:=Paired.length r
theorem aU.get:∀{xs:List V} {us:List Value} {i:Nat} {x:V},aU xs us->xs[i]?=some x->∃u,us[i]?=some u/\bS x u
 | _,_,_,_,.nil,e=>by simp at e
 | _,_,0,_,.cons r _,e=>by simp at e;subst e;exact⟨_,rfl,r⟩
 | _,_,i+1,x,.cons _ t,e=>by
  obtain⟨u,h1,h2⟩:=aU.get (i:=i) (x:=x) t (by simpa using e)
  exact⟨u,by simpa using h1,h2⟩
theorem aU.set{x:V}{u:Value}(r:bS x u):∀{xs:List V} {us:List Value} (i:Nat),aU xs us->aU (xs.set i x) (us.set i u)
 | _,_,_,.nil=>.nil
 | _,_,0,.cons _ t=>.cons r t
 | _,_,i+1,.cons q t=>.cons q (aU.set r i t)
theorem aU.append:∀{xs ys:List V} {us ws:List Value},aU xs us->aU ys ws->aU (xs++ys) (us++ws)
 | _,_,_,_,.nil,s=>s
 | _,_,_,_,.cons r t,s=>.cons r (aU.append t s)
theorem aU.take:∀{xs:List V} {us:List Value} (n:Nat),aU xs us->aU (xs.take n) (us.take n)
 | _,_,0,_=>.nil
 | _,_,_+1,.nil=>.nil
 | _,_,n+1,.cons r t=>.cons r (aU.take n t)
theorem aU.drop:∀{xs:List V} {us:List Value} (n:Nat),aU xs us->aU (xs.drop n) (us.drop n)
 | _,_,0,r=>r
 | _,_,_+1,.nil=>.nil
 | _,_,n+1,.cons _ t=>aU.drop n t
def RelO:Option V->Option Value->Prop
 | some v,some u=>bS v u
 | none,none=>True
 | _,_=>False
def KV{κ:Type}:List (κ×V)->List (κ×Value)->Prop:=Paired λ(p:κ×V) (q:κ×Value)=>p.1=q.1/\bS p.2 q.2
def kV:Key->V
 | .inl i=>.int i
 | .inr x=>.str x
inductive HO where
 | lst (xs:List V)
 | tup (xs:List V)
 | dK (kvs:List (Key×V)) | dT (kvs:List (List Key×V))
 | set (S:Int->Bool) (n:Nat)
 | ins (C dx:Addr) (fs:List (Str×V))
 | own (x:Addr)
 | xd (fs:List (Str×V))
 | met (f x:Addr)
 | rng (lo hi:Int)
 | frz (o:Obj) (u:HO)
 | tbl (ps:Array Value)
 | ext (φ:Heap->Prop)
abbrev Hp:=Addr->Option HO
def upd(H:Hp)(a:Addr)(o:HO):Hp:=λb=>if b=a then some o else H b
theorem aP{H:Hp}{a:Addr}{o:HO}:upd H a o a=some o:=by unfold upd;rw[if_pos rfl]
theorem upd_ne{H:Hp}{a b:Addr}{o:HO}(h:b≠a):upd H a o b=H b:=by unfold upd;rw[if_neg h]
theorem ne_of{H:Hp}{a b:Addr}{o u:HO}(h:H a=some o)(h':H b=some u)(d:o≠u):a≠b:=by
 intro e;subst e;rw[h] at h';exact d (Option.some.inj h')
theorem aK{H:Hp}{a b:Addr}{o:HO}(h:H a=some o)(h':H b=none):a≠b:=by
 intro e;subst e;rw[h] at h';cases h'
section
variable(P:Program)(w:World)
def fR(H:Hp)(h:Heap)(a:Addr):HO->Prop
 | .lst xs=>xs.length<=sizeLine/\∃(its:List Value) (n:Nat),aU xs its/\h.get? a=some { cls:=.type "list",data:=.seq its.toArray n }
 | .tup xs=>xs.length<=sizeLine/\∃its:List Value,aU xs its/\IsTup h a its.toArray
 | .dK kvs=>kvs.length<=sizeLine/\(a==sysModules)=false/\∃vs,KV kvs vs/\h.DictOf (mixKind P w) a vs
 | .dT kvs=>kvs.length<=sizeLine/\(a==sysModules)=false/\∃xs:List (List Key×Addr×Value),
   Paired (λ(p:List Key×V) (q:List Key×Addr×Value)=>p.1=q.1/\H q.2.1=some (.tup (p.1.map kV))/\bS p.2 q.2.2) kvs xs /\
   ∃o es ep,h.get? a=some o/\o.ExactDict/\o.data=.dict es ep/\es.toList=xs.map (entryOfKey (tupleKind (mixKind P w)))/\(xs.map (·.1)).Nodup
 | .set S n=>h.SetOf (intKind P w) a S n
 | .ins C dx fs=>H dx=some (.own a)/\fs.length<=1000/\dx≠a/\h.get? a=some (PySem.W.instObj C dx) /\
   ∃mA,h.Ns1 dx mA/\(∀f,RelO (fs.lookup f) (mA f))/\PySem.Within mA (fs.map (·.1))
 | .own _=>∃o,h.get? a=some o
 | .xd fs=>∃mA,h.Ns1 a mA/\∀f,RelO (fs.lookup f) (mA f)
 | .rng lo hi=>∃t u v,h.get? a=some { cls:=.type "range",data:=.fields #[.int lo t,.int hi u,.int 1 v] }
 | .frz o u=>h.get? a=some o/\fR H h a u
 | .tbl ps=>h.get? a=some { cls:=.none,data:=.fields ps }
 | .met f x=>h.get? a=some (PySem.W.methodObj (.ref f) (.ref x))
 | .ext φ=>φ h/\(∃o,h.get? a=some o)/\∀h1 h2:Heap,φ h1->(∀o,h1.get? a=some o->h2.get? a=some o)->φ h2
def HOk(H:Hp)(h:Heap):Prop:=∀a o,H a=some o->fR P w H h a o
end
section
variable{P:Program}{w:World}{H H':Hp}{h h':Heap}{a:Addr}{o:HO}
theorem fR.lt(x:fR P w H h a o):a<h.objs.size:=by
 cases o with
 | lst xs=>obtain⟨_,_,_,_,e⟩:=x;exact Heap.lt_size e
 | tup xs=>obtain⟨_,_,_,p⟩:=x;exact p.lt
 | dK kvs=>obtain⟨_,_,_,_,o,_,_,e,_⟩:=x;exact Heap.lt_size e
 | dT kvs=>obtain⟨_,_,_,_,o,_,_,e,_⟩:=x;exact Heap.lt_size e
 | set S n=>obtain⟨o,_,_,_,e,_⟩:=x;exact Heap.lt_size e
 | ins C dx fs=>obtain⟨_,_,_,e,_⟩:=x;exact Heap.lt_size e
 | own y=>obtain⟨_,e⟩:=x;exact Heap.lt_size e
 | xd fs=>obtain⟨_,⟨_,_,_,e,_⟩,_⟩:=x;exact Heap.lt_size e
 | rng lo hi=>obtain⟨_,_,_,e⟩:=x;exact Heap.lt_size e
 | frz ob u=>obtain⟨e,_⟩:=x;exact Heap.lt_size e
 | tbl ps=>exact Heap.lt_size (show h.get? a=some _ from x)
 | met f y=>exact Heap.lt_size (show h.get? a=some _ from x)
 | ext φ=>obtain⟨_,⟨_,e⟩,_⟩:=x;exact Heap.lt_size e
theorem Paired.mapP{α β:Type}{F G:α->β->Prop}:∀{l₁:List α} {l₂:List β},Paired F l₁ l₂->(∀a b,F a b->G a b)->Paired G l₁ l₂
 | _,_,.nil,_=>.nil
 | _,_,.cons r t,f=>.cons (f _ _ r) (Paired.mapP t f)
theorem fR.stay(x:fR P w H h a o)(k:∀b u,(b=a\/H b=some (.own a))->h.get? b=some u->h'.get? b=some u)
  (ho:∀b,H b=some (.own a)->H' b=some (.own a)) (ht:∀b xs,H b=some (.tup xs)->H' b=some (.tup xs)):fR P w H' h' a o:=by
 induction o with
 | lst xs=>obtain⟨z,its,n,r,e⟩:=x;exact⟨z,its,n,r,k _ _ (.inl rfl) e⟩
 | tup xs=>obtain⟨z,its,r,ob,e,c⟩:=x;exact⟨z,its,r,ob,k _ _ (.inl rfl) e,c⟩
 | dK kvs=>obtain⟨z,y,vs,r,ob,es,ep,e,c⟩:=x;exact⟨z,y,vs,r,ob,es,ep,k _ _ (.inl rfl) e,c⟩
 | dT kvs =>
  obtain⟨z,y,xs,r,ob,es,ep,e,c⟩:=x
  exact⟨z,y,xs,Paired.mapP r λp q z=>⟨z.1,ht _ _ z.2.1,z.2.2⟩,ob,es,ep,k _ _ (.inl rfl) e,c⟩
 | set S n=>obtain⟨ob,es,ep,t,e,c⟩:=x;exact⟨ob,es,ep,t,k _ _ (.inl rfl) e,c⟩
 | ins C dx fs =>
  obtain⟨d,z,ne,e,mA,⟨od,es,ep,e2,c⟩,r⟩:=x
  exact⟨ho _ d,z,ne,k _ _ (.inl rfl) e,mA,⟨od,es,ep,k _ _ (.inr d) e2,c⟩,r⟩
 | own y=>obtain⟨ob,e⟩:=x;exact⟨ob,k _ _ (.inl rfl) e⟩
 | xd fs=>obtain⟨mA,⟨od,es,ep,e,c⟩,r⟩:=x;exact⟨mA,⟨od,es,ep,k _ _ (.inl rfl) e,c⟩,r⟩
 | rng lo hi=>obtain⟨t,u,v,e⟩:=x;exact⟨t,u,v,k _ _ (.inl rfl) e⟩
 | frz ob u ih=>obtain⟨e,q⟩:=x;exact⟨k _ _ (.inl rfl) e,ih q⟩
 | tbl ps =>
  have e:h.get? a=some { cls:=.none,data:=.fields ps }:=x
  show h'.get? a=some { cls:=.none,data:=.fields ps }
  exact k a _ (.inl rfl) e
 | met f y =>
  have e:h.get? a=some (PySem.W.methodObj (.ref f) (.ref y)):=x
  show h'.get? a=some (PySem.W.methodObj (.ref f) (.ref y))
  exact k a _ (.inl rfl) e
 | ext φ=>obtain⟨p,⟨o,e⟩,st⟩:=x;exact⟨st _ _ p λo q=>k _ _ (.inl rfl) q,⟨o,k _ _ (.inl rfl) e⟩,st⟩
theorem HOk.lt(x:HOk P w H h)(e:H a=some o):a<h.objs.size:=(x a o e).lt
theorem HOk.fresh(x:HOk P w H h)(e:h.objs.size<=a):H a=none:=by
 cases q:H a with
 | none=>rfl
 | some u=>exact absurd (Nat.lt_of_lt_of_le (x.lt q) e) (Nat.lt_irrefl _)
theorem HOk.kept(x:HOk P w H h)(k:∀b u,h.get? b=some u->h'.get? b=some u):HOk P w H h':=λa o e =>
 (x a o e).stay (λb u _ q=>k b u q) (λ_ q=>q) λ_ _ q=>q
theorem HOk.laid(x:HOk P w H h)(k:∀b u,h.get? b=some u->h'.get? b=some u)(hp:h.objs.size<=a)(new:fR P w (upd H a o) h' a o):HOk P w (upd H a o) h':=λb u e=>by
 have hn:=x.fresh hp
 by_cases hb:b=a
 ·subst hb;rw[aP] at e;cases e;exact new
 ·rw[upd_ne hb] at e
  exact(x b u e).stay (λc v _ q=>k c v q) (λc q=>by rw[upd_ne (aK q hn)];exact q) λc xs q=>by rw[upd_ne (aK q hn)];exact q
end
def Rd(H:Hp)(a:Addr)(u:HO):Prop:=H a=some u\/∃o,H a=some (.frz o u)
theorem Rd.ok{P:Program}{w:World}{H:Hp}{h:Heap}{a:Addr}{u:HO}(r:Rd H a u)(x:HOk P w H h):fR P w H h a u:=by
 rcases r with r | ⟨o,r⟩
 ·exact x a u r
 ·obtain⟨_,q⟩:=x a _ r
  exact q
def Mut:Option HO->Prop
 | some (.lst _)=>True
 | some (.dK _)=>True
 | some (.dT _)=>True
 | some (.set _ _)=>True
 | some (.ins _ _ _)=>True
 | some (.ext _)=>True
 | _=>False
section
variable{P:Program}{w:World}{H:Hp}{h h':Heap}{x e:Addr}{o':HO}
theorem HOk.write(ok:HOk P w H h)(mu:Mut (H x))(he:e=x\/H e=some (.own x))(k:∀b u,b≠e->h.get? b=some u->h'.get? b=some u)(heo:∃u,h'.get? e=some u)
  (new:fR P w (upd H x o') h' x o'):HOk P w (upd H x o') h':=λb u q=>by
 have nown:∀c y,H c=some (.own y)->c≠x:=λc y r z=>by subst z;rw[r] at mu;exact mu
 have ntup:∀c xs,H c=some (.tup xs)->c≠x:=λc xs r z=>by subst z;rw[r] at mu;exact mu
 by_cases hb:b=x
 ·subst hb;rw[aP] at q;cases q;exact new
 ·rw[upd_ne hb] at q
  by_cases hbe:b=e
  ·have q':H b=some (.own x):=by
    rcases he with z | z
    ·exact absurd (hbe.trans z) hb
    ·rw[hbe];exact z
   rw[q] at q';cases q'
   obtain⟨v,hv⟩:=heo
   exact⟨v,by rw[hbe];exact hv⟩
  ·refine(ok b u q).stay (λc v hc r=>k c v ?_ r) (λc r=>by rw[upd_ne (nown c b r)];exact r) λc xs r=>by rw[upd_ne (ntup c xs r)];exact r
   rcases hc with rfl | hc
   ·exact hbe
   ·rintro rfl
    rcases he with z | z
    ·exact nown c b hc z
    ·rw[hc] at z;cases z;exact hb rfl
end
structure Un(fs ex:List Addr)(H H':Hp)(h h':Heap):Prop where
 keep:∀b o,h.get? b=some o->H b=none->b∉fs->b∉ex->h'.get? b=some o
 slot:∀b o,h.get? b=some o->H b=none->b∈fs->b∉ex->∃sl,h'.get? b=some { o with slots:=sl }
 free:∀b o,h.get? b=some o->H b=none->b∉ex->H' b=none
 there:∀b o,h.get? b=some o->b∉ex->∃o',h'.get? b=some o'
 tups:∀b xs,H b=some (.tup xs)->H' b=some (.tup xs)
 frzs:∀b o u,H b=some (.frz o u)->H' b=some (.frz o u)
 tbls:∀b ps,H b=some (.tbl ps)->∃more,H' b=some (.tbl (ps++more))
section
variable{fs fs' ex ex':List Addr}{H H1 H2:Hp}{h h1 h2 h':Heap}{a x e:Addr}{o:HO}
theorem Un.any(u:Un fs ex H H1 h h1){b:Addr}{ob:Obj}(q:h.get? b=some ob)(n:H b=none)(hx:b∉ex):∃sl,h1.get? b=some { ob with slots:=sl }:=by
 by_cases hb:b∈fs
 ·exact u.slot b ob q n hb hx
 ·exact⟨ob.slots,u.keep b ob q n hb hx⟩
theorem Un.kept(k:∀b u,h.get? b=some u->h'.get? b=some u):Un fs ex H H h h' :=
 ⟨λb ob q _ _ _=>k b ob q,λb ob q _ _ _=>⟨ob.slots,k b ob q⟩,λ_ _ _ n _=>n,λb ob q _=>⟨ob,k b ob q⟩,λ_ _ q=>q,λ_ _ _ q=>q,λ_ ps q=>⟨#[],by rw[q];simp⟩⟩
theorem Un.refl:Un fs ex H H h h:=Un.kept λ_ _ q=>q
theorem Un.laid(k:∀b u,h.get? b=some u->h'.get? b=some u)(hp:h.objs.size<=a)(hn:H a=none):Un fs ex H (upd H a o) h h' where
 keep:=λb u q _ _ _=>k b u q
 slot:=λb u q _ _ _=>⟨u.slots,k b u q⟩
 free:=λb u q n _=>by rw[upd_ne (Nat.ne_of_lt (Nat.lt_of_lt_of_le (Heap.lt_size q) hp))];exact n
 there:=λb u q _=>⟨u,k b u q⟩
 tups:=λb xs q=>by rw[upd_ne (aK q hn)];exact q
 frzs:=λb u xs q=>by rw[upd_ne (aK q hn)];exact q
 tbls:=λb ps q=>⟨#[],by rw[upd_ne (aK q hn),q];simp⟩
theorem Un.write(mu:Mut (H x))(he:e=x\/H e=some (.own x))(k:∀b u,b≠e->h.get? b=some u->h'.get? b=some u)(heo:∃u,h'.get? e=some u):Un fs ex H (upd H x o) h h':=by
 have hx:∀b,H b=none->b≠x:=λb n z=>by subst z;rw[n] at mu;exact mu
 have hb:∀b,H b=none->b≠e:=λb n z=>by
  subst z
  rcases he with r | r
  ·exact hx b n r
  ·rw[n] at r;cases r
 have hm:∀b u,H b=some u->¬Mut (some u)->b≠x:=λb u q nm z=>by subst z;rw[q] at mu;exact nm mu
 refine⟨λb u q n _ _=>k b u (hb b n) q,λb u q n _ _=>⟨u.slots,k b u (hb b n) q⟩,λb u q n _=>by rw[upd_ne (hx b n)];exact n,λb u q _=>?_,
  λb xs q=>by rw[upd_ne (hm b _ q λz=>z)];exact q,λb u xs q=>by rw[upd_ne (hm b _ q λz=>z)];exact q,λb ps q=>⟨#[],by rw[upd_ne (hm b _ q λz=>z),q];simp⟩⟩
 by_cases hbe:b=e
 ·subst hbe;exact heo
 ·exact⟨u,k b u hbe q⟩
end
def trk(h:Heap)(H:Hp):List Addr:=(List.range h.objs.size).filter λa=>(H a).isSome
def hidT(h:Heap)(H:Hp):Heap:=PySem.W.hideAll h (trk h H)
theorem hidT_size(h:Heap)(H:Hp):(hidT h H).objs.size=h.objs.size:=PySem.W.hideAll_size _ _
theorem hidT_get{h:Heap}{H:Hp}{b:Addr}{o:Obj}(e:h.get? b=some o)(n:H b=none):(hidT h H).get? b=some o :=
 PySem.W.hideAll_get _ e λhm=>by
  have q:(H b).isSome=true:=(List.mem_filter.mp hm).2
  rw[n] at q;simp at q
theorem of_hidT{h:Heap}{H:Hp}{b:Addr}{o:Obj}(e:(hidT h H).get? b=some o):h.get? b=some o/\H b=none:=by
 have e':h.get? b=some o:=PySem.W.of_hideAll (trk h H) e
 refine⟨e',?_⟩
 cases q:H b with
 | none=>rfl
 | some x =>
  have hm:b∈trk h H:=List.mem_filter.mpr ⟨List.mem_range.mpr (Heap.lt_size e'),by simp [q]⟩
  have z:(hidT h H).get? b=none:=PySem.W.hideAll_none (trk h H) hm
  rw[z] at e;cases e
def allNews(g h:Heap)(L:Addr):List (Addr×Obj):=(List.range h.objs.size).filterMap λa=>if a=L\/(g.get? a).isSome=true then none else (h.get? a).map λo=>(a,o)
def b7(g h:Heap)(L d:Addr):List (Addr×Obj):=(allNews g h L).filter λp=>decide (p.1≠d)
end L2
namespace L2
open PySem PySem.Spec PyProof.Rows
structure Mod(K:PySem.W.Frag)(mg:Str->Option Value)(base:Heap):Prop where
 kin:K.In base
 glob:base.Ns mainGlobals mg
 blt:∃mb,base.Ns builtinsNs mb/\∀x:Str,x ≠ "__name__" -> mb x=bootBuiltins x
 nolimit:base.NoLimit
structure Cx where
 prog:Program
 w:World
 K:PySem.W.Frag
 mg:Str->Option Value
 base:Heap
 A:Around
 N:List Str
 s₀:Shared
 H₀:Hp
 env:Env
 outer:List Env
 stack:List Env
 ex:List Addr
 fn:Str->Bool
 calm:Bool
 pn:List (Addr×Obj)
 xe:Value->Shared->Prop
def frs(l:List Env):List Addr:=l.filterMap (·.frame)
abbrev Cx.fs(X:Cx):List Addr:=frs X.outer
def Vis(sc:Scope)(x:Str):Prop:=sc.names.lookup x=some .local\/sc.names.lookup x=some .cell\/sc.names.lookup x=some .free
def Loc(sc:Scope)(x:Str):Prop:=sc.names.lookup x=some .local\/sc.names.lookup x=some .cell
def Look(env:Env)(h:Heap)(m:Str->Option Value)(x:Str)(u:Value):Prop :=
 (env.kindOf x=some .local/\m x=some u)\/((env.kindOf x=some .cell\/env.kindOf x=some .free)/\∃c,env.cells.lookup x=some c/\h.IsCell c (some u))
structure Cx.Ok(X:Cx):Prop where
 mod:Mod X.K X.mg X.base
 kind:X.env.scope.kind=.function
 glob:X.env.globals=mainGlobals
 blt:X.env.builtins=builtinsNs
 above:X.s₀.heap.objs.size<=X.env.locals
 inj:∀x y c,X.env.cells.lookup x=some c->X.env.cells.lookup y=some c->x=y
 has:∀x,(X.env.kindOf x=some .cell\/X.env.kindOf x=some .free)->∃c,X.env.cells.lookup x=some c
 cab:∀x c,X.fn x=true->X.env.cells.lookup x=some c->X.s₀.heap.objs.size<=c
 hd:X.calm=true->X.A.handled=none
 frames:X.A.frames=some X.stack
 stk:X.stack=X.outer\/(X.stack=X.env::X.outer/\X.env.frame=some X.env.locals)
 exf:∀b∈X.ex,b≠X.env.locals/\∀x c,X.env.cells.lookup x=some c->c≠b
 bs:∀b o,X.base.get? b=some o->X.s₀.heap.get? b=some o/\X.H₀ b=none
 bsz:X.base.objs.size<=X.s₀.heap.objs.size
 noex:∀b o,X.base.get? b=some o->b∉X.ex
 exfs:∀b∈X.ex,b∉X.fs
 funs:X.s₀.heap.FunFrames X.base X.outer
 frf:∀b∈X.fs,X.H₀ b=none
structure Inv(X:Cx)(pins:List (Addr×Obj))(σ:List (Option V))(H:Hp)(s:Shared):Prop where
 ok:X.Ok
 os:s.os=X.s₀.os
 bare:AllBare s.gens
 base:Un X.fs X.ex X.H₀ H X.s₀.heap s.heap
 loc:∃m,s.heap.Ns X.env.locals m/\∀(i:Nat) (x:Str) (v:V),X.N[i]?=some x->σ[i]?=some (some v)->Vis X.env.scope x->∃u,bS v u/\Look X.env s.heap m x u
 cell:∀x c,X.env.cells.lookup x=some c->∃v,s.heap.IsCell c v
 free:H X.env.locals=none
 freeC:∀x c,X.env.cells.lookup x=some c->H c=none
 pin:∀p∈X.pn++pins,s.heap.get? p.1=some p.2/\H p.1=none/\p.1≠X.env.locals/\p.1∉X.fs/\∀v,p.2.data≠.cell v
 hok:HOk X.prog X.w H s.heap
 len:σ.length=X.N.length
section
variable{X:Cx}{pins:List (Addr×Obj)}{σ:List (Option V)}{H H':Hp}{s:Shared}{h':Heap}
theorem Cx.Ok.nofr(ok:X.Ok){b:Addr}{o:Obj}(e:X.base.get? b=some o):b∉X.fs:=λhb=>by
 have:=(ok.funs.mem hb).1
 rw[e] at this;cases this
theorem Inv.bs(I:Inv X pins σ H s):∀b o,X.base.get? b=some o->s.heap.get? b=some o/\H b=none:=λb o e =>
 ⟨I.base.keep b o (I.ok.bs b o e).1 (I.ok.bs b o e).2 (I.ok.nofr e) (I.ok.noex b o e),I.base.free b o (I.ok.bs b o e).1 (I.ok.bs b o e).2 (I.ok.noex b o e)⟩
theorem Inv.bk(I:Inv X pins σ H s):∀b o,X.base.get? b=some o->s.heap.get? b=some o:=λb o e=>(I.bs b o e).1
theorem Inv.mod(I:Inv X pins σ H s):Mod X.K X.mg X.base:=I.ok.mod
theorem Inv.kIn(I:Inv X pins σ H s):X.K.In s.heap:=I.ok.mod.kin.keeps I.bk
theorem Inv.lt(I:Inv X pins σ H s):X.env.locals<s.heap.objs.size:=let ⟨_,hn,_⟩:=I.loc;hn.lt
theorem Inv.sz(I:Inv X pins σ H s):X.s₀.heap.objs.size<=s.heap.objs.size:=Nat.le_trans I.ok.above (Nat.le_of_lt I.lt)
theorem Inv.nofs(I:Inv X pins σ H s){a:Addr}(h:s.heap.objs.size<=a):a∉X.fs:=λhb=>by
 obtain⟨_,o,ho,_⟩:=I.ok.funs.mem hb
 exact absurd (Nat.lt_of_lt_of_le (Heap.lt_size ho) (Nat.le_trans I.sz h)) (Nat.lt_irrefl _)
theorem Inv.cne(I:Inv X pins σ H s):∀x c,X.env.cells.lookup x=some c->c≠X.env.locals:=λx c e z=>by
 obtain⟨v,o,ho,hd⟩:=I.cell x c e
 obtain⟨m,⟨o',es,ep,ho',hd',_⟩,_⟩:=I.loc
 rw[z,ho'] at ho;cases ho;rw[hd'] at hd;cases hd
theorem Inv.funs(I:Inv X pins σ H s):s.heap.FunFrames X.base X.outer:=by
 have all:∀(l:List Env),(∀b∈frs l,b∈X.fs)->X.s₀.heap.FunFrames X.base l->s.heap.FunFrames X.base l:=by
  intro l
  induction l with
  | nil=>intro _ _;trivial
  | cons env r ih =>
   intro hs hl
   obtain⟨hk,⟨L,o,hf,hn,ho,hd⟩,hr⟩:=hl
   have hL:L∈X.fs:=hs L (by unfold frs;rw[List.filterMap_cons,hf];exact List.mem_cons_self)
   obtain⟨sl,e⟩:=I.base.slot L o ho (I.ok.frf L hL) hL λz=>I.ok.exfs L z hL
   exact⟨hk,⟨L,_,hf,hn,e,hd⟩,ih (λb hb=>hs b (by unfold frs;rw[List.filterMap_cons,hf];exact List.mem_cons_of_mem _ hb)) hr⟩
 exact all X.outer (λ_ hb=>hb) I.ok.funs
theorem Inv.stack(I:Inv X pins σ H s):s.heap.FunFrames X.base X.stack:=by
 rcases I.ok.stk with e | ⟨e,hf⟩
 ·rw[e];exact I.funs
 ·rw[e]
  obtain⟨m,hn,_⟩:=I.loc
  refine .cons (by rw[I.ok.kind];decide) hf hn ?_ I.funs
  exact Heap.get?_none_of_le (Nat.le_trans I.ok.bsz I.ok.above)
theorem Inv.stkSub(I:Inv X pins σ H s):∀b∈frs X.stack,b∈X.env.locals::X.fs:=λb hb=>by
 rcases I.ok.stk with e | ⟨e,hf⟩
 ·rw[e] at hb;exact List.mem_cons_of_mem _ hb
 ·rw[e] at hb
  unfold frs at hb
  rw[List.filterMap_cons,hf] at hb
  exact hb
theorem Inv.stkFree(I:Inv X pins σ H s):∀b∈frs X.stack,H b=none:=λb hb=>by
 rcases List.mem_cons.mp (I.stkSub b hb) with e | hb
 ·rw[e];exact I.free
 ·obtain⟨_,o,ho,_⟩:=I.ok.funs.mem hb
  exact I.base.free b o ho (I.ok.frf b hb) λz=>I.ok.exfs b z hb
theorem Inv.step{g':Array GenState}{t':Nat}{d':Drawn}{ch:List Addr}(I:Inv X pins σ H s)
  (hch:∀b∈ch,(b∈X.ex\/X.s₀.heap.objs.size<=b)/\b≠X.env.locals/\(∀x c,X.env.cells.lookup x=some c->c≠b)/\∀p∈X.pn++pins,p.1≠b)
  (keep:∀b o,b≠X.env.locals->b∉X.fs->b∉ch->s.heap.get? b=some o->H b=none->h'.get? b=some o)
  (slot:∀b o,b≠X.env.locals->b∈X.fs->b∉ch->s.heap.get? b=some o->H b=none->∃sl,h'.get? b=some { o with slots:=sl }) (free:∀b o,b∉ch->s.heap.get? b=some o->H b=none->H' b=none)
  (there:∀b o,b∉ch->s.heap.get? b=some o->∃o',h'.get? b=some o')
  (tups:∀b xs,H b=some (.tup xs)->H' b=some (.tup xs)) (frzs:∀b o u,H b=some (.frz o u)->H' b=some (.frz o u)) (tbls:∀b ps,H b=some (.tbl ps)->∃more,H' b=some (.tbl (ps++more)))
  (ns:∀m,s.heap.Ns X.env.locals m->h'.Ns X.env.locals m) (hok:HOk X.prog X.w H' h') (hg:AllBare g') :
  Inv X pins σ H' { s with heap:=h',gens:=g',drawn:=d',toks:=t' }:=by
 have neL:∀b o,X.s₀.heap.get? b=some o->b≠X.env.locals:=λb o e=>Nat.ne_of_lt (Nat.lt_of_lt_of_le (Heap.lt_size e) I.ok.above)
 have neC:∀b o,X.s₀.heap.get? b=some o->b∉X.ex->b∉ch:=λb o e hx hb=>by
  rcases (hch b hb).1 with z | z
  ·exact hx z
  ·exact absurd (Nat.lt_of_lt_of_le (Heap.lt_size e) z) (Nat.lt_irrefl _)
 have cellK:∀x c,X.env.cells.lookup x=some c->∀v,s.heap.IsCell c v->h'.IsCell c v:=λx c e v ⟨o,ho,hd⟩=>by
  have nch:c∉ch:=λz=>(hch c z).2.2.1 x c e rfl
  by_cases hc:c∈X.fs
  ·obtain⟨sl,q⟩:=slot c o (I.cne x c e) hc nch ho (I.freeC x c e)
   exact⟨_,q,hd⟩
  ·exact⟨o,keep c o (I.cne x c e) hc nch ho (I.freeC x c e),hd⟩
 refine⟨I.ok,I.os,hg,⟨λb o e n hb hx=>?_,λb o e n hb hx=>?_,λb o e n hx=>?_,λb o e hx=>?_,λb xs e=>tups b xs (I.base.tups b xs e),λb o xs e=>frzs b o xs (I.base.frzs b o xs e),λb ps e=>?_⟩,?_,λx c e=>?_,?_,λx c e=>?_,λp hp=>?_,hok,I.len⟩
 ·exact keep b o (neL b o e) hb (neC b o e hx) (I.base.keep b o e n hb hx) (I.base.free b o e n hx)
 ·obtain⟨sl,e1⟩:=I.base.slot b o e n hb hx
  obtain⟨sl',e2⟩:=slot b _ (neL b o e) hb (neC b o e hx) e1 (I.base.free b o e n hx)
  exact⟨sl',e2⟩
 ·obtain⟨o',e1⟩:=I.base.there b o e hx
  exact free b o' (neC b o e hx) e1 (I.base.free b o e n hx)
 ·obtain⟨o',e1⟩:=I.base.there b o e hx
  exact there b o' (neC b o e hx) e1
 ·obtain⟨m1,e1⟩:=I.base.tbls b ps e
  obtain⟨m2,e2⟩:=tbls b _ e1
  exact⟨m1++m2,by rw[e2,Array.append_assoc]⟩
 ·obtain⟨m,hn,hl⟩:=I.loc
  refine⟨m,ns m hn,λi x v e1 e2 e3=>?_⟩
  obtain⟨u,r,l⟩:=hl i x v e1 e2 e3
  refine⟨u,r,?_⟩
  rcases l with l | ⟨k,c,e,z⟩
  ·exact .inl l
  ·exact .inr ⟨k,c,e,cellK x c e _ z⟩
 ·obtain⟨v,z⟩:=I.cell x c e
  exact⟨v,cellK x c e v z⟩
 ·obtain⟨m,⟨o,_,_,ho,_⟩,_⟩:=I.loc
  exact free _ o (λz=>(hch _ z).2.1 rfl) ho I.free
 ·obtain⟨v,o,ho,hd⟩:=I.cell x c e
  exact free c o (λz=>(hch c z).2.2.1 x c e rfl) ho (I.freeC x c e)
 ·obtain⟨e,n,ne,nf,d⟩:=I.pin p hp
  have nch:p.1∉ch:=λz=>(hch p.1 z).2.2.2 p hp rfl
  exact⟨keep p.1 p.2 ne nf nch e n,free p.1 p.2 nch e n,ne,nf,d⟩
theorem Inv.un{t':Nat}(I:Inv X pins σ H s)(u:Un X.fs [] H H' s.heap h')(hok:HOk X.prog X.w H' h'):Inv X pins σ H' { s with heap:=h',toks:=t' }:=by
 obtain⟨m,⟨o,es,ep,ho,r⟩,_⟩:=id I.loc
 obtain⟨sl,hL⟩:=u.any ho I.free (by simp)
 exact I.step (g':=s.gens) (d':=s.drawn) (ch:=[]) (λ_ z=>nomatch z) (λb o _ hb _ e n=>u.keep b o e n hb (by simp)) (λb o _ hb _ e n=>u.slot b o e n hb (by simp)) (λb o _ e n=>u.free b o e n (by simp)) (λb o _ e=>u.there b o e (by simp)) u.tups u.frzs u.tbls (λm' hm=>by
  obtain⟨o',es',ep',ho',r'⟩:=hm
  rw[ho] at ho';cases ho'
  exact⟨_,es',ep',hL,r'⟩) hok I.bare
theorem Inv.call{g':Array GenState}{t':Nat}{d':Drawn}{ch:List Addr}(I:Inv X pins σ H s)(u:Un (frs X.stack) ch H H' s.heap h')(hok:HOk X.prog X.w H' h')(hg:AllBare g')
  (hch:∀b∈ch,(b∈X.ex\/X.s₀.heap.objs.size<=b)/\b≠X.env.locals/\(∀x c,X.env.cells.lookup x=some c->c≠b)/\∀p∈X.pn++pins,p.1≠b) :
  Inv X pins σ H' { s with heap:=h',gens:=g',drawn:=d',toks:=t' }:=by
 obtain⟨m,⟨o,es,ep,ho,r⟩,_⟩:=id I.loc
 obtain⟨sl,hL⟩:=u.any ho I.free λz=>(hch _ z).2.1 rfl
 exact I.step (ch:=ch) hch (λb o hL hb hc e n=>u.keep b o e n (λz=>(List.mem_cons.mp (I.stkSub b z)).elim hL hb) hc) (λb o _ _ hc e n=>u.any e n hc) (λb o hc e n=>u.free b o e n hc) (λb o hc e=>u.there b o e hc) u.tups u.frzs u.tbls (λm' hm=>by
  obtain⟨o',es',ep',ho',r'⟩:=hm
  rw[ho] at ho';cases ho'
  exact⟨_,es',ep',hL,r'⟩) hok hg
theorem Inv.turned{t':Nat}{it:Addr}(I:Inv X pins σ H s)(k:∀b o,b≠it->s.heap.get? b=some o->h'.get? b=some o)(hn:H it=none)(hL:it≠X.env.locals)
  (h1:it∈X.ex\/X.s₀.heap.objs.size<=it) (h2:∀x c,X.env.cells.lookup x=some c->c≠it) (h3:∀p∈X.pn++pins,p.1≠it):Inv X pins σ H { s with heap:=h',toks:=t' }:=by
 have nit:∀b u,H b=some u->b≠it:=λb u e z=>by rw[z,hn] at e;cases e
 refine I.step (g':=s.gens) (d':=s.drawn) (ch:=[it]) (λb hb=>?_) (λb o _ _ hc e _=>k b o (λz=>hc (by simp [z])) e) (λb o _ _ hc e _=>⟨o.slots,k b o (λz=>hc (by simp [z])) e⟩) (λ_ _ _ _ n=>n)
  (λb o hc e=>⟨o,k b o (λz=>hc (by simp [z])) e⟩) (λ_ _ e=>e) (λ_ _ _ e=>e) (λb ps e=>⟨#[],by rw[e];simp⟩) (λm hm=>?_) (λb u e=>?_) I.bare
 ·have e:b=it:=by simpa using hb
  subst e
  exact⟨h1,hL,h2,h3⟩
 ·obtain⟨o,es,ep,ho,r⟩:=hm
  exact⟨o,es,ep,k _ o (Ne.symm hL) ho,r⟩
 ·refine(I.hok b u e).stay (λc v hc q=>k c v ?_ q) (λ_ q=>q) λ_ _ q=>q
  rcases hc with z | z
  ·rw[z];exact nit b u e
  ·exact nit c _ z
theorem Inv.tok(I:Inv X pins σ H s)(t:Nat):Inv X pins σ H { s with toks:=t }:=I.un (h':=s.heap) (t':=t) Un.refl I.hok
theorem Inv.kept{t':Nat}(I:Inv X pins σ H s)(k:∀b u,s.heap.get? b=some u->h'.get? b=some u):Inv X pins σ H { s with heap:=h',toks:=t' }:=I.un (Un.kept k) (I.hok.kept k)
theorem Inv.laid{a:Addr}{o:HO}{t':Nat}(I:Inv X pins σ H s)(k:∀b u,s.heap.get? b=some u->h'.get? b=some u)(hp:s.heap.objs.size<=a)(new:fR X.prog X.w (upd H a o) h' a o) :
  Inv X pins σ (upd H a o) { s with heap:=h',toks:=t' }:=I.un (Un.laid k hp (I.hok.fresh hp)) (I.hok.laid k hp new)
theorem Inv.write{x e:Addr}{o:HO}{t':Nat}(I:Inv X pins σ H s)(mu:Mut (H x))(he:e=x\/H e=some (.own x))(k:∀b u,b≠e->s.heap.get? b=some u->h'.get? b=some u)(heo:∃u,h'.get? e=some u)
  (new:fR X.prog X.w (upd H x o) h' x o):Inv X pins σ (upd H x o) { s with heap:=h',toks:=t' }:=I.un (Un.write mu he k heo) (I.hok.write mu he k heo new)
theorem Inv.pins_of{pins':List (Addr×Obj)}(I:Inv X pins σ H s)(h:∀p∈pins',s.heap.get? p.1=some p.2/\H p.1=none/\p.1≠X.env.locals/\p.1∉X.fs/\∀v,p.2.data≠.cell v):Inv X pins' σ H s :=
 ⟨I.ok,I.os,I.bare,I.base,I.loc,I.cell,I.free,I.freeC,λp hp=>(List.mem_append.mp hp).elim (λz=>I.pin p (List.mem_append_left _ z)) (h p),I.hok,I.len⟩
theorem nodup_ix{N:List Str}(hN:N.Nodup){i j:Nat}{x:Str}(a:N[i]?=some x)(b:N[j]?=some x):i=j:=by
 obtain⟨h1,e1⟩:=List.getElem?_eq_some_iff.mp a
 obtain⟨h2,e2⟩:=List.getElem?_eq_some_iff.mp b
 exact(List.getElem_inj hN).mp (e1.trans e2.symm)
theorem store_ok2{M:Model}{A:Around}{E:Value->Shared->Prop}{i:Nat}{x:Str}{v:V}{u:Value}{Q:Unit->Shared->Prop}(I:Inv X pins σ H s)(hN:X.N.Nodup)(hi:X.N[i]?=some x)(hx:Loc X.env.scope x)(r:bS v u)
  (h:∀s',Inv X pins (σ.set i (some v)) H s'->(∃a,Heap.SameBut a s.heap s'.heap/\(a=X.env.locals\/X.env.cells.lookup x=some a))->Q () s') (hf:X.fn x=true\/X.env.scope.names.lookup x=some .local:=by first | exact .inl rfl | exact .inr rfl | assumption):wpAny M A (storeName X.env x u) Q E s:=by
 obtain⟨m,hn,hl⟩:=id I.loc
 have hcls:(X.env.scope.kind==.class||(X.env.scope.kind==.module&&X.env.locals != X.env.globals))=false:=by rw[I.ok.kind];rfl
 have hiσ:i<σ.length:=by rw[I.len];exact(List.getElem?_eq_some_iff.mp hi).1
 have cne:=I.cne
 have tracked:∀{a:Addr} {h':Heap},(∃o,s.heap.get? a=some o/\H a=none)->Heap.SameBut a s.heap h'->HOk X.prog X.w H h':=λ{a h'} ha hs b ob e=>by
  obtain⟨_,_,hfree⟩:=ha
  refine(I.hok b ob e).stay (λc w' hc q=>(hs.2 c ?_).trans q) (λ_ q=>q) λ_ _ q=>q
  rintro rfl
  rcases hc with rfl | hc
  ·rw[hfree] at e;cases e
  ·rw[hfree] at hc;cases hc
 rcases hx with hk | hk
 ·refine wpAny_storeName_local hk hn (λh' hn' hs=>?_) hcls
  obtain⟨oL,_,_,hoL,_⟩:=id hn
  refine h _ ⟨I.ok,I.os,I.bare,⟨λb o e n hb hx=>?_,λb o e n hb hx=>?_,I.base.free,λb o e hx=>?_,I.base.tups,I.base.frzs,I.base.tbls⟩,⟨_,hn',λj y v' e1 e2 e3=>?_⟩,λy c e=>?_,I.free,I.freeC,λp hp=>?_,tracked ⟨oL,hoL,I.free⟩ hs,by simpa using I.len⟩ ⟨_,hs,.inl rfl⟩
  ·exact(hs.2 b (Nat.ne_of_lt (Nat.lt_of_lt_of_le (Heap.lt_size e) I.ok.above))).trans (I.base.keep b o e n hb hx)
  ·obtain⟨sl,e1⟩:=I.base.slot b o e n hb hx
   exact⟨sl,(hs.2 b (Nat.ne_of_lt (Nat.lt_of_lt_of_le (Heap.lt_size e) I.ok.above))).trans e1⟩
  ·obtain⟨o',e1⟩:=I.base.there b o e hx
   exact⟨o',(hs.2 b (Nat.ne_of_lt (Nat.lt_of_lt_of_le (Heap.lt_size e) I.ok.above))).trans e1⟩
  ·by_cases hj:j=i
   ·subst hj
    rw[hi] at e1;cases e1
    rw[List.getElem?_set_self hiσ] at e2
    cases e2
    exact⟨u,r,.inl ⟨hk,by simp⟩⟩
   ·rw[List.getElem?_set_ne (Ne.symm hj)] at e2
    obtain⟨u',r',q⟩:=hl j y v' e1 e2 e3
    refine⟨u',r',?_⟩
    rcases q with ⟨k,e⟩ | ⟨k,c,e,z⟩
    ·refine .inl ⟨k,?_⟩
     have:y≠x:=λe=>hj (nodup_ix hN e1 (e▸hi))
     simp [this,e]
    ·exact .inr ⟨k,c,e,z.sameBut hs (cne y c e)⟩
  ·obtain⟨w',z⟩:=I.cell y c e
   exact⟨w',z.sameBut hs (cne y c e)⟩
  ·obtain⟨e,n,ne,nf,d⟩:=I.pin p hp
   exact⟨(hs.2 p.1 ne).trans e,n,ne,nf,d⟩
 ·have hfn:X.fn x=true:=by
   rcases hf with z | z
   ·exact z
   ·rw[z] at hk;cases hk
  obtain⟨c,hc⟩:=I.ok.has x (.inl hk)
  obtain⟨w',z⟩:=I.cell x c hc
  refine wpAny_storeName_cell I.ok.kind hk hc z (λh' hc' hs=>?_)
  obtain⟨oc,hoc,hocd⟩:=id z
  refine h { s with heap:=h' } ⟨I.ok,I.os,I.bare,⟨λb o e n hb hx=>?_,λb o e n hb hx=>?_,I.base.free,λb o e hx=>?_,I.base.tups,I.base.frzs,I.base.tbls⟩,⟨m,hn.sameBut hs (Ne.symm (cne x c hc)),λj y v' e1 e2 e3=>?_⟩,λy c' e=>?_,I.free,I.freeC,λp hp=>?_,tracked ⟨oc,hoc,I.freeC x c hc⟩ hs,by simpa using I.len⟩ ⟨c,hs,.inr hc⟩
  ·exact(hs.2 b (Nat.ne_of_lt (Nat.lt_of_lt_of_le (Heap.lt_size e) (I.ok.cab x c hfn hc)))).trans (I.base.keep b o e n hb hx)
  ·obtain⟨sl,e1⟩:=I.base.slot b o e n hb hx
   exact⟨sl,(hs.2 b (Nat.ne_of_lt (Nat.lt_of_lt_of_le (Heap.lt_size e) (I.ok.cab x c hfn hc)))).trans e1⟩
  ·obtain⟨o',e1⟩:=I.base.there b o e hx
   exact⟨o',(hs.2 b (Nat.ne_of_lt (Nat.lt_of_lt_of_le (Heap.lt_size e) (I.ok.cab x c hfn hc)))).trans e1⟩
  ·by_cases hj:j=i
   ·subst hj
    rw[hi] at e1;cases e1
    rw[List.getElem?_set_self hiσ] at e2
    cases e2
    exact⟨u,r,.inr ⟨.inl hk,c,hc,hc'⟩⟩
   ·rw[List.getElem?_set_ne (Ne.symm hj)] at e2
    obtain⟨u',r',q⟩:=hl j y v' e1 e2 e3
    refine⟨u',r',?_⟩
    rcases q with q | ⟨k,c',e,z'⟩
    ·exact .inl q
    ·refine .inr ⟨k,c',e,z'.sameBut hs ?_⟩
     rintro rfl
     exact hj (nodup_ix hN e1 (I.ok.inj _ _ _ e hc▸hi))
  ·by_cases hcc:c'=c
   ·subst hcc;exact⟨_,hc'⟩
   ·obtain⟨w2,z2⟩:=I.cell y c' e
    exact⟨w2,z2.sameBut hs hcc⟩
  ·obtain⟨e,n,ne,nf,d⟩:=I.pin p hp
   refine⟨(hs.2 p.1 ?_).trans e,n,ne,nf,d⟩
   intro q
   rw[q,hoc] at e
   have q':oc=p.2:=Option.some.inj e
   exact d w' (by rw[<-q'];exact hocd)
theorem store_ok{M:Model}{A:Around}{E:Value->Shared->Prop}{i:Nat}{x:Str}{v:V}{u:Value}{Q:Unit->Shared->Prop}(I:Inv X pins σ H s)(hN:X.N.Nodup)(hi:X.N[i]?=some x)(hx:Loc X.env.scope x)(r:bS v u)
  (h:∀s',Inv X pins (σ.set i (some v)) H s'->Q () s') (hf:X.fn x=true\/X.env.scope.names.lookup x=some .local:=by first | exact .inl rfl | exact .inr rfl | assumption):wpAny M A (storeName X.env x u) Q E s :=
 store_ok2 I hN hi hx r (λs' I' _=>h s' I') hf
theorem Inv.call'{s':Shared}{ch:List Addr}(I:Inv X pins σ H s)(ho:s'.os=s.os)(u:Un (frs X.stack) ch H H' s.heap s'.heap)(hok:HOk X.prog X.w H' s'.heap)(hg:AllBare s'.gens)
  (hch:∀b∈ch,(b∈X.ex\/X.s₀.heap.objs.size<=b)/\b≠X.env.locals/\(∀x c,X.env.cells.lookup x=some c->c≠b)/\∀p∈X.pn++pins,p.1≠b):Inv X pins σ H' s':=by
 obtain⟨h',g',d',t',o'⟩:=s'
 have e:o'=s.os:=ho
 subst e
 exact I.call (g':=g') (t':=t') (d':=d') u hok hg hch
end
abbrev XK:=Value->Option Addr->Hp->Prop
abbrev St:=List (Option V)
abbrev VK:=V->Hp->Prop
abbrev TE:=St->Hp->VK->Prop
abbrev TT:=St->Hp->(Bool->Hp->Prop)->Prop
abbrev TA:=St->Hp->(List V->Hp->Prop)->Prop
structure Ends where
 nx:St->Hp->Prop
 rt:VK
 bk:St->Hp->Prop:=λ_ _=>False
 ct:St->Hp->Prop:=λ_ _=>False
abbrev TS:=Ends->St->Hp->Prop
def EP(X:Cx)(pins:List (Addr×Obj))(σ:St)(Q:VK)(u:Value)(s':Shared):Prop:=∃v H',Inv X pins σ H' s'/\bS v u/\Q v H'
def TP(X:Cx)(pins:List (Addr×Obj))(σ:St)(Q:Bool->Hp->Prop)(b:Bool)(s':Shared):Prop:=∃H',Inv X pins σ H' s'/\Q b H'
def AP(X:Cx)(pins:List (Addr×Obj))(σ:St)(Q:List V->Hp->Prop)(us:List Value)(s':Shared):Prop:=∃vs H',Inv X pins σ H' s'/\aU vs us/\Q vs H'
def SP(X:Cx)(pins:List (Addr×Obj))(D:Ends)(f:Flow)(s':Shared):Prop :=
 match f with
 | .next=>∃σ' H',Inv X pins σ' H' s'/\D.nx σ' H'
 | .brk=>∃σ' H',Inv X pins σ' H' s'/\D.bk σ' H'
 | .cont=>∃σ' H',Inv X pins σ' H' s'/\D.ct σ' H'
 | .ret u=>∃v σ' H',Inv X pins σ' H' s'/\bS v u/\D.rt v H'
def PE(X:Cx)(e:Expr)(t:TE):Prop :=
 ∀(pins:List (Addr×Obj)) (s:Shared) (σ:St) (H:Hp) (Q:VK),Inv X pins σ H s->t σ H Q->wpAny (model X.prog X.w) X.A (eval e X.env) (EP X pins σ Q) X.xe s
def PT(X:Cx)(e:Expr)(t:TT):Prop :=
 ∀(pins:List (Addr×Obj)) (s:Shared) (σ:St) (H:Hp) (Q:Bool->Hp->Prop),Inv X pins σ H s->t σ H Q->wpAny (model X.prog X.w) X.A (isTrue e X.env (eval e X.env)) (TP X pins σ Q) X.xe s
def PW(X:Cx)(e:Expr)(t:TT):Prop :=
 ∀(whole:Sem Value) (pins:List (Addr×Obj)) (s:Shared) (σ:St) (H:Hp) (Q:Bool->Hp->Prop),Inv X pins σ H s->t σ H Q->wpAny (model X.prog X.w) X.A (isTrue e X.env whole) (TP X pins σ Q) X.xe s
theorem PW.pt{X:Cx}{e:Expr}{t:TT}(h:PW X e t):PT X e t:=h _
def PA(X:Cx)(es:List Expr)(t:TA):Prop :=
 ∀(pos:Pos) (pins:List (Addr×Obj)) (s:Shared) (σ:St) (H:Hp) (Q:List V->Hp->Prop),Inv X pins σ H s->t σ H Q->wpAny (model X.prog X.w) X.A (spliced (backTo pos (starEach es X.env))) (AP X pins σ Q) X.xe s
def PS(X:Cx)(st:Stmt)(t:TS):Prop :=
 ∀(pins:List (Addr×Obj)) (s:Shared) (σ:St) (H:Hp) (D:Ends),Inv X pins σ H s->t D σ H->wpAny (model X.prog X.w) X.A (exec st X.env) (SP X pins D) X.xe s
def PSs(X:Cx)(st:List Stmt)(t:TS):Prop :=
 ∀(pins:List (Addr×Obj)) (s:Shared) (σ:St) (H:Hp) (D:Ends),Inv X pins σ H s->t D σ H->wpAny (model X.prog X.w) X.A (execs st X.env) (SP X pins D) X.xe s
theorem thn{α:Type}{t:Sem α}{Q Q':α->Shared->Prop}{M:Model}{A:Around}{E:Value->Shared->Prop}{s:Shared}(h:wpAny M A t Q E s)(hQ:∀a s,Q a s->Q' a s):wpAny M A t Q' E s:=wpAny_mono h hQ λ_ _ x=>x
end L2
namespace L2
open PySem PySem.Spec PyProof.Rows
section
variable{X:Cx}
def tVar(i:Nat):TE:=λσ H Q=>∃v,σ[i]?=some (some v)/\Q v H
def tC(v:V):TE:=λ_ H Q=>Q v H
theorem pe_var{i:Nat}{x:Str}{pos:Pos}(hN:X.N[i]?=some x)(hv:Vis X.env.scope x)(hd:(x==("__debug__" : Str))=false:=by decide)(hcd:(x==("__classdict__" : Str))=false:=by decide):PE X (.Name x pos) (tVar i):=by
 intro pins s σ H Q I h
 obtain⟨v,e,h⟩:=h
 obtain⟨m,hn,hl⟩:=I.loc
 obtain⟨u,r,l⟩:=hl i x v hN e hv
 have fin:EP X pins σ Q u s:=⟨v,H,I,r,h⟩
 rcases l with ⟨hk,hm⟩ | ⟨hk,c,hc,hcell⟩
 ·exact wpAny_Name (wpAny_loadName_local I.ok.kind hk hn hm fin) hd
 ·rcases hk with hk | hk
  ·exact wpAny_Name (wpAny_loadName_cell I.ok.kind hk hc hcell fin) hd
  ·exact wpAny_Name (wpAny_loadName_free I.ok.kind hk hc hcell fin hcd) hd
theorem pe_int{i j pos}:PE X (.Constant (.int i) j pos) (tC (.int i)):=λ_ _ _ H _ I h=>wpAny_Constant_int ⟨.int i,H,I.tok _,⟨_,rfl⟩,h⟩
theorem pe_bl{b j pos}:PE X (.Constant (.bool b) j pos) (tC (.bl b)):=λ_ _ _ H _ I h=>Constant_bool ⟨.bl b,H,I,rfl,h⟩
theorem pe_non{j pos}:PE X (.Constant .none j pos) (tC .non):=λ_ _ _ H _ I h=>Constant_none ⟨.non,H,I,rfl,h⟩
theorem pe_str{x j pos}:PE X (.Constant (.str x) j pos) (tC (.str x)):=λ_ _ _ H _ I h=>Calls.Constant_str ⟨.str x,H,I.tok _,⟨_,rfl⟩,h⟩
def Gl(X:Cx)(x:Str):Prop:=X.env.kindOf x=some .globalImplicit
theorem ld_glob{E:Value->Shared->Prop}{pins:List (Addr×Obj)}{s:Shared}{σ:St}{H:Hp}{x:Str}{u:Value}{pos:Pos}{Q:Value->Shared->Prop}(I:Inv X pins σ H s)(hg:Gl X x)(hm:X.mg x=some u)(h:Q u s)
  (hd:(x==("__debug__" : Str))=false:=by decide):wpAny (model X.prog X.w) X.A (eval (.Name x pos) X.env) Q E s :=
 Calls.Name_function_global I.ok.kind hg (Calls.loadGlobal_global (by rw[I.ok.glob];exact I.mod.glob.keeps I.bk) hm h) hd
theorem ld_blt{E:Value->Shared->Prop}{pins:List (Addr×Obj)}{s:Shared}{σ:St}{H:Hp}{x:Str}{u:Value}{pos:Pos}{Q:Value->Shared->Prop}(I:Inv X pins σ H s)(hg:Gl X x)(hm:X.mg x=none)(hv:bootBuiltins x=some u)(h:Q u s)
  (hn:x ≠ "__name__" := by decide) (hd:(x==("__debug__" : Str))=false:=by decide):wpAny (model X.prog X.w) X.A (eval (.Name x pos) X.env) Q E s:=by
 obtain⟨mb,h1,h2⟩:=I.mod.blt
 exact Calls.Name_function_global I.ok.kind hg (Calls.loadGlobal_builtin (by rw[I.ok.glob];exact I.mod.glob.keeps I.bk) hm (by rw[I.ok.blt];exact h1.keeps I.bk) ((h2 x hn).trans hv) h) hd
theorem pe_glob{x:Str}{v:V}{u:Value}{pos:Pos}(hg:Gl X x)(hm:X.mg x=some u)(r:bS v u)(hd:(x==("__debug__" : Str))=false:=by decide):PE X (.Name x pos) (tC v) :=
 λ_ _ _ H _ I h=>ld_glob I hg hm ⟨v,H,I,r,h⟩ hd
theorem pe_bltn{x:Str}{v:V}{u:Value}{pos:Pos}(hg:Gl X x)(hm:X.mg x=none)(hv:bootBuiltins x=some u)(r:bS v u)(hn:x ≠ "__name__" := by decide)(hd:(x==("__debug__" : Str))=false:=by decide):PE X (.Name x pos) (tC v) :=
 λ_ _ _ H _ I h=>ld_blt I hg hm hv ⟨v,H,I,r,h⟩ hn hd
variable{a b:Expr}{ta tb:TE}{pos:Pos}
def tB(t:TE):TT:=λσ H Q=>t σ H λx H1=>∃c,x=.bl c/\Q c H1
theorem pt_val{e:Expr}{t:TE}(h:PE X e t)(he:∀whole,isTrue e X.env whole=(do let v <- whole;standAt e.pos;holding [v] (truthy v)):=by intro _;rfl):PT X e (tB t):=by
 intro pins s σ H Q I hw
 refine isTrue_plain (thn (h pins s σ H _ I hw) λv s1 ⟨x,H1,I1,r1,q1⟩=>?_) (he _)
 obtain⟨d,rfl,q⟩:=q1
 cases r1
 exact wpAny_truthy_bool ⟨H1,I1,q⟩
variable{tA tB':TT}{b7:List Expr}
def tAnd(t u:TT):TT:=λσ H Q=>t σ H λc H1=>if c=true then u σ H1 Q else Q false H1
def tOr(t u:TT):TT:=λσ H Q=>t σ H λc H1=>if c=true then Q true H1 else u σ H1 Q
def tNot(t:TT):TT:=λσ H Q=>t σ H λc H1=>Q (!c) H1
theorem pw_and1(ha:PT X a tA):PW X (.BoolOp .And [a] pos) tA:=by
 intro wh pins s σ H Q I h
 refine isTrue_and (thn (ha pins s σ H Q I h) λc s1 e=>?_)
 cases c with
 | true=>exact isTrue_and_nil e
 | false=>exact e
theorem pw_or1(ha:PT X a tA):PW X (.BoolOp .Or [a] pos) tA:=by
 intro wh pins s σ H Q I h
 refine isTrue_or (thn (ha pins s σ H Q I h) λc s1 e=>?_)
 cases c with
 | false=>exact isTrue_or_nil e
 | true=>exact e
theorem pw_and(ha:PT X a tA)(hb:PW X (.BoolOp .And (b::b7) pos) tB'):PW X (.BoolOp .And (a::b::b7) pos) (tAnd tA tB'):=by
 intro wh pins s σ H Q I h
 refine isTrue_and (thn (ha pins s σ H _ I h) λc s1 ⟨H1,I1,q1⟩=>?_)
 cases c with
 | true=>exact hb wh pins s1 σ H1 Q I1 q1
 | false=>exact⟨H1,I1,q1⟩
theorem pw_or(ha:PT X a tA)(hb:PW X (.BoolOp .Or (b::b7) pos) tB'):PW X (.BoolOp .Or (a::b::b7) pos) (tOr tA tB'):=by
 intro wh pins s σ H Q I h
 refine isTrue_or (thn (ha pins s σ H _ I h) λc s1 ⟨H1,I1,q1⟩=>?_)
 cases c with
 | true=>exact⟨H1,I1,q1⟩
 | false=>exact hb wh pins s1 σ H1 Q I1 q1
theorem pt_not(ha:PT X a tA):PT X (.UnaryOp .Not a pos) (tNot tA):=by
 intro pins s σ H Q I h
 exact isTrue_not (ha pins s σ H (λc H1=>Q (!c) H1) I h)
def tAndV(ta tb:TE):TE:=λσ H Q=>ta σ H λx H1=>∃c,x=.bl c/\if c=true then tb σ H1 Q else Q (.bl false) H1
def tNotV(ta:TE):TE:=λσ H Q=>ta σ H λx H1=>∃c,x=.bl c/\Q (.bl (!c)) H1
theorem pe_one{op}{t:TE}(h:PE X a t):PE X (.BoolOp op [a] pos) t:=λpins s σ H Q I hw=>BoolOp_one (h pins s σ H Q I hw)
theorem pe_and(ha:PE X a ta)(hb:PE X (.BoolOp .And (b::b7) pos) tb):PE X (.BoolOp .And (a::b::b7) pos) (tAndV ta tb):=by
 intro pins s σ H Q I h
 refine BoolOp_and (thn (ha pins s σ H _ I h) λv s1 ⟨x,H1,I1,r1,q1⟩=>?_)
 obtain⟨c,rfl,q1⟩:=q1
 cases r1
 refine wpAny_truthy_bool ?_
 cases c with
 | true=>exact hb pins s1 σ H1 Q I1 q1
 | false=>exact⟨.bl false,H1,I1,rfl,q1⟩
theorem pe_not(ha:PE X a ta):PE X (.UnaryOp .Not a pos) (tNotV ta):=by
 intro pins s σ H Q I h
 refine UnaryOp_ (thn (ha pins s σ H _ I h) λv s1 ⟨x,H1,I1,r1,q1⟩=>?_)
 obtain⟨c,rfl,q1⟩:=q1
 cases r1
 exact not_of (wpAny_truthy_bool ⟨.bl (!c),H1,I1,rfl,q1⟩)
def tIf(t:TT)(ta tb:TE):TE:=λσ H Q=>t σ H λc H1=>if c=true then ta σ H1 Q else tb σ H1 Q
theorem pe_ifExp{c:Expr}(hc:PT X c tA)(ha:PE X a ta)(hb:PE X b tb):PE X (.IfExp c a b pos) (tIf tA ta tb):=by
 intro pins s σ H Q I h
 refine wpAny_IfExp (thn (hc pins s σ H _ I h) λd s1 ⟨H1,I1,q1⟩=>?_)
 cases d with
 | true=>exact ha pins s1 σ H1 Q I1 q1
 | false=>exact hb pins s1 σ H1 Q I1 q1
end
end L2
namespace L2
open PySem PySem.Spec PyProof.Rows
def SqL(K:PySem.W.Frag)(H:Hp)(a:Addr)(xs:List V):Prop :=
 Rd H a (.lst xs) \/
  ∃(o:Obj) (its:Array Value) (n:Nat),K.lookup a=some o/\o.cls=.type "list" /\ o.dict=none/\o.data=.seq its n/\its.size<=sizeLine/\aU xs its.toList
def SqT(K:PySem.W.Frag)(H:Hp)(a:Addr)(xs:List V):Prop :=
 Rd H a (.tup xs) \/
  ∃(o:Obj) (its:Array Value) (n:Nat),K.lookup a=some o/\o.cls=.type "tuple" /\ o.data=.seq its n/\its.size<=sizeLine/\aU xs its.toList
def absV:Value->Option V
 | .none=>some .non
 | .bool b=>some (.bl b)
 | .int i _=>some (.int i)
 | .str x _=>some (.str x)
 | .bytes b _=>some (.byt b)
 | .float b _=>some (.flt b)
 | .ref a=>some (.ref a)
 | .type n=>some (.ty n)
 | _=>none
theorem bS.abs{x:V}{u:Value}(r:bS x u):absV u=some x:=by
 cases x with
 | non=>cases r;rfl
 | bl _=>cases r;rfl
 | int _=>obtain⟨t,rfl⟩:=r;rfl
 | str _=>obtain⟨t,rfl⟩:=r;rfl
 | byt _=>obtain⟨t,rfl⟩:=r;rfl
 | flt _=>obtain⟨t,rfl⟩:=r;rfl
 | ref _=>cases r;rfl
 | ty _=>cases r;rfl
theorem bS.inj{x y:V}{u:Value}(r:bS x u)(q:bS y u):x=y:=Option.some.inj (r.abs.symm.trans q.abs)
theorem aU.inj:∀{xs ys:List V} {us:List Value},aU xs us->aU ys us->xs=ys
 | _,_,_,.nil,.nil=>rfl
 | _,_,_,.cons r t,.cons r' t'=>by rw[r.inj r',aU.inj t t']
section
variable{X:Cx}{pins:List (Addr×Obj)}{σ:St}{H:Hp}{s:Shared}{a:Addr}{xs ys:List V}
theorem SqT.of{K:PySem.W.Frag}(h:H a=some (.tup xs)):SqT K H a xs:=.inl (.inl h)
theorem Inv.list(I:Inv X pins σ H s)(h:SqL X.K H a xs):∃its:List Value,aU xs its/\PlainL s.heap a its.toArray/\xs.length<=sizeLine:=by
 rcases h with h | ⟨o,its,n,hk,hc,hd,hs,hz,r⟩
 ·obtain⟨z,its,n,r,e⟩:=h.ok I.hok
  exact⟨its,r,⟨_,n,e,rfl,rfl,rfl⟩,z⟩
 ·refine⟨its.toList,r,⟨o,n,I.kIn a o hk,hc,hd,by simpa using hs⟩,?_⟩
  have e:=r.length
  simp only[Array.length_toList] at e
  omega
theorem Inv.tuple(I:Inv X pins σ H s)(h:SqT X.K H a xs):∃its:List Value,aU xs its/\IsTup s.heap a its.toArray/\xs.length<=sizeLine:=by
 rcases h with h | ⟨o,its,n,hk,hc,hs,hz,r⟩
 ·obtain⟨z,its,r,p⟩:=h.ok I.hok
  exact⟨its,r,p,z⟩
 ·refine⟨its.toList,r,⟨o,I.kIn a o hk,hc,n,by simpa using hs⟩,?_⟩
  have e:=r.length
  simp only[Array.length_toList] at e
  omega
theorem Inv.list_inj(I:Inv X pins σ H s)(h:SqL X.K H a xs)(h':SqL X.K H a ys):xs=ys:=by
 obtain⟨its,r,⟨o,n,e,_,_,d⟩,_⟩:=I.list h
 obtain⟨its',r',⟨o',n',e',_,_,d'⟩,_⟩:=I.list h'
 rw[e] at e';cases e'
 rw[d] at d'
 injection d' with d1 _
 have:its=its':=by simpa using congrArg Array.toList d1
 subst this
 exact r.inj r'
theorem Inv.tuple_inj(I:Inv X pins σ H s)(h:SqT X.K H a xs)(h':SqT X.K H a ys):xs=ys:=by
 obtain⟨its,r,⟨o,e,_,n,d⟩,_⟩:=I.tuple h
 obtain⟨its',r',⟨o',e',_,n',d'⟩,_⟩:=I.tuple h'
 rw[e] at e';cases e'
 rw[d] at d'
 injection d' with d1 _
 have:its=its':=by simpa using congrArg Array.toList d1
 subst this
 exact r.inj r'
end
abbrev Cx.wish(X:Cx)(E:Value->Shared->Prop):Cx:={ X with xe:=E }
abbrev Cx.nox(X:Cx):Cx:=X.wish λ_ _=>False
theorem Cx.Ok.wish{X:Cx}(ok:X.Ok)(E:Value->Shared->Prop):(X.wish E).Ok :=
 ⟨ok.mod,ok.kind,ok.glob,ok.blt,ok.above,ok.inj,ok.has,ok.cab,ok.hd,ok.frames,ok.stk,ok.exf,ok.bs,ok.bsz,ok.noex,ok.exfs,ok.funs,ok.frf⟩
theorem Cx.Ok.unwish{X:Cx}{E:Value->Shared->Prop}(ok:(X.wish E).Ok):X.Ok :=
 ⟨ok.mod,ok.kind,ok.glob,ok.blt,ok.above,ok.inj,ok.has,ok.cab,ok.hd,ok.frames,ok.stk,ok.exf,ok.bs,ok.bsz,ok.noex,ok.exfs,ok.funs,ok.frf⟩
section
variable{X:Cx}{pins:List (Addr×Obj)}{σ:St}{H:Hp}{s:Shared}{E:Value->Shared->Prop}
theorem Inv.wish(I:Inv X pins σ H s)(E:Value->Shared->Prop):Inv (X.wish E) pins σ H s:=⟨I.ok.wish E,I.os,I.bare,I.base,I.loc,I.cell,I.free,I.freeC,I.pin,I.hok,I.len⟩
theorem Inv.unwish(I:Inv (X.wish E) pins σ H s):Inv X pins σ H s:=⟨I.ok.unwish,I.os,I.bare,I.base,I.loc,I.cell,I.free,I.freeC,I.pin,I.hok,I.len⟩
theorem SP.unwish{D:Ends}{f:Flow}{s':Shared}(h:SP (X.wish E) pins D f s'):SP X pins D f s':=by
 cases f with
 | next=>obtain⟨σ',H',I,q⟩:=h;exact⟨σ',H',I.unwish,q⟩
 | brk=>obtain⟨σ',H',I,q⟩:=h;exact⟨σ',H',I.unwish,q⟩
 | cont=>obtain⟨σ',H',I,q⟩:=h;exact⟨σ',H',I.unwish,q⟩
 | ret u=>obtain⟨v,σ',H',I,r,q⟩:=h;exact⟨v,σ',H',I.unwish,r,q⟩
theorem PSs.nox{st:List Stmt}{t:TS}(h:PSs X.nox st t):PSs X st t:=λpins s σ H D I hw =>
 wpAny_mono (h pins s σ H D (I.wish _) hw) (λ_ _ q=>q.unwish) λ_ _ z=>False.elim z
end
section
variable{X:Cx}{st:Stmt}{b7:List Stmt}{t u:TS}{e:Expr}{te:TE}{pos:Pos}
def tNext:TS:=λD σ H=>D.nx σ H
def tSeq(t u:TS):TS:=λD σ H=>t { D with nx:=u D } σ H
theorem pss_nil:PSs X [] tNext:=λ_ _ σ H _ I h=>wpAny_execs_nil ⟨σ,H,I,h⟩
theorem pss_cons(h1:PS X st t)(h2:PSs X b7 u):PSs X (st::b7) (tSeq t u):=by
 intro pins s σ H D I h
 refine wpAny_execs_cons (thn (h1 pins s σ H { D with nx:=u D } I h) λf s1 q=>?_)
 cases f with
 | next =>
  obtain⟨σ',H',I',q⟩:=q
  exact h2 pins s1 σ' H' D I' q
 | ret v=>exact q
 | brk=>exact q
 | cont=>exact q
theorem pss_one(h1:PS X st t):PSs X [st] t:=by
 intro pins s σ H D I h
 refine wpAny_execs_cons (thn (h1 pins s σ H D I h) λf s1 q=>?_)
 cases f with
 | next=>exact wpAny_execs_nil q
 | ret v=>exact q
 | brk=>exact q
 | cont=>exact q
theorem Inv.quiet{pins:List (Addr×Obj)}{σ:St}{H:Hp}{s:Shared}(I:Inv X pins σ H s):interactive X.env=false:=by simp [interactive,I.ok.kind]
def tDrop(te:TE):TS:=λD σ H=>te σ H λ_ H1=>D.nx σ H1
theorem ps_expr(he:PE X e te)(hs:swapsWith e none pos.line X.env=pure false:=by rfl):PS X (.Expr e pos) (tDrop te):=by
 intro pins s σ H D I h
 exact wpAny_Expr_any (thn (he pins s σ H _ I h) λv s1 ⟨x,H1,I1,r1,q1⟩=>⟨σ,H1,I1,q1⟩) I.quiet hs
def tRet(te:TE):TS:=λD σ H=>te σ H D.rt
theorem ps_ret(he:PE X e te):PS X (.Return (some e) pos) (tRet te):=by
 intro pins s σ H D I h
 exact wpAny_Return_some (thn (he pins s σ H _ I h) λv s1 ⟨x,H1,I1,r1,q1⟩=>⟨x,σ,H1,I1,r1,q1⟩)
def tIfS(c:TT)(t u:TS):TS:=λD σ H=>c σ H λb H1=>if b=true then t D σ H1 else u D σ H1
theorem ps_if{c:Expr}{a b:List Stmt}{tc:TT}(hc:PT X c tc)(ha:PSs X a t)(hb:PSs X b u):PS X (.If c a b pos) (tIfS tc t u):=by
 intro pins s σ H D I h
 refine wpAny_If (thn (hc pins s σ H _ I h) λd s1 ⟨H1,I1,q1⟩=>?_)
 cases d with
 | true=>exact ha pins s1 σ H1 D I1 q1
 | false=>exact hb pins s1 σ H1 D I1 q1
end
abbrev TG:=V->St->Hp->(St->Hp->Prop)->Prop
abbrev TGs:=List V->St->Hp->(St->Hp->Prop)->Prop
def PG(X:Cx)(target:Expr)(t:TG):Prop :=
 ∀(pins:List (Addr×Obj)) (s:Shared) (σ:St) (H:Hp) (v:V) (u:Value) (Q:St->Hp->Prop),Inv X pins σ H s->bS v u->t v σ H Q ->
  wpAny (model X.prog X.w) X.A (assign target X.env u) (λ_ s'=>∃σ' H',Inv X pins σ' H' s'/\Q σ' H') X.xe s
def PGs(X:Cx)(ts:List Expr)(t:TGs):Prop :=
 ∀(pins:List (Addr×Obj)) (s:Shared) (σ:St) (H:Hp) (vs:List V) (us:List Value) (Q:St->Hp->Prop),Inv X pins σ H s->aU vs us->t vs σ H Q ->
  wpAny (model X.prog X.w) X.A (assignInOrder ((assignEach ts X.env).map (·.2)) us) (λ_ s'=>∃σ' H',Inv X pins σ' H' s'/\Q σ' H') X.xe s
abbrev TSet:=V->V->V->Hp->(Hp->Prop)->Prop
def PSet(X:Cx)(t:TSet):Prop :=
 ∀(pins:List (Addr×Obj)) (s:Shared) (σ:St) (H:Hp) (o i v:V) (ov iv u:Value) (Q:Hp->Prop),Inv X pins σ H s->bS o ov->bS i iv->bS v u->t o i v H Q ->
  wpAny (model X.prog X.w) X.A (setItem ov iv u) (λ_ s'=>∃H',Inv X pins σ H' s'/\Q H') X.xe s
abbrev TIp:=V->V->Hp->VK->Prop
def PIp(X:Cx)(op:Operator)(t:TIp):Prop :=
 ∀(pins:List (Addr×Obj)) (s:Shared) (σ:St) (H:Hp) (x y:V) (v u:Value) (Q:VK),Inv X pins σ H s->bS x v->bS y u->t x y H Q ->
  wpAny (model X.prog X.w) X.A (inplaceOp op v u) (EP X pins σ Q) X.xe s
section
variable{X:Cx}{pos:Pos}
def gName(i:Nat):TG:=λv σ H Q=>Q (σ.set i (some v)) H
theorem aR{i:Nat}{x:Str}(hN:X.N.Nodup)(hi:X.N[i]?=some x)(hx:Loc X.env.scope x)(hf:X.fn x=true\/X.env.scope.names.lookup x=some .local:=by first | exact .inl rfl | exact .inr rfl | assumption):PG X (.Name x pos) (gName i):=by
 intro pins s σ H v u Q I r h
 exact wpAny_assign_Name (store_ok I hN hi hx r (λs' I'=>⟨_,H,I',h⟩) hf)
def gNil:TGs:=λvs σ H Q=>vs=[]/\Q σ H
def gCons(t:TG)(u:TGs):TGs:=λvs σ H Q=>∃v r,vs=v::r/\t v σ H λσ' H'=>u r σ' H' Q
theorem pgs_nil:PGs X [] gNil:=by
 intro pins s σ H vs us Q I r h
 obtain⟨e,h⟩:=h
 subst e
 cases r
 exact assignInOrder_nil ⟨σ,H,I,h⟩
theorem pgs_cons{e:Expr}{es:List Expr}{t:TG}{u:TGs}(h1:PG X e t)(h2:PGs X es u)
  (hs:(assignEach (e::es) X.env).map (·.2)=assign e X.env::(assignEach es X.env).map (·.2):=by rfl):PGs X (e::es) (gCons t u):=by
 intro pins s σ H vs us Q I r h
 obtain⟨v,vr,e1,h⟩:=h
 subst e1
 cases r with
 | cons r rr =>
  rw[hs]
  refine assignInOrder_cons (thn (h1 pins s σ H _ _ _ I r h) λ_ s1 ⟨σ1,H1,I1,q1⟩=>?_)
  exact h2 pins s1 σ1 H1 _ _ Q I1 rr q1
def gTup(K:PySem.W.Frag)(n:Nat)(t:TGs):TG:=λv σ H Q=>∃a xs,v=.ref a/\SqT K H a xs/\xs.length=n/\t xs σ H Q
theorem pg_tup{es:List Expr}{k:Nat}{t:TGs}{n:Nat}(hc:X.calm=true)(h:PGs X es t)
  (hn:(assignEach es X.env).length=n:=by rfl) (hst:(assignEach es X.env).findIdx? (·.1)=none:=by rfl):PG X (.Tuple es k pos) (gTup X.K n t):=by
 intro pins s σ H v u Q I r hw
 obtain⟨a,xs,e1,hq,hl,hw⟩:=hw
 subst e1
 cases r
 obtain⟨its,rv,ht,hz⟩:=I.tuple hq
 refine assign_Tuple_tuple (I.ok.hd hc) ht (by simp [hn,<-hl,rv.length]) hst λh' hx=>?_
 have I1:Inv X pins σ H { s with heap:=h' }:=I.kept (t':=s.toks) λb o e=>hx b o (Nat.ne_of_lt (Heap.lt_size e)) e
 exact h pins _ σ H xs _ Q I1 (by simpa using rv) hw
def gSub(to ti:TE)(t:TSet):TG:=λv σ H Q=>to σ H λo H1=>ti σ H1 λi H2=>t o i v H2 λH3=>Q σ H3
theorem pg_sub{o i:Expr}{to ti:TE}{t:TSet}(ho:PE X o to)(hi:PE X i ti)(hs:PSet X t)
  (ha:∀v,assign (.Subscript o i pos) X.env v=(do
   let ov <- holding [v] (eval o X.env)
   let iv <- holding [v,ov] (eval i X.env)
   standAt pos
   holding [v,ov,iv] (setItem ov iv v)
   release [v,ov,iv] []):=by intro _;rfl):PG X (.Subscript o i pos) (gSub to ti t):=by
 intro pins s σ H v u Q I r h
 rw[ha]
 refine wpAny_bind (wpAny_holding (thn (ho pins s σ H _ I h) λov s1 ⟨x,H1,I1,r1,q1⟩=>?_))
 refine wpAny_bind (wpAny_holding (thn (hi pins s1 σ H1 _ I1 q1) λiv s2 ⟨y,H2,I2,r2,q2⟩=>?_))
 refine wpAny_bind (wpAny_standAt (wpAny_bind (wpAny_holding (thn (hs pins s2 σ H2 x y v ov iv u _ I2 r1 r2 r q2) λ_ s3 ⟨H3,I3,q3⟩=>?_))))
 exact wpAny_release ⟨σ,H3,I3,q3⟩
def tAsg(te:TE)(g:TG):TS:=λD σ H=>te σ H λx H1=>g x σ H1 D.nx
theorem ps_asg{tg e:Expr}{te:TE}{g:TG}(he:PE X e te)(hg:PG X tg g)(hs:swapsWithSole [tg] e pos.line X.env=pure false:=by rfl)(hw:swappedStores [tg] e X.env=pure none:=by rfl)
  (h1:(assignEach [tg] X.env).map (·.2)=[assign tg X.env]:=by rfl):PS X (.Assign [tg] e pos) (tAsg te g):=by
 intro pins s σ H D I h
 refine wpAny_Assign_stores (thn (he pins s σ H _ I h) λv s1 ⟨x,H1,I1,r1,q1⟩=>?_) hs hw
 rw[h1]
 exact thn (hg pins s1 σ H1 x v _ I1 r1 q1) λ_ s2 q=>q
theorem ps_set{i:Nat}{x:Str}{e:Expr}{te:TE}{pos':Pos}(hN:X.N.Nodup)(hi:X.N[i]?=some x)(hx:Loc X.env.scope x)(he:PE X e te)(hs:swapsWith e (some (.Name x pos')) pos.line X.env=pure false:=by rfl)(hf:X.fn x=true\/X.env.scope.names.lookup x=some .local:=by first | exact .inl rfl | exact .inr rfl | assumption) :
  PS X (.Assign [.Name x pos'] e pos) (tAsg te (gName i)):=by
 intro pins s σ H D I h
 refine wpAny_Assign_Name (thn (he pins s σ H _ I h) λv s1 ⟨y,H1,I1,r1,q1⟩=>?_) hs
 exact store_ok I1 hN hi hx r1 (λs2 I2=>⟨_,H1,I2,q1⟩) hf
def tAugS(to ti te:TE)(tget:V->V->Hp->VK->Prop)(tip:TIp)(tset:TSet):TS:=λD σ H=>to σ H λo H1=>ti σ H1 λi H2=>tget o i H2 λx H3=>te σ H3 λy H4=>tip x y H4 λz H5=>tset o i z H5 λH6=>D.nx σ H6
def PGet(X:Cx)(t:V->V->Hp->VK->Prop):Prop :=
 ∀(pins:List (Addr×Obj)) (s:Shared) (σ:St) (H:Hp) (o i:V) (ov iv:Value) (Q:VK),Inv X pins σ H s->bS o ov->bS i iv->t o i H Q ->
  wpAny (model X.prog X.w) X.A (getItem ov iv) (EP X pins σ Q) X.xe s
theorem ps_augS{o i e:Expr}{to ti te:TE}{tget:V->V->Hp->VK->Prop}{tip:TIp}{tset:TSet}{op:Operator}{tpos:Pos}(ho:PE X o to)(hi:PE X i ti)(hg:PGet X tget)(he:PE X e te)(hp:PIp X op tip)(hs:PSet X tset)
  (ha:∀ov iv new,augStore i ov iv new=(do holding [new,ov,iv] (setItem ov iv new);release [new,ov,iv] [];pure .next):=by intros;rfl):PS X (.AugAssign (.Subscript o i tpos) op e pos) (tAugS to ti te tget tip tset):=by
 intro pins s σ H D I h
 refine wpAny_AugAssign_SubscriptAny (thn (ho pins s σ H _ I h) λov s1 ⟨x1,H1,I1,r1,q1⟩=>?_) ha
 refine thn (hi pins s1 σ H1 _ I1 q1) λiv s2 ⟨x2,H2,I2,r2,q2⟩=>?_
 refine thn (hg pins s2 σ H2 x1 x2 ov iv _ I2 r1 r2 q2) λold s3 ⟨x3,H3,I3,r3,q3⟩=>?_
 refine thn (he pins s3 σ H3 _ I3 q3) λv s4 ⟨x4,H4,I4,r4,q4⟩=>?_
 refine thn (hp pins s4 σ H4 x3 x4 old v _ I4 r3 r4 q4) λnew s5 ⟨x5,H5,I5,r5,q5⟩=>?_
 exact thn (hs pins s5 σ H5 x1 x2 x5 ov iv new _ I5 r1 r2 r5 q5) λ_ s6 ⟨H6,I6,q6⟩=>⟨σ,H6,I6,q6⟩
def ipI(f:Int->Int->Int):TIp:=λx y H Q=>∃i j,x=.int i/\y=.int j/\Q (.int (f i j)) H
theorem ip_add:PIp X .Add (ipI λi j=>i+j):=by
 intro pins s σ H x y v u Q I r1 r2 h
 obtain⟨i,j,e1,e2,q⟩:=h
 subst e1;subst e2
 obtain⟨t,rfl⟩:=r1
 obtain⟨t',rfl⟩:=r2
 exact iadd_int ⟨.int _,H,I.tok _,⟨_,rfl⟩,q⟩
end
section
variable{X:Cx}{pos:Pos}
def tWhile(c:TT)(tb:TS):TS:=λD σ H=>∃W:Nat->St->Hp->Prop,(∃m,W m σ H)/\∀m σ H,W m σ H ->
 c σ H λb H1=>if b=true then ∃N:St->Hp->Prop,(∀σ' H',N σ' H'->∃m',m'<m/\W m' σ' H')/\tb { D with nx:=N,ct:=N,bk:=D.nx } σ H1 else D.nx σ H1
theorem ps_while{c:Expr}{body:List Stmt}{tc:TT}{tb:TS}(hp:PassesOwn (model X.prog X.w) X.A X.env X.xe)(hc:PT X c tc)(hb:PSs X body tb):PS X (.While c body [] pos) (tWhile tc tb):=by
 intro pins s σ H D I h
 obtain⟨W,⟨m0,w0⟩,turn⟩:=h
 refine wpAny_While (codeAny_whileLoop (λn s'=>∃σ' H',Inv X pins σ' H' s'/\W n σ' H') ?_ m0 ⟨σ,H,I,w0⟩)
 rintro n s1 ⟨σ1,H1,I1,w1⟩
 refine wpAny_passesOwn hp (thn (hc pins s1 σ1 H1 _ I1 (turn n σ1 H1 w1)) λb s2 ⟨H2,I2,q2⟩=>?_)
 cases b with
 | true =>
  obtain⟨N,hN,q2⟩:=q2
  rw[if_pos rfl]
  refine wpAny_passesOwn hp (thn (hb pins s2 σ1 H2 _ I2 q2) λf s3 q3=>?_)
  cases f with
  | next =>
   obtain⟨σ3,H3,I3,n3⟩:=q3
   obtain⟨m',hm,w3⟩:=hN σ3 H3 n3
   exact⟨m',hm,σ3,H3,I3,w3⟩
  | cont =>
   obtain⟨σ3,H3,I3,n3⟩:=q3
   obtain⟨m',hm,w3⟩:=hN σ3 H3 n3
   exact⟨m',hm,σ3,H3,I3,w3⟩
  | brk=>exact q3
  | ret v=>exact q3
 | false =>
  rw[if_neg Bool.false_ne_true]
  exact wpAny_execs_nil ⟨σ1,H2,I2,q2⟩
end
structure It where
 go:Nat->Hp->Prop
 yld:Nat->Hp->V->Hp->Prop
 stop:Nat->Hp->Prop
def FpOk(X:Cx)(pins:List (Addr×Obj))(H:Hp)(b:Addr):Prop :=
 H b=none/\b≠X.env.locals/\b∉X.fs/\(b∈X.ex\/X.s₀.heap.objs.size<=b)/\(∀x c,X.env.cells.lookup x=some c->c≠b)/\∀p∈X.pn++pins,p.1≠b
theorem Inv.fpOk{X:Cx}{pins:List (Addr×Obj)}{σ:St}{H H':Hp}{s:Shared}{b:Addr}(I:Inv X pins σ H s)(hb:s.heap.objs.size<=b)(hn:H' b=none):FpOk X pins H' b:=by
 refine⟨hn,Nat.ne_of_gt (Nat.lt_of_lt_of_le I.lt hb),I.nofs hb,.inr (Nat.le_trans I.sz hb),λx c e z=>?_,λp hp z=>?_⟩
 ·obtain⟨v,q⟩:=I.cell x c e
  exact absurd (Nat.lt_of_lt_of_le q.lt (by rw[z];exact hb)) (Nat.lt_irrefl _)
 ·exact absurd (Nat.lt_of_lt_of_le (Heap.lt_size (I.pin p hp).1) (by rw[z];exact hb)) (Nat.lt_irrefl _)
structure Turn(P:Program)(w:World)(K:PySem.W.Frag)(tg:Expr)(J:It)(fp:List Addr)(it:Addr)(tn:Nat->Heap->Prop):Prop where
 mem:it∈fp
 obj:∀i h,tn i h->∀b∈fp,∃o,h.get? b=some o/\∀v,o.data≠.cell v
 keep:∀i h h',tn i h->(∀b∈fp,∀o,h.get? b=some o->h'.get? b=some o)->tn i h'
 item:∀(X:Cx),X.prog=P->X.w=w->X.K=K->X.calm=true->∀(i:Nat) (pins:List (Addr×Obj)) (s:Shared) (σ:St) (H:Hp) (E:Value->Shared->Prop),Inv X pins σ H s->(∀b∈fp,FpOk X pins H b)->tn i s.heap->J.go i H ->
  wpAny (model P w) X.A (pyNext (.ref it)) (λr s1=>∃u,r=some u /\
   wpAny (model P w) X.A (letOwnedTupleGo tg (.ref it) u) (λ_ s2=>∃x H',Inv X pins σ H' s2/\bS x u/\J.yld i H x H'/\tn (i+1) s2.heap/\∀b∈fp,H' b=none) E s1) E s
 done:∀(X:Cx),X.prog=P->X.w=w->X.K=K->X.calm=true->∀(i:Nat) (pins:List (Addr×Obj)) (s:Shared) (σ:St) (H:Hp) (E:Value->Shared->Prop),Inv X pins σ H s->(∀b∈fp,FpOk X pins H b)->tn i s.heap->J.stop i H ->
  wpAny (model P w) X.A (pyNext (.ref it)) (λr s1=>r=none/\Inv X pins σ H s1) E s
 self:∀(A:Around) (i:Nat) (s:Shared) (Q:Value->Shared->Prop) (E:Value->Shared->Prop),tn i s.heap->Q (.ref it) s->wpAny (model P w) A (pyIter (.ref it)) Q E s
abbrev TI:=St->Hp->(It->Hp->Prop)->Prop
def PIE(X:Cx)(pins:List (Addr×Obj))(σ:St)(tg:Expr)(R:It->Hp->Prop)(itv:Value)(s2:Shared):Prop :=
 ∃(it:Addr) (fp:List Addr) (tn:Nat->Heap->Prop) (J:It) (H':Hp),itv=.ref it/\Inv X pins σ H' s2/\Turn X.prog X.w X.K tg J fp it tn/\tn 0 s2.heap/\(∀b∈fp,FpOk X pins H' b)/\R J H'
def PI(X:Cx)(tg iter:Expr)(wi:TI):Prop :=
 ∀(pins:List (Addr×Obj)) (s:Shared) (σ:St) (H:Hp) (R:It->Hp->Prop),Inv X pins σ H s->wi σ H R ->
  wpAny (model X.prog X.w) X.A (eval iter X.env) (λv s1=>wpAny (model X.prog X.w) X.A (pyIter v) (PIE X pins σ tg R) X.xe s1) X.xe s
theorem go_of{M:Model}{A:Around}{E:Value->Shared->Prop}{s:Shared}{tg:Expr}{it:Addr}{u:Value}{o:Obj}{n:String}{vs:Array Value}{Q:Unit->Shared->Prop}(ho:s.heap.get? it=some o)(hc:o.cls=.type n)(hd:o.data=.fields vs)
    (hn:["enumerate", "zip", "dict_itemiterator", "dict_reverseitemiterator", "odict_iterator", "itertools.zip_longest", "itertools.pairwise"].contains n=false) (hQ:Q () s):wpAny M A (letOwnedTupleGo tg (.ref it) u) Q E s:=by
  unfold letOwnedTupleGo
  cases tg<;>first
    | exact wpAny_pure hQ
    | (cases u<;>first
        | exact wpAny_pure hQ
        | (refine wpAny_bind (wpAny_load ho ?_)
           rw[hc,hd]
           show wpAny M A (if (["enumerate", "zip", "dict_itemiterator", "dict_reverseitemiterator", "odict_iterator", "itertools.zip_longest", "itertools.pairwise"].contains n&&vs[0]?==some (rawInt _))=true then _ else _) Q E s
           rw[if_neg (by intro h;rw[hn,Bool.false_and] at h;cases h)]
           exact wpAny_pure hQ))
def Itl(K:PySem.W.Frag)(a:Addr):It :=
 ⟨λi H=>∃xs x,SqL K H a xs/\xs[i]?=some x,λi H x H'=>H'=H/\∀xs,SqL K H a xs->xs[i]?=some x,λi H=>∃xs,SqL K H a xs/\xs.length<=i⟩
def Itt(K:PySem.W.Frag)(a:Addr):It :=
 ⟨λi H=>∃xs x,SqT K H a xs/\xs[i]?=some x,λi H x H'=>H'=H/\∀xs,SqT K H a xs->xs[i]?=some x,λi H=>∃xs,SqT K H a xs/\xs.length<=i⟩
def Itr(lo:Int)(n:Nat):It:=⟨λi _=>i<n,λi H x H'=>H'=H/\x=.int (lo+i),λi _=>n<=i⟩
theorem turn_list{P:Program}{w:World}{K:PySem.W.Frag}{tg:Expr}(a it:Addr):Turn P w K tg (Itl K a) [it] it (λi h=>h.IsListIter it a i) where
 mem:=by simp
 obj:=λi h st b hb=>by
  have e:b=it:=by simpa using hb
  subst e
  obtain⟨o,e,c,d⟩:=st
  exact⟨o,e,λv z=>by rw[d] at z;cases z⟩
 keep:=λi h h' st k=>st.at λo e=>k it (by simp) o e
 item:=by
  intro X hP hw hK hc i pins s σ H E I hf st hg
  subst hP hw hK
  obtain⟨xs,x,hq,hx⟩:=hg
  obtain⟨its,rv,p,hz⟩:=I.list hq
  obtain⟨u,hu,ru⟩:=rv.get hx
  obtain⟨f0,f1,f2,f3,f4,f5⟩:=hf it (by simp)
  refine wpAny_pyNext_list_item st p.isList (x:=u) (by simpa using hu) λh' st' sb=>?_
  have I1:Inv X pins σ H { s with heap:=h' }:=I.turned (t':=s.toks) (λb o hb e=>(sb.2 b hb).trans e) f0 f1 f3 f4 f5
  obtain⟨o,e,c,d⟩:=id st'
  exact⟨u,rfl,go_of (s:={ s with heap:=h' }) e c d (by decide) ⟨x,H,I1,ru,⟨rfl,λys hy=>by rw[I.list_inj hy hq];exact hx⟩,st',λb hb=>(hf b hb).1⟩⟩
 done:=by
  intro X hP hw hK hc i pins s σ H E I hf st hg
  subst hP hw hK
  obtain⟨xs,hq,hx⟩:=hg
  obtain⟨its,rv,p,hz⟩:=I.list hq
  obtain⟨f0,f1,f2,f3,f4,f5⟩:=hf it (by simp)
  have hl:=rv.length
  exact wpAny_pyNext_list_end (I.ok.hd hc) st p.isList (by simp;omega) λh' eb=>⟨rfl,I.turned (t':=s.toks) (λb o hb e=>eb b o hb e) f0 f1 f3 f4 f5⟩
 self:=λ_ _ _ _ _ st h=>wpAny_pyIter_listiter st h
theorem turn_tuple{P:Program}{w:World}{K:PySem.W.Frag}{tg:Expr}(a it:Addr):Turn P w K tg (Itt K a) [it] it (λi h=>h.IsTupleIter it a i) where
 mem:=by simp
 obj:=λi h st b hb=>by
  have e:b=it:=by simpa using hb
  subst e
  obtain⟨o,e,c,d⟩:=st
  exact⟨o,e,λv z=>by rw[d] at z;cases z⟩
 keep:=λi h h' st k=>st.at λo e=>k it (by simp) o e
 item:=by
  intro X hP hw hK hc i pins s σ H E I hf st hg
  subst hP hw hK
  obtain⟨xs,x,hq,hx⟩:=hg
  obtain⟨its,rv,p,hz⟩:=I.tuple hq
  obtain⟨u,hu,ru⟩:=rv.get hx
  obtain⟨f0,f1,f2,f3,f4,f5⟩:=hf it (by simp)
  refine wpAny_pyNext_tuple_item st (show s.heap.IsTuple a its.toArray from p) (x:=u) (by simpa using hu) λh' st' sb=>?_
  have I1:Inv X pins σ H { s with heap:=h' }:=I.turned (t':=s.toks) (λb o hb e=>(sb.2 b hb).trans e) f0 f1 f3 f4 f5
  obtain⟨o,e,c,d⟩:=id st'
  exact⟨u,rfl,go_of (s:={ s with heap:=h' }) e c d (by decide) ⟨x,H,I1,ru,⟨rfl,λys hy=>by rw[I.tuple_inj hy hq];exact hx⟩,st',λb hb=>(hf b hb).1⟩⟩
 done:=by
  intro X hP hw hK hc i pins s σ H E I hf st hg
  subst hP hw hK
  obtain⟨xs,hq,hx⟩:=hg
  obtain⟨its,rv,p,hz⟩:=I.tuple hq
  obtain⟨f0,f1,f2,f3,f4,f5⟩:=hf it (by simp)
  have hl:=rv.length
  exact wpAny_pyNext_tuple_end (I.ok.hd hc) st (show s.heap.IsTuple a its.toArray from p) (by simp;omega) λh' eb=>⟨rfl,I.turned (t':=s.toks) (λb o hb e=>eb b o hb e) f0 f1 f3 f4 f5⟩
 self:=λ_ _ _ _ _ st h=>wpAny_pyIter_tupleiter st h
theorem turn_range{P:Program}{w:World}{K:PySem.W.Frag}{tg:Expr}(it:Addr)(lo:Int)(n:Nat):Turn P w K tg (Itr lo n) [it] it (λi h=>IsRangeIter h it (lo+(i:Nat)*1) ((n:Int)-(i:Nat)) 1) where
 mem:=by simp
 obj:=λi h st b hb=>by
  have e:b=it:=by simpa using hb
  subst e
  exact⟨_,st,λv z=>by
   have z':Data.fields _=Data.cell v:=z
   cases z'⟩
 keep:=λi h h' st k=>k it (by simp) _ st
 item:=by
  intro X hP hw hK hc i pins s σ H E I hf st hg
  subst hP hw hK
  obtain⟨f0,f1,f2,f3,f4,f5⟩:=hf it (by simp)
  have W:=Walks.range (prog:=X.prog) (w:=X.w) (I.ok.hd hc) it lo 1 n
  refine W.item i s _ _ hg st λv h' tk hv st' kk=>?_
  obtain⟨t,rfl⟩:=hv
  have I1:Inv X pins σ H { s with heap:=h',toks:=tk }:=I.turned (λb o hb e=>kk b o (by simpa using hb) e) f0 f1 f3 f4 f5
  refine⟨_,rfl,go_of (s:={ s with heap:=h',toks:=tk }) (n := "range_iterator") st' rfl rfl (by decide) ⟨.int (lo+i),H,I1,⟨t,?_⟩,⟨rfl,rfl⟩,st',λb hb=>(hf b hb).1⟩⟩
  rw[Int.mul_one]
 done:=by
  intro X hP hw hK hc i pins s σ H E I hf st hg
  subst hP hw hK
  obtain⟨f0,f1,f2,f3,f4,f5⟩:=hf it (by simp)
  exact wpAny_pyNext_range_end (I.ok.hd hc) st (by have:n<=i:=hg;omega) λh' eb=>⟨rfl,I.turned (t':=s.toks) (λb o hb e=>eb b o hb e) f0 f1 f3 f4 f5⟩
 self:=λ_ _ _ _ _ st h=>wpAny_pyIter_rangeiter st h
end L2
namespace L2
open PySem PySem.Spec PyProof.Rows
section
variable{X:Cx}{tg:Expr}
def iList(K:PySem.W.Frag)(tl:TE):TI:=λσ H R=>tl σ H λx H1=>∃a,x=.ref a/\(∃xs,SqL K H1 a xs)/\R (Itl K a) H1
theorem pi_list{l:Expr}{tl:TE}(hl:PE X l tl):PI X tg l (iList X.K tl):=by
 intro pins s σ H R I h
 refine thn (hl pins s σ H _ I h) λv s1 ⟨x,H1,I1,r1,q1⟩=>?_
 obtain⟨a,e,⟨xs,hq⟩,q⟩:=q1
 subst e
 cases r1
 obtain⟨its,rv,p,hz⟩:=I1.list hq
 refine wpAny_pyIter_list p.isList ?_
 refine⟨s1.heap.objs.size,[s1.heap.objs.size],_,_,H1,rfl,I1.kept (t':=s1.toks) λb o e=>Heap.get?_push_of_some _ e,turn_list a _,⟨_,Heap.get?_push_size _ rfl,rfl,rfl⟩,λb hb=>?_,q⟩
 have e:b=s1.heap.objs.size:=by simpa using hb
 subst e
 exact I1.fpOk (Nat.le_refl _) (I1.hok.fresh (Nat.le_refl _))
theorem range_it{pins:List (Addr×Obj)}{σ:St}{H:Hp}{s:Shared}{R:It->Hp->Prop}{E:Value->Shared->Prop}{lo hi:Int}{t u v:Tok}{tk:Nat}(I:Inv X pins σ H s)(h1 : -(2 ^ 62)<=lo)(h2:lo<2 ^ 62)(h3 : -(2 ^ 62)<=hi)(h4:hi<2 ^ 62)
  (q:R (Itr lo (hi-lo).toNat) H):wpAny (model X.prog X.w) X.A (pyIter (.ref s.heap.objs.size)) (PIE X pins σ tg R) E { s with heap:=s.heap.push { cls:=.type "range",data:=.fields #[.int lo t,.int hi u,.int 1 v] },toks:=tk }:=by
 refine wpAny_pyIter_range (IsRange.new ..) (small_one h1 h2 h3 h4) ?_
 have I1:Inv X pins σ H { s with heap:=s.heap.push { cls:=.type "range",data:=.fields #[.int lo t,.int hi u,.int 1 v] },toks:=tk }:=I.kept λb o e=>Heap.get?_push_of_some _ e
 refine⟨(s.heap.push { cls:=.type "range",data:=.fields #[.int lo t,.int hi u,.int 1 v] }).objs.size,[(s.heap.push { cls:=.type "range",data:=.fields #[.int lo t,.int hi u,.int 1 v] }).objs.size],_,_,H,rfl,
  I1.kept (t':=tk) λb o e=>Heap.get?_push_of_some _ e,turn_range _ lo (hi-lo).toNat,?_,λb hb=>?_,q⟩
 ·have e1:lo+((0:Nat):Int)*1=lo:=by simp
  have e2:(((hi-lo).toNat:Nat):Int)-((0:Nat):Int)=Builtin.Range.rangeSize lo hi 1:=by rw[rangeSize_one];split<;>omega
  show IsRangeIter _ _ (lo+((0:Nat):Int)*1) ((((hi-lo).toNat:Nat):Int)-((0:Nat):Int)) 1
  rw[e1,e2]
  exact Heap.get?_push_size _ rfl
 ·have e:b=(s.heap.push { cls:=.type "range",data:=.fields #[.int lo t,.int hi u,.int 1 v] }).objs.size:=by simpa using hb
  subst e
  exact I1.fpOk (Nat.le_refl _) (I1.hok.fresh (Nat.le_refl _))
def iRng1(ta:TA):TI:=λσ H R=>ta σ H λvs H1=>∃j:Int,vs=[.int j] /\ -(2 ^ 62)<=j/\j<2 ^ 62/\R (Itr 0 j.toNat) H1
def iRng2(ta:TA):TI:=λσ H R=>ta σ H λvs H1=>∃i j:Int,vs=[.int i,.int j]/\(-(2 ^ 62)<=i/\i<2 ^ 62 /\ -(2 ^ 62)<=j/\j<2 ^ 62)/\R (Itr i (j-i).toNat) H1
theorem pi_range1{a:Expr}{ta:TA}{p pos:Pos}(hg:Gl X "range")(hm:X.mg "range" = none)(ha:PA X [a] ta)(hs:starEach [a] X.env=[(false,eval a X.env)]:=by rfl):PI X tg (.Call (.Name "range" p) [a] [] pos) (iRng1 ta):=by
 intro pins s σ H R I h
 refine Call_ (ld_blt I hg hm boot_range (PyProof.Rows.callWith_type1 (thn (ha pos pins s σ H _ I h) λus s1 ⟨vs,H1,I1,r1,q1⟩=>?_) hs rfl))
 obtain⟨j,e,q1,q2,q⟩:=q1
 subst e
 cases r1 with
 | cons r rr =>
  cases rr
  obtain⟨t,rfl⟩:=r
  exact call_range_1 (range_it I1 (by omega) (by omega) q1 q2 (by simpa using q))
theorem pi_range2{a b:Expr}{ta:TA}{p pos:Pos}(hg:Gl X "range")(hm:X.mg "range" = none)(ha:PA X [a,b] ta)(hs:starEach [a,b] X.env=[(false,eval a X.env),(false,eval b X.env)]:=by rfl)(hs2:starEach [b] X.env=[(false,eval b X.env)]:=by rfl) :
  PI X tg (.Call (.Name "range" p) [a,b] [] pos) (iRng2 ta):=by
 intro pins s σ H R I h
 refine Call_ (ld_blt I hg hm boot_range (PyProof.Rows.callWith_type1 (thn (ha pos pins s σ H _ I h) λus s1 ⟨vs,H1,I1,r1,q1⟩=>?_) (by rw[hs,hs2]) (by rw[hs2];rfl)))
 obtain⟨i,j,e,⟨q1,q2,q3,q4⟩,q⟩:=q1
 subst e
 cases r1 with
 | cons r rr =>
  cases rr with
  | cons r' rr =>
   cases rr
   obtain⟨t,rfl⟩:=r
   obtain⟨t',rfl⟩:=r'
   exact call_range_2 (range_it I1 q1 q2 q3 q4 q)
def tFor(wi:TI)(g:TG)(tb:TS):TS:=λD σ H=>wi σ H λJ H1=>∃W:Nat->Nat->St->Hp->Prop,(∃m,W 0 m σ H1)/\∀i m σ H,W i m σ H ->
 (J.stop i H/\D.nx σ H)\/(J.go i H/\∃N:St->Hp->Prop,(∀σ' H',N σ' H'->∃m',m'<m/\W (i+1) m' σ' H')/\∀x H',J.yld i H x H'->g x σ H' λσ2 H2=>tb { D with nx:=N,ct:=N,bk:=D.nx } σ2 H2)
def pinsAt(fp:List Addr)(h:Heap):List (Addr×Obj):=fp.filterMap λb=>(h.get? b).map λo=>(b,o)
theorem fj{fp:List Addr}{h:Heap}{b:Addr}{o:Obj}(hb:b∈fp)(e:h.get? b=some o):(b,o)∈pinsAt fp h:=List.mem_filterMap.mpr ⟨b,hb,by rw[e];rfl⟩
theorem of_pinsAt{fp:List Addr}{h:Heap}{p:Addr×Obj}(hp:p∈pinsAt fp h):p.1∈fp/\h.get? p.1=some p.2:=by
 obtain⟨b,hb,e⟩:=List.mem_filterMap.mp hp
 cases q:h.get? b with
 | none=>rw[q] at e;cases e
 | some o =>
  rw[q] at e
  have e':(b,o)=p:=Option.some.inj e
  subst e'
  exact⟨hb,q⟩
theorem Inv.pinned{pins:List (Addr×Obj)}{σ:St}{H:Hp}{s:Shared}{fp:List Addr}(I:Inv X pins σ H s)(hf:∀b∈fp,FpOk X pins H b)(ho:∀b∈fp,∃o,s.heap.get? b=some o/\∀v,o.data≠.cell v):Inv X (pins++pinsAt fp s.heap) σ H s :=
 I.pins_of λp hp=>(List.mem_append.mp hp).elim (λz=>I.pin p (List.mem_append_right _ z)) λz=>by
  obtain⟨hb,e⟩:=of_pinsAt z
  obtain⟨f0,f1,f2,_⟩:=hf p.1 hb
  obtain⟨o,e',d⟩:=ho p.1 hb
  rw[e] at e';cases e'
  exact⟨e,f0,f1,f2,d⟩
theorem Inv.unpinned{pins pl:List (Addr×Obj)}{σ:St}{H:Hp}{s:Shared}(I:Inv X (pins++pl) σ H s):Inv X pins σ H s:=I.pins_of λp hp=>I.pin p (List.mem_append_right _ (List.mem_append_left _ hp))
theorem ps_for{iter:Expr}{body:List Stmt}{wi:TI}{g:TG}{tb:TS}{pos:Pos}(hp:PassesOwn (model X.prog X.w) X.A X.env X.xe)(hc:X.calm=true)(hi:PI X tg iter wi)(hg:PG X tg g)(hb:PSs X body tb)
  (hs:∀x,foldedSetIterable iter X.env x=pure x:=by intro _;rfl):PS X (.For tg iter body [] pos) (tFor wi g tb):=by
 intro pins s σ H D I h
 refine wpAny_For (thn (hi pins s σ H _ I h) λv s1 h1=>thn h1 λitv s2 h2=>?_) hs
 obtain⟨it,fp,tn,J,H2,e,I2,T,st2,f2,W,⟨m0,w0⟩,turn⟩:=h2
 subst e
 have stat:∀{H':Hp},(∀b∈fp,H' b=none)->∀b∈fp,FpOk X pins H' b:=λhn b hb=>⟨hn b hb,(f2 b hb).2⟩
 refine codeAny_forLoop_any (λn s'=>∃i σ' H',Inv X pins σ' H' s'/\tn i s'.heap/\(∀b∈fp,H' b=none)/\W i n σ' H') ?_ m0 ⟨0,σ,H2,I2,st2,λb hb=>(f2 b hb).1,w0⟩
 rintro n s3 ⟨i,σ3,H3,I3,st3,fr3,w3⟩
 rcases turn i n σ3 H3 w3 with ⟨stop,qn⟩ | ⟨go,N,hN,step⟩
 ·refine wpAny_passesOwn hp (thn (T.done X rfl rfl rfl hc i pins s3 σ3 H3 X.xe I3 (stat fr3) st3 stop) λr s4 ⟨hr,I4⟩=>?_)
  subst hr
  exact wpAny_execs_nil ⟨σ3,H3,I4,qn⟩
 ·refine wpAny_passesOwn hp (thn (T.item X rfl rfl rfl hc i pins s3 σ3 H3 X.xe I3 (stat fr3) st3 go) λr s4 ⟨u,hr,h4⟩=>?_)
  subst hr
  refine wpAny_passesOwn hp (thn h4 λ_ s5 ⟨x,H5,I5,r5,y5,st5,fr5⟩=>?_)
  have I5':=I5.pinned (stat fr5) (T.obj _ _ st5)
  refine wpAny_passesOwn hp (thn (hg _ s5 σ3 H5 x u _ I5' r5 (step x H5 y5)) λ_ s6 ⟨σ6,H6,I6,q6⟩=>?_)
  refine wpAny_passesOwn hp (thn (hb _ s6 σ6 H6 _ I6 q6) λf s7 q7=>?_)
  have again:∀{σ7:St} {H7:Hp},Inv X (pins++pinsAt fp s5.heap) σ7 H7 s7->N σ7 H7->∃m,m<n/\∃i σ' H',Inv X pins σ' H' s7/\tn i s7.heap/\(∀b∈fp,H' b=none)/\W i m σ' H':=λ{σ7 H7} I7 n7=>by
   obtain⟨m',hm,w7⟩:=hN σ7 H7 n7
   refine⟨m',hm,i+1,σ7,H7,I7.unpinned,T.keep _ _ _ st5 λb hb o e=>(I7.pin (b,o) (List.mem_append_right _ (List.mem_append_right _ (fj hb e)))).1,λb hb=>?_,w7⟩
   obtain⟨o,e,d⟩:=T.obj _ _ st5 b hb
   exact(I7.pin (b,o) (List.mem_append_right _ (List.mem_append_right _ (fj hb e)))).2.1
  cases f with
  | next=>obtain⟨σ7,H7,I7,n7⟩:=q7;exact again I7 n7
  | cont=>obtain⟨σ7,H7,I7,n7⟩:=q7;exact again I7 n7
  | brk=>obtain⟨σ7,H7,I7,q7⟩:=q7;exact⟨σ7,H7,I7.unpinned,q7⟩
  | ret v=>obtain⟨x7,σ7,H7,I7,r7,q7⟩:=q7;exact⟨x7,σ7,H7,I7.unpinned,r7,q7⟩
end
end L2
namespace L2
open PySem PySem.Spec PyProof.Rows
abbrev R2:=V->V->Hp->VK->Prop
def OpR(X:Cx)(f:Value->Value->Sem Value)(r:R2):Prop :=
 ∀(pins:List (Addr×Obj)) (s:Shared) (σ:St) (H:Hp) (x y:V) (v u:Value) (Q:VK),Inv X pins σ H s->bS x v->bS y u->r x y H Q ->
  wpAny (model X.prog X.w) X.A (f v u) (EP X pins σ Q) X.xe s
def UnR(X:Cx)(f:Value->Sem Value)(r:V->Hp->VK->Prop):Prop :=
 ∀(pins:List (Addr×Obj)) (s:Shared) (σ:St) (H:Hp) (x:V) (v:Value) (Q:VK),Inv X pins σ H s->bS x v->r x H Q ->
  wpAny (model X.prog X.w) X.A (f v) (EP X pins σ Q) X.xe s
def fS(X:Cx)(f:Value)(r:List V->Hp->VK->Prop):Prop :=
 ∀(pins:List (Addr×Obj)) (s:Shared) (σ:St) (H:Hp) (xs:List V) (us:List Value) (Q:VK),Inv X pins σ H s->aU xs us->r xs H Q ->
  wpAny (model X.prog X.w) X.A (call f us) (EP X pins σ Q) X.xe s
def TruR(X:Cx)(r:V->Hp->(Bool->Hp->Prop)->Prop):Prop :=
 ∀(pins:List (Addr×Obj)) (s:Shared) (σ:St) (H:Hp) (x:V) (v:Value) (Q:Bool->Hp->Prop),Inv X pins σ H s->bS x v->r x H Q ->
  wpAny (model X.prog X.w) X.A (truthy v) (TP X pins σ Q) X.xe s
def tOp(r:R2)(ta tb:TE):TE:=λσ H Q=>ta σ H λx H1=>tb σ H1 λy H2=>r x y H2 Q
def tUn(r:V->Hp->VK->Prop)(ta:TE):TE:=λσ H Q=>ta σ H λx H1=>r x H1 Q
def rI(C:Int->Int->Prop)(g:Int->Int->V):R2:=λx y H Q=>∃i j,x=.int i/\y=.int j/\C i j/\Q (g i j) H
def rI0(g:Int->Int->V):R2:=λx y H Q=>∃i j,x=.int i/\y=.int j/\Q (g i j) H
def rU(g:Int->V):V->Hp->VK->Prop:=λx H Q=>∃i,x=.int i/\Q (g i) H
section
variable{X:Cx}{a b c:Expr}{ta tb tc:TE}{pos:Pos}
theorem binT(ha:PE X a ta)(hb:PE X b tb){pins:List (Addr×Obj)}{s:Shared}{σ:St}{H:Hp}{R:V->V->Hp->Prop}(I:Inv X pins σ H s)
  (h:ta σ H λx H1=>tb σ H1 λy H2=>R x y H2) {Q:Value->Shared->Prop} {f:Value->Value->Sem Value}
  (hf:∀v u s2 x y H2,Inv X pins σ H2 s2->bS x v->bS y u->R x y H2->wpAny (model X.prog X.w) X.A (f v u) Q X.xe s2) :
  wpAny (model X.prog X.w) X.A (eval a X.env) (λv s₁=>wpAny (model X.prog X.w) X.A (eval b X.env) (λu s₂=>wpAny (model X.prog X.w) X.A (f v u) Q X.xe s₂) X.xe s₁) X.xe s:=by
 refine thn (ha pins s σ H _ I h) λv s1 ⟨x,H1,I1,r1,q1⟩=>?_
 refine thn (hb pins s1 σ H1 _ I1 q1) λu s2 ⟨y,H2,I2,r2,q2⟩=>?_
 exact hf v u s2 x y H2 I2 r1 r2 q2
theorem pe_op{op:Operator}{r:R2}(ho:OpR X (binaryOp op) r)(ha:PE X a ta)(hb:PE X b tb):PE X (.BinOp a op b pos) (tOp r ta tb):=by
 intro pins s σ H Q I h
 exact wpAny_BinOp (binT ha hb I h λv u s2 x y H2 I2 rx ry q=>ho pins s2 σ H2 x y v u Q I2 rx ry q)
theorem pe_un{op:UnaryOp}{r:V->Hp->VK->Prop}(ho:UnR X (unaryOp op) r)(ha:PE X a ta):PE X (.UnaryOp op a pos) (tUn r ta):=by
 intro pins s σ H Q I h
 exact UnaryOp_ (thn (ha pins s σ H _ I h) λv s1 ⟨x,H1,I1,r1,q1⟩=>ho pins s1 σ H1 x v Q I1 r1 q1)
theorem opI{f:Value->Value->Sem Value}{C:Int->Int->Prop}{g:Int->Int->Int}
  (rule:∀(i j:Int) (t u:Tok) (s:Shared) (Q:Value->Shared->Prop) (E:Value->Shared->Prop),C i j->Q (.int (g i j) s.toks) { s with toks:=s.toks+1 }->wpAny (model X.prog X.w) X.A (f (.int i t) (.int j u)) Q E s) :
  OpR X f (rI C λi j=>.int (g i j)):=by
 intro pins s σ H x y v u Q I rx ry h
 obtain⟨i,j,rfl,rfl,hc,q⟩:=h
 obtain⟨t,rfl⟩:=rx
 obtain⟨t',rfl⟩:=ry
 exact rule i j t t' s _ _ hc ⟨.int (g i j),H,I.tok _,⟨_,rfl⟩,q⟩
theorem opI0{f:Value->Value->Sem Value}{g:Int->Int->Int}
  (rule:∀(i j:Int) (t u:Tok) (s:Shared) (Q:Value->Shared->Prop) (E:Value->Shared->Prop),Q (.int (g i j) s.toks) { s with toks:=s.toks+1 }->wpAny (model X.prog X.w) X.A (f (.int i t) (.int j u)) Q E s) :
  OpR X f (rI0 λi j=>.int (g i j)):=by
 intro pins s σ H x y v u Q I rx ry h
 obtain⟨i,j,rfl,rfl,q⟩:=h
 obtain⟨t,rfl⟩:=rx
 obtain⟨t',rfl⟩:=ry
 exact rule i j t t' s _ _ ⟨.int (g i j),H,I.tok _,⟨_,rfl⟩,q⟩
theorem opB0{f:Value->Value->Sem Value}{g:Int->Int->Bool}
  (rule:∀(i j:Int) (t u:Tok) (s:Shared) (Q:Value->Shared->Prop) (E:Value->Shared->Prop),Q (.bool (g i j)) s->wpAny (model X.prog X.w) X.A (f (.int i t) (.int j u)) Q E s) :
  OpR X f (rI0 λi j=>.bl (g i j)):=by
 intro pins s σ H x y v u Q I rx ry h
 obtain⟨i,j,rfl,rfl,q⟩:=h
 obtain⟨t,rfl⟩:=rx
 obtain⟨t',rfl⟩:=ry
 exact rule i j t t' s _ _ ⟨.bl (g i j),H,I,rfl,q⟩
def CPow(i j:Int):Prop:=0<=j/\j<=1000000/\i.natAbs<2 ^ 64
def CMul(i j:Int):Prop:=(-(2 ^ 64)<i/\i<2 ^ 64)\/(-(2 ^ 64)<j/\j<2 ^ 64)
theorem CMul.ok{i j:Int}(h:CMul i j):IntMulOk i j:=by
 rcases h with ⟨h1,h2⟩ | ⟨h1,h2⟩
 ·exact .of_left (intBits_le_64 h1 h2)
 ·exact .of_right (intBits_le_64 h1 h2)
theorem op_add:OpR X (binaryOp .Add) (rI0 λi j=>.int (i+j)):=opI0 λ_ _ _ _ _ _ _ q=>add_int q
theorem op_sub:OpR X (binaryOp .Sub) (rI0 λi j=>.int (i-j)):=opI0 λ_ _ _ _ _ _ _ q=>sub_int q
theorem op_mul:OpR X (binaryOp .Mult) (rI CMul λi j=>.int (i*j)):=opI λ_ _ _ _ _ _ _ hc q=>mul_int q hc.ok
theorem op_mod:OpR X (binaryOp .Mod) (rI (λ_ j=>0<j) λi j=>.int (i % j)):=opI λi j _ _ _ _ _ hc q=>by
 have h1:(0:Int)<j:=hc
 exact mod_int' (by omega) (by rw[Int.fmod_eq_emod_of_nonneg i (by omega)];exact q)
theorem op_pow:OpR X (binaryOp .Pow) (rI CPow λi j=>.int (i ^ j.toNat)):=opI λ_ _ _ _ _ _ _ hc q=>pow_int_small hc.1 hc.2.1 hc.2.2 q
theorem unI{f:Value->Sem Value}{g:Int->Int}
  (rule:∀(i:Int) (t:Tok) (s:Shared) (Q:Value->Shared->Prop) (E:Value->Shared->Prop),Q (.int (g i) s.toks) { s with toks:=s.toks+1 }->wpAny (model X.prog X.w) X.A (f (.int i t)) Q E s) :
  UnR X f (rU λi=>.int (g i)):=by
 intro pins s σ H x v Q I rx h
 obtain⟨i,rfl,q⟩:=h
 obtain⟨t,rfl⟩:=rx
 exact rule i t s _ _ ⟨.int (g i),H,I.tok _,⟨_,rfl⟩,q⟩
theorem un_neg:UnR X (unaryOp .USub) (rU λi=>.int (-i)):=unI λ_ _ _ _ _ q=>neg_int q
end
section
variable{X:Cx}{a b c:Expr}{ta tb tc:TE}{pos:Pos}
theorem fin_bl{pins:List (Addr×Obj)}{σ:St}{H:Hp}{s:Shared}{Q:VK}{k k':Bool}(I:Inv X pins σ H s)(q:Q (.bl k) H)(e:k=k'):EP X pins σ Q (.bool k') s:=by
 subst e
 exact⟨.bl k,H,I,rfl,q⟩
theorem op_lt:OpR X (compareOp .Lt) (rI0 λi j=>.bl (decide (i<j))):=opB0 λ_ _ _ _ _ _ _ q=>lt_int q
theorem op_le:OpR X (compareOp .LtE) (rI0 λi j=>.bl (decide (i<=j))):=opB0 λ_ _ _ _ _ _ _ q=>le_int q
theorem op_gt:OpR X (compareOp .Gt) (rI0 λi j=>.bl (decide (j<i))):=opB0 λ_ _ _ _ _ _ _ q=>gt_int q
theorem op_ge:OpR X (compareOp .GtE) (rI0 λi j=>.bl (decide (j<=i))):=opB0 λ_ _ _ _ _ _ _ q=>ge_int q
theorem op_isN:OpR X (compareOp .Is) (λx y H Q=>y=.non/\Q (.bl (decide (x=.non))) H):=by
 intro pins s σ H x y v u Q I rx ry h
 obtain⟨rfl,q⟩:=h
 cases ry
 refine is_none_gen (fin_bl I q ?_)
 cases x<;>first
  | (cases rx;rfl)
  | (obtain⟨t,rfl⟩:=rx;rfl)
theorem op_notN:OpR X (compareOp .IsNot) (λx y H Q=>y=.non/\Q (.bl (!decide (x=.non))) H):=by
 intro pins s σ H x y v u Q I rx ry h
 obtain⟨rfl,q⟩:=h
 cases ry
 refine isnot_none_gen (fin_bl I q ?_)
 cases x<;>first
  | (cases rx;rfl)
  | (obtain⟨t,rfl⟩:=rx;rfl)
theorem OpR.or{f:Value->Value->Sem Value}{r r':R2}(h:OpR X f r)(h':OpR X f r'):OpR X f (λx y H Q=>r x y H Q\/r' x y H Q):=by
 intro pins s σ H x y v u Q I rx ry q
 rcases q with q | q
 ·exact h pins s σ H x y v u Q I rx ry q
 ·exact h' pins s σ H x y v u Q I rx ry q
theorem aX(b:Expr){op:CmpOp}(h:op≠.In:=by decide)(h2:op≠.NotIn:=by decide):behindInMarks op b=false:=by
 have e1:(op==CmpOp.In)=false:=by cases op<;>first | rfl | exact absurd rfl h
 have e2:(op==CmpOp.NotIn)=false:=by cases op<;>first | rfl | exact absurd rfl h2
 cases b<;>simp [behindInMarks,e1,e2]
theorem pe_cmpR{op:CmpOp}{r:R2}(ho:OpR X (compareOp op) r)(ha:PE X a ta)(hb:PE X b tb)(hm:behindInMarks op b=false):PE X (.Compare a [op] [b] pos) (tOp r ta tb):=by
 intro pins s σ H Q I h
 exact wpAny_Compare1 (binT ha hb I h λv u s2 x y H2 I2 rx ry q=>ho pins s2 σ H2 x y v u Q I2 rx ry q) hm
def tTest(t:TE):TT:=λσ H Q=>t σ H λx H'=>∃k,x=.bl k/\Q k H'
theorem pt_cmpR{op:CmpOp}{r:R2}(ho:OpR X (compareOp op) r)(ha:PE X a ta)(hb:PE X b tb)(hm:behindInMarks op b=false):PT X (.Compare a [op] [b] pos) (tTest (tOp r ta tb)):=by
 intro pins s σ H Q I h
 refine wpAny_isTrue_Compare1 (thn (ha pins s σ H _ I h) λv s1 ⟨x,H1,I1,r1,q1⟩=>thn (hb pins s1 σ H1 _ I1 q1) λu s2 ⟨y,H2,I2,r2,q2⟩ =>
  thn (ho pins s2 σ H2 x y v u _ I2 r1 r2 q2) λc s3 ⟨z,H3,I3,r3,k,e,q3⟩=>?_) hm
 subst e
 cases r3
 exact wpAny_truthy_bool ⟨H3,I3,q3⟩
def TruV(K:PySem.W.Frag)(x:V)(H:Hp)(k:Bool):Prop :=
 match x with
 | .non=>k=false
 | .bl b=>k=b
 | .int i=>k=(i != 0)
 | .str y=>y.length<=sizeLine/\k=((y.length:Int) != 0)
 | .byt y=>y.size<=sizeLine/\k=((y.size:Int) != 0)
 | .ref p=>(∃xs,SqL K H p xs/\k=!xs.isEmpty)\/(∃xs,SqT K H p xs/\k=!xs.isEmpty)\/∃kvs,H p=some (.dK kvs)/\k=!kvs.isEmpty
 | _=>False
theorem isEmpty_kv{κ:Type}{kvs:List (κ×V)}{vs:List (κ×Value)}(r:KV kvs vs):(!vs.isEmpty)=!kvs.isEmpty:=by
 cases r<;>rfl
theorem isEmpty_of{xs:List V}{its:List Value}(r:aU xs its):(!its.toArray.isEmpty)=!xs.isEmpty:=by
 cases r<;>simp
theorem line63:(sizeLine:Nat)<2 ^ 63:=by rw[sizeLine_eq];decide
theorem tru_ok:TruR X (λx H Q=>∃k,TruV X.K x H k/\Q k H):=by
 intro pins s σ H x v Q I rx h
 obtain⟨k,e,q⟩:=h
 have hl:=line63
 have hs:sizeLine=16777216:=sizeLine_eq
 cases x with
 | non =>
  cases rx
  have e':k=false:=e
  subst e'
  exact truthy_none ⟨H,I,q⟩
 | bl b =>
  cases rx
  have e':k=b:=e
  subst e'
  exact wpAny_truthy_bool ⟨H,I,q⟩
 | int i =>
  obtain⟨t,rfl⟩:=rx
  have e':k=(i != 0):=e
  subst e'
  exact PySem.P.truthy_int ⟨H,I,q⟩
 | str y =>
  obtain⟨t,rfl⟩:=rx
  obtain⟨hy,e'⟩:y.length<=sizeLine/\k=((y.length:Int) != 0):=e
  subst e'
  exact PySem.P.truthy_str (by omega) ⟨H,I.tok _,q⟩
 | byt y =>
  obtain⟨t,rfl⟩:=rx
  obtain⟨hy,e'⟩:y.size<=sizeLine/\k=((y.size:Int) != 0):=e
  subst e'
  exact PySem.W.truthy_bytes (by omega) ⟨H,I.tok _,q⟩
 | ref p =>
  cases rx
  have e':(∃xs,SqL X.K H p xs/\k=!xs.isEmpty)\/(∃xs,SqT X.K H p xs/\k=!xs.isEmpty)\/∃kvs,H p=some (.dK kvs)/\k=!kvs.isEmpty:=e
  rcases e' with ⟨xs,hx,e'⟩ | ⟨xs,hx,e'⟩ | ⟨kvs,hx,e'⟩
  ·subst e'
   obtain⟨its,r,pl,hz⟩:=I.list hx
   have hlen:=r.length
   exact wpAny_truthy_list pl.isList (by simp only[List.size_toArray];omega) ⟨H,I.tok _,by rw[isEmpty_of r];exact q⟩
  ·subst e'
   obtain⟨its,r,pl,hz⟩:=I.tuple hx
   have hlen:=r.length
   exact truthy_tuple pl (by simp only[List.size_toArray];omega) ⟨H,I.tok _,by rw[isEmpty_of r];exact q⟩
  ·subst e'
   obtain⟨hz,hS,vs,r,m⟩:kvs.length<=sizeLine/\(p==sysModules)=false/\∃vs,KV kvs vs/\s.heap.DictOf (mixKind X.prog X.w) p vs:=I.hok p _ hx
   have hlen:kvs.length=vs.length:=Paired.length r
   exact wpAny_truthy_dict hS m (by omega) ⟨H,I.tok _,by rw[isEmpty_kv r];exact q⟩
 | _=>exact(show False from e).elim
theorem pt_truth(ha:PE X a ta)(he:∀whole,isTrue a X.env whole=(do let v <- whole;standAt a.pos;holding [v] (truthy v))) :
  PT X a (λσ H Q=>ta σ H λx H'=>∃k,TruV X.K x H' k/\Q k H'):=by
 intro pins s σ H Q I h
 exact isTrue_plain (thn (ha pins s σ H _ I h) λv s1 ⟨x,H1,I1,r1,q1⟩=>tru_ok pins s1 σ H1 x v Q I1 r1 q1) (he _)
theorem op_add_str:OpR X (binaryOp .Add) (λx y H Q=>∃i j,x=.str i/\y=.str j/\i.length+j.length<=sizeLine/\Q (.str (i++j)) H):=by
 intro pins s σ H x y v u Q I rx ry h
 obtain⟨i,j,rfl,rfl,hz,q⟩:=h
 obtain⟨t,rfl⟩:=rx
 obtain⟨t',rfl⟩:=ry
 exact add_str (λt' tk=>⟨.str (i++j),H,I.tok _,⟨_,rfl⟩,q⟩) hz
theorem vals1{x:V}{us:List Value}(r:aU [x] us):∃u,us=[u]/\bS x u:=by
 cases r with
 | cons r1 r2=>cases r2;exact⟨_,rfl,r1⟩
theorem vals2{x y:V}{us:List Value}(r:aU [x,y] us):∃u w',us=[u,w']/\bS x u/\bS y w':=by
 cases r with
 | cons r1 r2 =>
  cases r2 with
  | cons r3 r4=>cases r4;exact⟨_,_,rfl,r1,r3⟩
theorem call_max2(hc:X.calm=true):fS X (.builtin "max") (λxs H Q=>∃i j,xs=[.int i,.int j]/\Q (.int (if j > i then j else i)) H):=by
 intro pins s σ H xs us Q I r h
 obtain⟨i,j,rfl,q⟩:=h
 obtain⟨u,w',rfl,⟨t,rfl⟩,⟨t',rfl⟩⟩:=vals2 r
 refine max_two_ints (I.ok.hd hc) λh' tk k=>⟨_,H,I.kept k,?_,q⟩
 by_cases hj:j > i
 ·rw[if_pos hj,if_pos hj];exact⟨_,rfl⟩
 ·rw[if_neg hj,if_neg hj];exact⟨_,rfl⟩
theorem call_min2(hc:X.calm=true):fS X (.builtin "min") (λxs H Q=>∃i j,xs=[.int i,.int j]/\Q (.int (if j<i then j else i)) H):=by
 intro pins s σ H xs us Q I r h
 obtain⟨i,j,rfl,q⟩:=h
 obtain⟨u,w',rfl,⟨t,rfl⟩,⟨t',rfl⟩⟩:=vals2 r
 refine min_two_ints (I.ok.hd hc) λh' tk k=>⟨_,H,I.kept k,?_,q⟩
 by_cases hj:j<i
 ·rw[if_pos hj,if_pos hj];exact⟨_,rfl⟩
 ·rw[if_neg hj,if_neg hj];exact⟨_,rfl⟩
end
end L2
namespace L2
open PySem PySem.Spec PyProof.Rows
structure ObjM(h:Heap)(x dx C:Addr)(mA:Str->Option Value):Prop where
 obj:h.get? x=some (PySem.W.instObj C dx)
 ns:h.Ns1 dx mA
 ne:dx≠x
theorem lookIn_ns{h:Heap}{dx:Addr}{mA:Str->Option Value}(n:h.Ns1 dx mA):∃od,h.get? dx=some od/\∀name,PySem.W.lookIn name od=some (mA name):=by
 obtain⟨o,es,ep,ho,hd,hk,_,hm⟩:=n
 refine⟨o,ho,λname=>?_⟩
 have e:=hm name
 unfold nsFind findBy at e
 rw[<-Array.find?_toList] at e
 unfold PySem.W.lookIn
 rw[hd]
 dsimp only
 split
 ·rename_i y q
  rw[q] at e
  exact congrArg some e
 ·rename_i q
  rw[q] at e
  have a:es.toList.any (·.refKey)=false:=by
   rw[List.any_eq_false]
   intro y hy
   obtain⟨z,t,hkey⟩:=hk y (Array.mem_toList_iff.mp hy)
   simp [DictEntry.refKey,hkey]
  have a':¬es.toList.any (·.refKey)=true:=by rw[a];exact Bool.false_ne_true
  rw[if_neg a']
  exact congrArg some e
theorem ObjM.look{h:Heap}{x dx C:Addr}{mA:Str->Option Value}(I:ObjM h x dx C mA):∃od,PySem.W.InstAt h x (PySem.W.instObj C dx) C (some od)/\∀name,PySem.W.lookIn name od=some (mA name) :=
 let ⟨od,ho,hl⟩:=lookIn_ns I.ns
 ⟨od,⟨I.obj,rfl,rfl,ho⟩,hl⟩
section
variable{prog:Program}{w:World}{A:Around}{E:Value->Shared->Prop}{s:Shared}{K:PySem.W.Frag}{x dx C f:Addr}{mA:Str->Option Value}{name:Str}{v:Value}
theorem get_map{expr:Bool}{Q:Value->Shared->Prop}(X:K.In s.heap)(I:ObjM s.heap x dx C mA)(hg:PySem.W.plainGet K C name=true)(hh:PySem.W.hasDictIn K C=true)
  (ha:PySem.W.findIn K (.ref C) name=some none) (hv:mA name=some v) (hv':PySem.W.handedIn v=true) (h:Q v { s with toks:=s.toks+1 }) :
  wpAny (model prog w) A (getAttr (.ref x) name expr) Q E s:=by
 obtain⟨od,J,hl⟩:=I.look
 exact PySem.W.get_value X J (PySem.W.plainGet_of hg).1 (PySem.W.findObj_own hh ha rfl (by rw[hl,hv])) hv' h
theorem get_meth{pl:Sem Bool}{Q:Value×List Value->Shared->Prop}(X:K.In s.heap)(I:ObjM s.heap x dx C mA)(hg:PySem.W.plainGet K C name=true)
  (hf:PySem.W.findIn K (.ref C) name=some (some (.ref f))) (ht:PySem.W.isFn K (.ref f)=true) (hv:mA name=none) (h:Q (.ref f,[.ref x]) s) :
  wpAny (model prog w) A (getMethod (.ref x) name pl) Q E s:=by
 obtain⟨od,J,hl⟩:=I.look
 exact PySem.W.method_fn X J (PySem.W.plainGet_of hg).1 (PySem.W.plainGet_of hg).2 hf (beq_iff_eq.mp ht) (by show(PySem.W.lookIn name od).map (·.isSome)=some false;rw[hl,hv];rfl) h
theorem set_map{ns:List Str}{Q:Unit->Shared->Prop}(X:K.In s.heap)(I:ObjM s.heap x dx C mA)
  (hs:PySem.W.findIn K (.ref C) "__setattr__" = some (some (.builtin "object.__setattr__"))) (hp:PySem.W.plainOver K C=true) (ht:PySem.W.takerIn K C name=some none) (hh:PySem.W.hasDictIn K C=true)
  (hw:PySem.Within mA ns) (hsz:ns.length<=sizeLine)
  (h:∀h',ObjM h' x dx C (λy=>if y=name then some v else mA y)->Heap.SameBut dx s.heap h'->Q () { s with heap:=h',toks:=s.toks+2 }) :
  wpAny (model prog w) A (setAttr (.ref x) name v) Q E s:=by
 obtain⟨od,J,hl⟩:=I.look
 refine PySem.W.set_plain X J hs (PySem.W.osa_open (s:={ s with toks:=s.toks+1 }) (r:=none) X J hp ht λb=>?_)
 obtain⟨cd,hc,hd'⟩:=PySem.W.any_some hh
 have hx:s.heap.get? x=some ⟨.ref C,some dx,.plain,#[]⟩:=I.obj
 refine wpAny_bind (wpAny_pure (wpAny_bind (wpAny_bind (wpAny_loadPart hx (wpAny_bind (PySem.W.Looks.here (s:={ s with toks:=s.toks+1 }) (PySem.W.looks_clsIn X hc) ?_))))))
 rw[hd']
 refine wpAny_pure (a:=some dx) (wpAny_bind (wpAny_pure (wpAny_bind ?_)))
 refine wpAny_nsSet1 (s:={ s with toks:=s.toks+1 }) I.ns λh' hn2 hs2=>?_
 obtain⟨oD,esD,epD,hoD,hdD,hcD⟩:=hn2.count (PySem.Within.cons name v hw)
 refine wpAny_bind (wpAny_lookBehind hoD (by rw[hdD];exact pastItsLine_dict (Nat.le_trans hcD (by rw[List.length_cons];omega))) ?_)
 exact wpAny_pure (h _ ⟨(hs2.2 _ (Ne.symm I.ne)).trans I.obj,hn2,I.ne⟩ hs2)
theorem make_map{R:Result->Shared->Prop}{vs:List Value}{kw:List (Str×Value)}(X:K.In s.heap)(hm:PySem.W.makesIn K C=true)
  (hi:PySem.W.findIn K (.ref C) "__init__" = some (some (.ref f))) (hf:PySem.W.typeIn K (.ref f)=some (.type "function"))
  (h:codeAny (model prog w) (A.under (.builtin "type.__call__" ⟨.ref C::vs,kw⟩)) (.call (.ref f) ⟨.ref (s.heap.objs.size+1)::vs,kw⟩) (PySem.W.InitBack (s.heap.objs.size+1) R)
   { s with heap:=(s.heap.push PySem.W.emptyDict).push (PySem.W.instObj C s.heap.objs.size) }) :
  codeAny (model prog w) A (.call (.ref C) ⟨vs,kw⟩) R s:=by
 obtain⟨hh,g,d,t,os⟩:=s
 exact PySem.W.make_core (PySem.W.makes_of X hm) (PySem.W.looks_findIn X hi) (λself=>PySem.W.bind_fn X self hf) (.inl rfl) h
end
def il(f:Str)(v:V):List (Str×V)->List (Str×V)
 | []=>[(f,v)]
 | (g,x)::r=>if g=f then (g,v)::r else (g,x)::il f v r
theorem lookup_putF(f g:Str)(v:V):∀fs:List (Str×V),(il f v fs).lookup g=if g=f then some v else fs.lookup g
 | []=>by
  show List.lookup g [(f,v)]=_
  by_cases h:g=f
  ·have hb:(g==f)=true:=beq_iff_eq.mpr h
   simp only[List.lookup,hb,if_pos h]
  ·have hb:(g==f)=false:=beq_eq_false_iff_ne.mpr h
   simp only[List.lookup,hb,if_neg h]
 | (k,x)::r=>by
  have ih:=lookup_putF f g v r
  rw[show il f v ((k,x)::r)=(if k=f then (k,v)::r else (k,x)::il f v r) from rfl]
  by_cases hk:k=f
  ·rw[if_pos hk]
   by_cases h:g=k
   ·have hb:(g==k)=true:=beq_iff_eq.mpr h
    simp only[List.lookup,hb,if_pos (h.trans hk)]
   ·have hb:(g==k)=false:=beq_eq_false_iff_ne.mpr h
    simp only[List.lookup,hb,if_neg (λe:g=f=>h (e.trans hk.symm))]
  ·rw[if_neg hk]
   by_cases h:g=k
   ·have hb:(g==k)=true:=beq_iff_eq.mpr h
    simp only[List.lookup,hb,if_neg (λe:g=f=>hk (h.symm.trans e))]
   ·have hb:(g==k)=false:=beq_eq_false_iff_ne.mpr h
    simp only[List.lookup,hb]
    exact ih
theorem keys_putF(f:Str)(v:V):∀fs:List (Str×V),f∈(il f v fs).map (·.1)/\∀g,g∈fs.map (·.1)->g∈(il f v fs).map (·.1)
 | []=>⟨by simp [il],λg h=>by simp at h⟩
 | (k,x)::r=>by
  obtain⟨i1,i2⟩:=keys_putF f v r
  rw[show il f v ((k,x)::r)=(if k=f then (k,v)::r else (k,x)::il f v r) from rfl]
  by_cases hk:k=f
  ·rw[if_pos hk]
   subst hk
   exact⟨by simp,λg h=>by simpa using h⟩
  ·rw[if_neg hk]
   refine⟨?_,λg h=>?_⟩
   ·rw[List.map_cons]
    exact List.mem_cons_of_mem _ i1
   ·rw[List.map_cons] at h ⊢
    rcases List.mem_cons.mp h with e | e
    ·exact List.mem_cons.mpr (.inl e)
    ·exact List.mem_cons_of_mem _ (i2 g e)
theorem length_putF(f:Str)(v:V):∀fs:List (Str×V),(il f v fs).length<=fs.length+1
 | []=>by simp [il]
 | (k,x)::r=>by
  have ih:=length_putF f v r
  rw[show il f v ((k,x)::r)=(if k=f then (k,v)::r else (k,x)::il f v r) from rfl]
  by_cases hk:k=f
  ·rw[if_pos hk,List.length_cons,List.length_cons];omega
  ·rw[if_neg hk,List.length_cons,List.length_cons];omega
theorem RelO.some_of{v:V}{o:Option Value}(r:RelO (some v) o):∃u,o=some u/\bS v u:=by
 cases o with
 | none=>exact(show False from r).elim
 | some u=>exact⟨u,rfl,r⟩
theorem RelO.none_of{o:Option Value}(r:RelO none o):o=none:=by
 cases o with
 | none=>rfl
 | some u=>exact(show False from r).elim
theorem handed_of{v:V}{u:Value}(r:bS v u):PySem.W.handedIn u=true:=by
 cases v with
 | non=>cases (show u=Value.none from r);rfl
 | bl b=>cases (show u=Value.bool b from r);rfl
 | int i=>obtain⟨t,e⟩:=(show ∃t,u=Value.int i t from r);cases e;rfl
 | str x=>obtain⟨t,e⟩:=(show ∃t,u=Value.str x t from r);cases e;rfl
 | byt b=>obtain⟨t,e⟩:=(show ∃t,u=Value.bytes b t from r);cases e;rfl
 | flt b=>obtain⟨t,e⟩:=(show ∃t,u=Value.float b t from r);cases e;rfl
 | ref a=>cases (show u=Value.ref a from r);rfl
 | ty n=>cases (show u=Value.type n from r);rfl
section
variable{P:Program}{w:World}{H H':Hp}{h h':Heap}{a C dx:Addr}{fs fs':List (Str×V)}
theorem ins_get(hok:HOk P w H h)(e:H a=some (.ins C dx fs)):∃mA,ObjM h a dx C mA/\(∀f,RelO (fs.lookup f) (mA f))/\PySem.Within mA (fs.map (·.1))/\fs.length<=1000/\H dx=some (.own a):=by
 obtain⟨d,z,ne,ob,mA,n,r,q⟩:=(show fR P w H h a (.ins C dx fs) from hok a _ e)
 exact⟨mA,⟨ob,n,ne⟩,r,q,z,d⟩
end
structure Cls(K:PySem.W.Frag)(C:Addr):Prop where
 pg:PySem.W.plainGet K C Str.empty=true
 hd:PySem.W.hasDictIn K C=true
 po:PySem.W.plainOver K C=true
 sa:PySem.W.findIn K (.ref C) "__setattr__" = some (some (.builtin "object.__setattr__"))
theorem Cls.get{K:PySem.W.Frag}{C:Addr}(c:Cls K C)(f:Str):PySem.W.plainGet K C f=true:=c.pg
def NoAttr(K:PySem.W.Frag)(C:Addr)(f:Str):Prop:=PySem.W.findIn K (.ref C) f=some none
theorem NoAttr.taker{K:PySem.W.Frag}{C:Addr}{f:Str}(n:NoAttr K C f):PySem.W.takerIn K C f=some none:=by
 unfold PySem.W.takerIn
 rw[show PySem.W.findIn K (.ref C) f=some none from n]
 rfl
structure Meth(K:PySem.W.Frag)(C:Addr)(m:Str)(f:Addr):Prop where
 at_:PySem.W.findIn K (.ref C) m=some (some (.ref f))
 fn:PySem.W.isFn K (.ref f)=true
 kp:PySem.W.keepIn K (.ref f)=true
section
variable{X:Cx}{pins:List (Addr×Obj)}{σ:St}{H:Hp}{s:Shared}{a C dx:Addr}{fs:List (Str×V)}{f:Str}{v:V}{A:Around}{E:Value->Shared->Prop}
theorem getattr_ok{b:Bool}{Q:Value->Shared->Prop}(I:Inv X pins σ H s)(e:H a=some (.ins C dx fs))(c:Cls X.K C)(n:NoAttr X.K C f)(l:fs.lookup f=some v)
  (h:∀u s',Inv X pins σ H s'->bS v u->Q u s'):wpAny (model X.prog X.w) A (getAttr (.ref a) f b) Q E s:=by
 obtain⟨mA,O,r,_,_,_⟩:=ins_get I.hok e
 obtain⟨u,hu,ru⟩:=RelO.some_of (v:=v) (o:=mA f) (by rw[<-l];exact r f)
 exact get_map I.kIn O (c.get f) c.hd n hu (handed_of ru) (h u _ (I.tok _) ru)
theorem getmeth_ok{m:Str}{g:Addr}{pl:Sem Bool}{Q:Value×List Value->Shared->Prop}(I:Inv X pins σ H s)(e:H a=some (.ins C dx fs))(c:Cls X.K C)(k:Meth X.K C m g)(l:fs.lookup m=none)
  (h:Q (.ref g,[.ref a]) s):wpAny (model X.prog X.w) A (getMethod (.ref a) m pl) Q E s:=by
 obtain⟨mA,O,r,_,_,_⟩:=ins_get I.hok e
 have hn:mA m=none:=RelO.none_of (by rw[<-l];exact r m)
 exact get_meth I.kIn O (c.get m) k.at_ k.fn hn h
theorem setattr_ok{y:V}{u:Value}{Q:Unit->Shared->Prop}(I:Inv X pins σ H s)(e:H a=some (.ins C dx fs))(c:Cls X.K C)(n:NoAttr X.K C f)(hl:fs.length<1000)(ry:bS y u)
  (h:∀s',Inv X pins σ (upd H a (.ins C dx (il f y fs))) s'->Q () s'):wpAny (model X.prog X.w) A (setAttr (.ref a) f u) Q E s:=by
 obtain⟨mA,O,r,wi,_,ho⟩:=ins_get I.hok e
 have hz:(fs.map (·.1)).length<=sizeLine:=by rw[List.length_map,sizeLine_eq];omega
 refine set_map I.kIn O c.sa c.po n.taker c.hd wi hz λh' O' sb=>h _ ?_
 have hd:∃o,h'.get? dx=some o:=let ⟨o,_,_,e',_⟩:=O'.ns;⟨o,e'⟩
 refine I.write (x:=a) (e:=dx) (by rw[e];exact True.intro) (.inr ho) (λb q hb z=>(sb.2 b hb).trans z) hd ?_
 refine⟨by rw[upd_ne O.ne];exact ho,?_,O.ne,O'.obj,_,O'.ns,λg=>?_,λg hg=>?_⟩
 ·have:=length_putF f y fs;omega
 ·show RelO ((il f y fs).lookup g) (if g=f then some u else mA g)
  rw[lookup_putF]
  by_cases q:g=f
  ·rw[if_pos q,if_pos q];exact ry
  ·rw[if_neg q,if_neg q];exact r g
 ·by_cases q:g=f
  ·rw[q];exact(keys_putF f y fs).1
  ·refine(keys_putF f y fs).2 g (wi g λz=>hg ?_)
   show(if g=f then some u else mA g)=none
   rw[if_neg q];exact z
theorem Inv.made(I:Inv X pins σ H s):Inv X pins σ (upd (upd H s.heap.objs.size (.own (s.heap.objs.size+1))) (s.heap.objs.size+1) (.ins C s.heap.objs.size []))
  { s with heap:=(s.heap.push PySem.W.emptyDict).push (PySem.W.instObj C s.heap.objs.size) }:=by
 have e1:(s.heap.push PySem.W.emptyDict).get? s.heap.objs.size=some PySem.W.emptyDict:=Heap.get?_push_size s.heap rfl
 have e2:((s.heap.push PySem.W.emptyDict).push (PySem.W.instObj C s.heap.objs.size)).get? (s.heap.objs.size+1)=some (PySem.W.instObj C s.heap.objs.size):=by
  have:=Heap.get?_push_size (s.heap.push PySem.W.emptyDict) (o:=PySem.W.instObj C s.heap.objs.size) rfl
  rwa[Heap.size_push] at this
 have e3:(s.heap.push PySem.W.emptyDict).Ns s.heap.objs.size (λ_=>none):=⟨PySem.W.emptyDict,#[],_,e1,rfl,(λe he=>absurd he (by simp)),λ_=>rfl⟩
 have I1:=I.laid (a:=s.heap.objs.size) (o:=.own (s.heap.objs.size+1)) (h':=s.heap.push PySem.W.emptyDict) (t':=s.toks) (λb u q=>Heap.get?_push_of_some _ q) (Nat.le_refl _) ⟨_,e1⟩
 refine I1.laid (a:=s.heap.objs.size+1) (o:=.ins C s.heap.objs.size []) (t':=s.toks) (λb u q=>Heap.get?_push_of_some _ q) (Nat.le_of_eq (Heap.size_push _ _)) ?_
 have ne:s.heap.objs.size≠s.heap.objs.size+1:=Nat.ne_of_lt (Nat.lt_succ_self _)
 refine⟨by rw[upd_ne ne,aP],Nat.zero_le _,ne,e2,λ_=>none,(Heap.Ns1.of_empty e3).at λo q=>Heap.get?_push_of_some _ q,λ_=>True.intro,λy hy=>absurd rfl hy⟩
theorem attr_of{prog:Program}{w:World}{env:Env}{e:Expr}{f:Str}{pos:Pos}{s:Shared}{Q:Value->Shared->Prop}(hb:attributeBase e f env (eval e env)=eval e env)
  (h:wpAny (model prog w) A (eval e env) (λo s₁=>wpAny (model prog w) A (getAttr o f true) Q E s₁) E s):wpAny (model prog w) A (eval (.Attribute e f pos) env) Q E s :=
 Attribute_any_ h (by rw[arm_eval_Attribute,hb])
end
def tFld(K:PySem.W.Frag)(ta:TE)(f:Str):TE:=λσ H Q=>ta σ H λx H1=>∃a C dx fs v,x=.ref a/\H1 a=some (.ins C dx fs)/\Cls K C/\NoAttr K C f/\fs.lookup f=some v/\Q v H1
def sFld(K:PySem.W.Frag)(ta tv:TE)(f:Str):TS:=λD σ H=>tv σ H λy H1=>ta σ H1 λx H2=>∃a C dx fs,x=.ref a/\H2 a=some (.ins C dx fs)/\Cls K C/\NoAttr K C f/\fs.length<1000 /\
 D.nx σ (upd H2 a (.ins C dx (il f y fs)))
section
variable{X:Cx}{o e value:Expr}{f:Str}{pos pos' tpos:Pos}{ta tv:TE}
theorem pe_fld(he:PE X e ta)(hb:attributeBase e f X.env (eval e X.env)=eval e X.env):PE X (.Attribute e f pos) (tFld X.K ta f):=by
 intro pins s σ H Q I h
 refine attr_of hb (thn (he pins s σ H _ I h) λu s1 ⟨x,H1,I1,rx,a,C,dx,fs,v,ex,ea,c,n,l,q⟩=>?_)
 subst ex
 obtain rfl:u=Value.ref a:=rx
 exact getattr_ok I1 ea c n l λu' s2 I2 ru=>⟨v,H1,I2,ru,q⟩
theorem ps_fld(ha:PE X o ta)(hv:PE X value tv)(hs:swapsWith value (some (.Attribute o f pos')) pos.line X.env=pure false):PS X (.Assign [.Attribute o f pos'] value pos) (sFld X.K ta tv f):=by
 intro pins s σ H D I h
 refine plainObj_wpAny_Assign_Attribute (thn (hv pins s σ H _ I h) λu s1 ⟨y,H1,I1,ry,q⟩=>thn (ha pins s1 σ H1 _ I1 q) λov s2 ⟨x,H2,I2,rx,a,C,dx,fs,ex,ea,c,n,l,q2⟩=>?_) hs
 subst ex
 obtain rfl:ov=Value.ref a:=rx
 exact setattr_ok I2 ea c n l ry λs3 I3=>⟨σ,_,I3,q2⟩
end
section
variable{X:Cx}{pins:List (Addr×Obj)}{σ:St}{H:Hp}{s:Shared}{A:Around}{E:Value->Shared->Prop}{Q:Value->Shared->Prop}{c:Value}{b:Bool}
end
end L2
namespace L2
open PySem PySem.Spec PyProof.Rows
structure Room(k:Nat)(A:Around):Prop where
 hd:A.handled=none
 dp:A.depth+3*k+5<recursionLimit
 un:A.units+16*k+200<cLine
theorem Room.mono{j k:Nat}{A:Around}(r:Room k A)(h:j<=k):Room j A:=⟨r.hd,by have:=r.dp;omega,by have:=r.un;omega⟩
theorem Room.deeper{k:Nat}{A:Around}(r:Room (k+1) A)(env:Env):Room k (A.deeper env) :=
 ⟨r.hd,by have:=r.dp;show A.depth+1+3*k+5<_;omega,by have:=r.un;show A.units+3+16*k+200<_;omega⟩
theorem make_depth{A:Around}{C:Addr}{us:List Value}{kw:List (Str×Value)}:(A.under (.builtin "type.__call__" ⟨.ref C::us,kw⟩)).depth=A.depth+1:=by
 first | rfl | simp [Around.under,Code.weight,Code.isCreation,Code.isGuard,Code.isCaller,Code.frames,Code.isFrame,guardIds]
theorem make_units{A:Around}{C:Addr}{us:List Value}{kw:List (Str×Value)}:(A.under (.builtin "type.__call__" ⟨.ref C::us,kw⟩)).units=A.units+1:=by
 first | rfl | simp [Around.under,Code.cUnits,Code.frames,Code.isFrame]
theorem Room.make{k:Nat}{A:Around}(r:Room (k+1) A)(C:Addr)(us:List Value)(kw:List (Str×Value)):Room k (A.under (.builtin "type.__call__" ⟨.ref C::us,kw⟩)) :=
 ⟨r.hd,by have:=r.dp;rw[make_depth];omega,by have:=r.un;rw[make_units];omega⟩
theorem Room.depth{k:Nat}{A:Around}(r:Room k A):A.depth<recursionLimit:=by have:=r.dp;omega
theorem Room.units{k:Nat}{A:Around}(r:Room k A):A.units+64<cLine:=by have:=r.un;omega
def tNil:TA:=λ_ H Q=>Q [] H
def tCons(ta:TE)(tr:TA):TA:=λσ H Q=>ta σ H λx H1=>tr σ H1 λxs H2=>Q (x::xs) H2
section
variable{X:Cx}{e:Expr}{es:List Expr}{te:TE}{t:TA}{pos:Pos}
theorem pa_nil:PA X [] tNil:=λ_ _ _ _ H Q I h=>Calls.spliced_nil ⟨[],H,I,.nil,h⟩
theorem gp(ha:PE X e te)(hr:PA X es t)(hs:starEach (e::es) X.env=(false,eval e X.env)::starEach es X.env:=by rfl):PA X (e::es) (tCons te t):=by
 intro pos pins s σ H Q I h
 rw[hs]
 show wpAny _ _ (spliced ((false,eval e X.env)::backTo pos (starEach es X.env))) _ _ s
 refine Calls.spliced_cons (thn (ha pins s σ H _ I h) λu s1 ⟨x,H1,I1,r1,q1⟩=>?_)
 exact thn (hr pos pins s1 σ H1 _ I1 q1) λus s2 ⟨xs,H2,I2,r2,q2⟩=>⟨x::xs,H2,I2,.cons r1 r2,q2⟩
def tTup(t:TA):TE:=λσ H Q=>t σ H λxs H1=>xs.length<=sizeLine/\∀p,H1 p=none->Q (.ref p) (upd H1 p (.tup xs))
def tLst(t:TA):TE:=λσ H Q=>t σ H λxs H1=>xs.length<=sizeLine/\∀p,H1 p=none->Q (.ref p) (upd H1 p (.lst xs))
theorem pe_tup{x1}(h:PA X es t):PE X (.Tuple es x1 pos) (tTup t):=by
 intro pins s σ H Q I hq
 refine wpAny_Tuple_spliced (thn (h pos pins s σ H _ I hq) λus s1 ⟨xs,H1,I1,r,z,q⟩=>⟨by rw[<-r.length];exact z,?_⟩)
 have hf:H1 s1.heap.objs.size=none:=I1.hok.fresh (Nat.le_refl _)
 refine⟨.ref s1.heap.objs.size,upd H1 s1.heap.objs.size (.tup xs),I1.laid (t':=s1.toks) (λb u e=>Heap.get?_push_of_some _ e) (Nat.le_refl _) ?_,rfl,q _ hf⟩
 exact⟨z,us,r,⟨_,Heap.get?_push_size _ rfl,rfl,_,rfl⟩⟩
theorem pe_lst(h:PA X es t):PE X (.List es pos) (tLst t):=by
 intro pins s σ H Q I hq
 refine wpAny_List_spliced (thn (h pos pins s σ H _ I hq) λus s1 ⟨xs,H1,I1,r,z,q⟩=>⟨by rw[<-r.length];exact z,?_⟩)
 have hf:H1 s1.heap.objs.size=none:=I1.hok.fresh (Nat.le_refl _)
 refine⟨.ref s1.heap.objs.size,upd H1 s1.heap.objs.size (.lst xs),I1.laid (t':=s1.toks) (λb u e=>Heap.get?_push_of_some _ e) (Nat.le_refl _) ?_,rfl,q _ hf⟩
 exact⟨z,us,0,r,Heap.get?_push_size _ rfl⟩
end
abbrev Sp:=List V->Hp->VK->XK->Prop
abbrev CXT:=List Env->Hp->Shared->XK->Value->Shared->Prop
structure Env0(P:Program)(w:World)(K:PySem.W.Frag)(mg:Str->Option Value)(base:Heap)(A:Around)(outer:List Env)(s:Shared)(H:Hp):Prop where
 frames:A.frames=some outer
 mod:Mod K mg base
 bs:∀b o,base.get? b=some o->s.heap.get? b=some o/\H b=none
 bsz:base.objs.size<=s.heap.objs.size
 funs:s.heap.FunFrames base outer
 frf:∀b∈frs outer,H b=none
 hok:HOk P w H s.heap
 bare:AllBare s.gens
def CE(outer:List Env)(P:Program)(w:World)(H:Hp)(s:Shared)(Q:VK)(u:Value)(s':Shared):Prop :=
 ∃v H',s'.os=s.os/\AllBare s'.gens/\Un (frs outer) [] H H' s.heap s'.heap/\HOk P w H' s'.heap/\bS v u/\Q v H'
def CR(CX:CXT)(outer:List Env)(P:Program)(w:World)(H:Hp)(s:Shared)(Q:VK)(E:XK)(r:Result)(s':Shared):Prop :=
 match r with
 | .ok (.ret u)=>CE outer P w H s Q u s'
 | .ok _=>False
 | .error e=>CX outer H s E e s'
structure FnOk(P:Program)(w:World)(K:PySem.W.Frag)(mg:Str->Option Value)(base:Heap)(CX:CXT)(k:Nat)(f:Addr)(fd:FuncData)(ps:List Str)(sp:Sp):Prop where
 len:∀vs H Q E,sp vs H Q E->vs.length=ps.length
 run:∀(A:Around) (outer:List Env) (s:Shared) (H:Hp) (args:Args) (us:List Value) (vs:List V) (Q:VK) (E:XK),Room k A->Env0 P w K mg base A outer s H->BindsTo s fd args (ps.zip us)->aU vs us->sp vs H Q E ->
  codeAny (model P w) A (.call (.ref f) args) (CR CX outer P w H s Q E) s
theorem FnOk.imp{P:Program}{w:World}{K:PySem.W.Frag}{mg:Str->Option Value}{base:Heap}{CX:CXT}{k:Nat}{f:Addr}{fd:FuncData}{ps:List Str}{sp sp':Sp}(F:FnOk P w K mg base CX k f fd ps sp)
  (h:∀vs H Q E,sp' vs H Q E->sp vs H Q E):FnOk P w K mg base CX k f fd ps sp' :=
 ⟨λvs H Q E q=>F.len vs H Q E (h _ _ _ _ q),λA outer s H args us vs Q E hr he hb hv hs=>F.run A outer s H args us vs Q E hr he hb hv (h _ _ _ _ hs)⟩
theorem Env0.make{P:Program}{w:World}{K:PySem.W.Frag}{mg:Str->Option Value}{base:Heap}{A:Around}{outer:List Env}{s:Shared}{H:Hp}(e:Env0 P w K mg base A outer s H)(C:Addr)(us:List Value)(kw:List (Str×Value)) :
  Env0 P w K mg base (A.under (.builtin "type.__call__" ⟨.ref C::us,kw⟩)) outer s H:=⟨by first | exact e.frames | (simpa [Around.under,Code.envs,Code.isFrame,pushEnvs] using e.frames),e.mod,e.bs,e.bsz,e.funs,e.frf,e.hok,e.bare⟩
section
variable{X:Cx}{pins:List (Addr×Obj)}{σ:St}{H:Hp}{s s':Shared}
theorem Inv.env0(I:Inv X pins σ H s):Env0 X.prog X.w X.K X.mg X.base X.A X.stack s H :=
 ⟨I.ok.frames,I.ok.mod,I.bs,Nat.le_trans I.ok.bsz I.sz,I.stack,I.stkFree,I.hok,I.bare⟩
theorem Inv.after{Q:VK}{u:Value}(I:Inv X pins σ H s)(h:CE X.stack X.prog X.w H s Q u s'):EP X pins σ Q u s':=by
 obtain⟨v,H',os,bare,un,hok,r,q⟩:=h
 obtain⟨hh,g,d,t,os'⟩:=s'
 obtain rfl:os'=s.os:=os
 exact⟨v,H',I.call (h':=hh) (g':=g) (d':=d) (t':=t) (ch:=[]) un hok bare (λb z=>absurd z (by simp)),r,q⟩
end
def tCall(sp:Sp)(dvs:List V)(E:XK)(t:TA):TE:=λσ H Q=>t σ H λvs H1=>sp (vs++dvs) H1 Q E
def tMeth(C:Addr)(m:Str)(sp:Sp)(dvs:List V)(E:XK)(ta:TE)(t:TA):TE:=λσ H Q=>ta σ H λx H1=>∃a dx fs,x=.ref a/\H1 a=some (.ins C dx fs)/\fs.lookup m=none /\
 t σ H1 λvs H2=>sp (x::(vs++dvs)) H2 Q E
def tMake(C:Addr)(sp:Sp)(dvs:List V)(E:XK)(t:TA):TE:=λσ H Q=>t σ H λvs H1=>∀x dx,H1 x=none->H1 dx=none->dx≠x ->
 sp (.ref x::(vs++dvs)) (upd (upd H1 dx (.own x)) x (.ins C dx [])) (λv H2=>v=.non/\Q (.ref x) H2) E
def fU(K:PySem.W.Frag)(fd:FuncData)(ps:List Str)(ds:List Value):Prop :=
 ∀(s:Shared) (us:List Value),K.In s.heap->(us++ds).length=ps.length->BindsTo s fd ⟨us,[]⟩ (ps.zip (us++ds))
theorem fU.all{K:PySem.W.Frag}{fd:FuncData}{ps:List Str}(h:∀us:List Value,us.length=ps.length->bindArgs fd ⟨us,[]⟩=pure (ps.zip us)):fU K fd ps []:=λs us _ hl=>by
 rw[List.append_nil] at hl ⊢
 exact .of_eq (h us hl)
def Passes(CX:CXT)(X:Cx)(E:XK):Prop:=∀(pins:List (Addr×Obj)) (σ:St) (H:Hp) (s:Shared) (e:Value) (s':Shared),Inv X pins σ H s->CX X.stack H s E e s'->X.xe e s'
section
variable{X:Cx}{CX:CXT}{k:Nat}{f C:Addr}{fd:FuncData}{ps:List Str}{sp:Sp}{dvs:List V}{ds:List Value}{E:XK}{x m:Str}{p pos apos:Pos}{e o:Expr}{es:List Expr}{ta:TE}{t:TA}
theorem run_fn{pins:List (Addr×Obj)}{σ:St}{H:Hp}{s:Shared}{Q:VK}{us:List Value}{vs:List V}(F:FnOk X.prog X.w X.K X.mg X.base CX k f fd ps sp)(hr:Room k X.A)(hb:fU X.K fd ps ds)(hd:aU dvs ds)(hx:Passes CX X E)
  (I:Inv X pins σ H s) (r:aU vs us) (h:sp (vs++dvs) H Q E):wpAny (model X.prog X.w) X.A (call (.ref f) us) (EP X pins σ Q) X.xe s:=by
 have r2:aU (vs++dvs) (us++ds):=r.append hd
 have hl:(us++ds).length=ps.length:=by rw[<-r2.length];exact F.len _ _ _ _ h
 refine wpAny_call (codeAny_mono (F.run X.A X.stack s H ⟨us,[]⟩ (us++ds) (vs++dvs) Q E hr I.env0 (hb s us I.kIn hl) r2 h) λr s' hq=>?_)
 cases r with
 | error e=>exact hx pins σ H s e s' I hq
 | ok fl =>
  cases fl with
  | ret u=>exact I.after hq
  | next=>exact False.elim hq
  | brk=>exact False.elim hq
  | cont=>exact False.elim hq
theorem pe_call(F:FnOk X.prog X.w X.K X.mg X.base CX k f fd ps sp)(hr:Room k X.A)(hg:Gl X x)(hm:X.mg x=some (.ref f))(hk:PySem.W.keepIn X.K (.ref f)=true)(hb:fU X.K fd ps ds)(hd:aU dvs ds)(hx:Passes CX X E)
  (ha:PA X (e::es) t) (hdb:(x==("__debug__" : Str))=false:=by decide) (he:starEach (e::es) X.env=(false,eval e X.env)::starEach es X.env:=by rfl) (hpl:(backTo pos (starEach es X.env)).any (·.1)=false:=by rfl) :
  PE X (.Call (.Name x p) (e::es) [] pos) (tCall sp dvs E t):=by
 intro pins s σ H Q I h
 refine wpAny_Call_Name_kw (ld_glob I hg hm ?_ hdb)
 refine PySem.W.callWith_K (h₀:=X.base) I.ok.mod.kin hk (thn (ha pos pins s σ H _ I h) λus s1 ⟨vs,H1,I1,r,q⟩=>⟨I1.kIn,?_⟩) he hpl
 exact run_fn F hr hb hd hx I1 r q
theorem pe_meth{pl:Sem Bool}(he:PE X o ta)(c:Cls X.K C)(hm:Meth X.K C m f)(F:FnOk X.prog X.w X.K X.mg X.base CX k f fd ps sp)(hr:Room k X.A)(hb:fU X.K fd ps ds)(hd:aU dvs ds)(hx:Passes CX X E)(ha:PA X (e::es) t)
  (hst:starEach (e::es) X.env=(false,eval e X.env)::starEach es X.env:=by rfl) (hpl:(backTo pos (starEach es X.env)).any (·.1)=false:=by rfl)
  (ht:eval (.Call (.Attribute o m apos) (e::es) [] pos) X.env=(do
   let ov <- eval o X.env
   standAt apos.atName
   let (f,first) <- holding [ov] (getMethod ov m pl)
   callWith pos f first (backTo pos (starEach (e::es) X.env)) (backToKw pos (keywordEach [] X.env))):=by rfl) :
  PE X (.Call (.Attribute o m apos) (e::es) [] pos) (tMeth C m sp dvs E ta t):=by
 intro pins s σ H Q I h
 refine PySem.W.methodCall_KW (pl:=pl) (thn (he pins s σ H _ I h) λu s1 ⟨x,H1,I1,rx,a,dx,fs,ex,ea,l,q⟩=>?_) ht
 subst ex
 obtain rfl:u=Value.ref a:=rx
 refine getmeth_ok I1 ea c hm l ?_
 refine PySem.W.callWith_K (first:=[.ref a]) (h₀:=X.base) I.ok.mod.kin hm.kp (thn (ha pos pins s1 σ H1 _ I1 q) λus s2 ⟨vs,H2,I2,r,q2⟩=>⟨I2.kIn,?_⟩) hst hpl
 exact run_fn (us:=.ref a::us) (vs:=.ref a::vs) F hr hb hd hx I2 (.cons rfl r) q2
theorem pe_meth0{pl:Sem Bool}(he:PE X o ta)(c:Cls X.K C)(hm:Meth X.K C m f)(F:FnOk X.prog X.w X.K X.mg X.base CX k f fd ps sp)(hr:Room k X.A)(hb:fU X.K fd ps ds)(hd:aU dvs ds)(hx:Passes CX X E)
  (ht:eval (.Call (.Attribute o m apos) [] [] pos) X.env=(do
   let ov <- eval o X.env
   standAt apos.atName
   let (f,first) <- holding [ov] (getMethod ov m pl)
   callWith pos f first (backTo pos (starEach [] X.env)) (backToKw pos (keywordEach [] X.env))):=by rfl) :
  PE X (.Call (.Attribute o m apos) [] [] pos) (tMeth C m sp dvs E ta tNil):=by
 intro pins s σ H Q I h
 refine PySem.W.methodCall_KW (pl:=pl) (thn (he pins s σ H _ I h) λu s1 ⟨x,H1,I1,rx,a,dx,fs,ex,ea,l,q⟩=>?_) ht
 subst ex
 obtain rfl:u=Value.ref a:=rx
 refine getmeth_ok I1 ea c hm l ?_
 exact PySem.W.callWith_K0 (first:=[.ref a]) I1.kIn hm.kp (run_fn (us:=[.ref a]) (vs:=[.ref a]) F hr hb hd hx I1 (.cons rfl .nil) q)
structure Mk(K:PySem.W.Frag)(C f:Addr):Prop where
 makes:PySem.W.makesIn K C=true
 init:PySem.W.findIn K (.ref C) "__init__" = some (some (.ref f))
 fn:PySem.W.isFn K (.ref f)=true
 kp:PySem.W.keepIn K (.ref C)=true
theorem run_make{pins:List (Addr×Obj)}{σ:St}{H:Hp}{s:Shared}{Q:VK}{us:List Value}{vs:List V}(M:Mk X.K C f)(F:FnOk X.prog X.w X.K X.mg X.base CX k f fd ps sp)(hr:Room (k+1) X.A)(hb:fU X.K fd ps ds)(hd:aU dvs ds)
  (hx:Passes CX X E) (I:Inv X pins σ H s) (r:aU vs us)
  (h:∀x dx,H x=none->H dx=none->dx≠x->sp (.ref x::(vs++dvs)) (upd (upd H dx (.own x)) x (.ins C dx [])) (λv H2=>v=.non/\Q (.ref x) H2) E) :
  wpAny (model X.prog X.w) X.A (call (.ref C) us) (EP X pins σ Q) X.xe s:=by
 have hq:=h (s.heap.objs.size+1) s.heap.objs.size (I.hok.fresh (Nat.le_succ _)) (I.hok.fresh (Nat.le_refl _)) (Nat.ne_of_lt (Nat.lt_succ_self _))
 have I2:=Inv.made (C:=C) I
 have r2:aU (V.ref (s.heap.objs.size+1)::(vs++dvs)) (Value.ref (s.heap.objs.size+1)::(us++ds)):=.cons rfl (r.append hd)
 have hl:(Value.ref (s.heap.objs.size+1)::us++ds).length=ps.length:=by
  have e:=r2.length
  rw[F.len _ _ _ _ hq] at e
  exact e.symm
 refine wpAny_call (make_map (f:=f) I.kIn M.makes M.init (beq_iff_eq.mp M.fn) (codeAny_mono (F.run _ X.stack _ _ ⟨Value.ref (s.heap.objs.size+1)::us,[]⟩ (Value.ref (s.heap.objs.size+1)::(us++ds)) _ _ E (hr.make C us [])
  (I2.env0.make C us []) (hb _ (Value.ref (s.heap.objs.size+1)::us) I2.kIn hl) r2 hq) λr s' hq'=>?_))
 cases r with
 | error e=>exact hx pins σ _ _ e s' I2 hq'
 | ok fl =>
  cases fl with
  | ret u =>
   obtain⟨v,H',I3,rv,ev,q3⟩:=I2.after hq'
   subst ev
   exact⟨rv,⟨V.ref (s.heap.objs.size+1),H',I3,rfl,q3⟩⟩
  | next=>exact False.elim hq'
  | brk=>exact False.elim hq'
  | cont=>exact False.elim hq'
theorem pe_make(M:Mk X.K C f)(F:FnOk X.prog X.w X.K X.mg X.base CX k f fd ps sp)(hr:Room (k+1) X.A)(hg:Gl X x)(hm:X.mg x=some (.ref C))(hb:fU X.K fd ps ds)(hd:aU dvs ds)(hx:Passes CX X E)
  (ha:PA X (e::es) t) (hdb:(x==("__debug__" : Str))=false:=by decide) (he:starEach (e::es) X.env=(false,eval e X.env)::starEach es X.env:=by rfl) (hpl:(backTo pos (starEach es X.env)).any (·.1)=false:=by rfl) :
  PE X (.Call (.Name x p) (e::es) [] pos) (tMake C sp dvs E t):=by
 intro pins s σ H Q I h
 refine wpAny_Call_Name_kw (ld_glob I hg hm ?_ hdb)
 refine PySem.W.callWith_K (h₀:=X.base) I.ok.mod.kin M.kp (thn (ha pos pins s σ H _ I h) λus s1 ⟨vs,H1,I1,r,q⟩=>⟨I1.kIn,?_⟩) he hpl
 exact run_make M F hr hb hd hx I1 r q
end
section
variable{X:Cx}{CX:CXT}{k:Nat}{f C:Addr}{fd:FuncData}{ps ks:List Str}{sp:Sp}{E:XK}{x m:Str}{p pos apos kpos:Pos}{e o:Expr}{es:List Expr}{kws:List Keyword}{te ta:TE}{t tk:TA}{nm:Option Str}
variable{g:List Value->List Value->List Value}{gV:List V->List V->List V}
end
structure FnScope(N P:List Str)(sc:Scope):Prop where
 kind:sc.kind=.function
 co:sc.isCoroutine=false
 gen:sc.isGenerator=false
 nd:N.Nodup
 pre:N.take P.length=P
 par:∀x∈P,sc.names.lookup x=some .local\/sc.names.lookup x=some .cell
 nofree:∀y∈sc.names,y.2≠.free
theorem bindL_out{kindOf:Str->Option NameKind}{x:Str}:∀{binds:List (Str×Value)} {m:Str->Option Value},(∀v,(x,v)∉binds)->bindL kindOf binds m x=m x
 | [],_,_=>rfl
 | (n,v)::r,m,h=>by
  unfold bindL
  rw[bindL_out λw hw=>h w (List.mem_cons_of_mem _ hw)]
  split
  ·have:x≠n:=by rintro rfl;exact h v List.mem_cons_self
   simp [this]
  ·rfl
theorem bindC_out{kindOf:Str->Option NameKind}{x:Str}:∀{binds:List (Str×Value)} {m:Str->Option Value},(∀v,(x,v)∉binds)->bindC kindOf binds m x=m x
 | [],_,_=>rfl
 | (n,v)::r,m,h=>by
  unfold bindC
  rw[bindC_out λw hw=>h w (List.mem_cons_of_mem _ hw)]
  split
  ·rfl
  ·have:x≠n:=by rintro rfl;exact h v List.mem_cons_self
   simp [this]
theorem bindL_get{kindOf:Str->Option NameKind}{x:Str}{v:Value}:∀{P:List Str} {vs:List Value} {i:Nat} {m:Str->Option Value},P.Nodup->P[i]?=some x->vs[i]?=some v->kindOf x=some .local ->
  bindL kindOf (P.zip vs) m x=some v
 | [],_,_,_,_,h,_,_=>by simp at h
 | _::_,[],_,_,_,_,h,_=>by simp at h
 | p::P,w::vs,0,m,nd,h1,h2,hk=>by
  simp at h1 h2;subst h1;subst h2
  show bindL kindOf ((p,w)::P.zip vs) m p=_
  unfold bindL
  rw[bindL_out λv hv=>(List.nodup_cons.mp nd).1 (List.of_mem_zip hv).1,if_pos hk]
  simp
 | p::P,w::vs,i+1,m,nd,h1,h2,hk=>by
  show bindL kindOf ((p,w)::P.zip vs) m x=_
  unfold bindL
  exact bindL_get (i:=i) (List.nodup_cons.mp nd).2 (by simpa using h1) (by simpa using h2) hk
theorem bindC_get{kindOf:Str->Option NameKind}{x:Str}{v:Value}:∀{P:List Str} {vs:List Value} {i:Nat} {m:Str->Option Value},P.Nodup->P[i]?=some x->vs[i]?=some v->kindOf x≠some .local ->
  bindC kindOf (P.zip vs) m x=some v
 | [],_,_,_,_,h,_,_=>by simp at h
 | _::_,[],_,_,_,_,h,_=>by simp at h
 | p::P,w::vs,0,m,nd,h1,h2,hk=>by
  simp at h1 h2;subst h1;subst h2
  show bindC kindOf ((p,w)::P.zip vs) m p=_
  unfold bindC
  rw[bindC_out λv hv=>(List.nodup_cons.mp nd).1 (List.of_mem_zip hv).1,if_neg hk]
  simp
 | p::P,w::vs,i+1,m,nd,h1,h2,hk=>by
  show bindC kindOf ((p,w)::P.zip vs) m x=_
  unfold bindC
  exact bindC_get (i:=i) (List.nodup_cons.mp nd).2 (by simpa using h1) (by simpa using h2) hk
def fN(N:List Str)(vs:List V):St:=vs.map some++List.replicate (N.length-vs.length) none
def cxOf(CX:CXT)(P:Program)(w:World)(K:PySem.W.Frag)(mg:Str->Option Value)(base:Heap)(N:List Str)(qual:Str)(scope:Scope)(f:Addr)(cd:Value)(A:Around)(outer:List Env)(s:Shared)(H:Hp)(E:XK):Cx where
 prog:=P
 w:=w
 K:=K
 mg:=mg
 base:=base
 A:=A.deeper (envOfC qual scope s.heap.objs.size f cd)
 N:=N
 s₀:=s
 H₀:=H
 env:=envOfC qual scope s.heap.objs.size f cd
 outer:=outer
 stack:=envOfC qual scope s.heap.objs.size f cd::outer
 ex:=[]
 calm:=true
 fn:=λ_=>true
 pn:=[]
 xe:=λe s'=>wpAny (model P w) (A.deeper (envOfC qual scope s.heap.objs.size f cd)) (leaving (envOfC qual scope s.heap.objs.size f cd) e) (λ_ s''=>CX outer H s E e s'') (λe' s''=>CX outer H s E e' s'') s'
theorem cell_has{sc:Scope}{n:Nat}{x:Str}(h:sc.names.lookup x=some .cell):∃c,(cellsFrom n sc.names []).lookup x=some c:=by
 have q:=PySem.W.cellsFrom_some sc.names n [] (.inl h)
 exact Option.isSome_iff_exists.mp q
theorem inv_start{CX:CXT}{P:Program}{w:World}{K:PySem.W.Frag}{mg:Str->Option Value}{base:Heap}{N ps:List Str}{qual:Str}{scope:Scope}{f:Addr}{cd:Value}{A:Around}{outer:List Env}{s s1:Shared}{H:Hp}{E:XK}{us:List Value}{vs:List V}
  (S:FnScope N ps scope) (hd:A.handled=none) (e0:Env0 P w K mg base A outer s H) (hl:vs.length=ps.length) (r:aU vs us)
  (x:InCallC s s.heap.objs.size (bindL (envOfC qual scope s.heap.objs.size f cd).kindOf (ps.zip us) λ_=>none) (cellsFrom (s.heap.objs.size+1) scope.names []) (bindC (envOfC qual scope s.heap.objs.size f cd).kindOf (ps.zip us) λ_=>none) s1) :
  Inv (cxOf CX P w K mg base N qual scope f cd A outer s H E) [] (fN N vs) H s1:=by
 have hpl:ps.length<=N.length:=by have:=congrArg List.length S.pre;rw[List.length_take] at this;omega
 obtain⟨h1,tk,rfl,hk⟩:=x.done
 have noA:∀b:Addr,b∉(cxOf CX P w K mg base N qual scope f cd A outer s H E).ex:=λb z=>absurd (show b∈([]:List Addr) from z) (by simp)
 refine⟨⟨e0.mod,S.kind,rfl,rfl,Nat.le_refl _,λy z c h1 h2=>?_,λy hy=>?_,λy c _ h=>?_,λ_=>hd,Around.frames_deeper e0.frames,.inr ⟨rfl,rfl⟩,λb z=>absurd z (noA b),e0.bs,e0.bsz,λb _ _=>noA b,λb z=>absurd z (noA b),e0.funs,e0.frf⟩,
  rfl,e0.bare,Un.kept hk,⟨_,x.toInCall.ns,λi y v h1 h2 h3=>?_⟩,λy c h=>⟨_,x.cell y c h⟩,e0.hok.fresh (Nat.le_refl _),λy c h=>?_,λp hp=>absurd (show p∈([]:List (Addr×Obj)) from hp) (by simp),e0.hok.kept hk,?_⟩
 ·exact name_of_addr x.apart (PySem.mem_of_lookup h1) (PySem.mem_of_lookup h2)
 ·have hy:scope.names.lookup y=some .cell\/scope.names.lookup y=some .free:=hy
  rcases hy with hy | hy
  ·exact cell_has hy
  ·exact absurd rfl (S.nofree _ (PySem.mem_of_lookup hy))
 ·exact Nat.le_of_lt (x.above y c (PySem.mem_of_lookup h))
 ·have hi:i<vs.length:=by
   unfold fN at h2
   by_cases hi:i<vs.length
   ·exact hi
   ·rw[List.getElem?_append_right (by simpa using hi)] at h2
    rw[List.getElem?_replicate] at h2
    split at h2<;>cases h2
  have ha:vs[i]?=some v:=by
   unfold fN at h2
   rw[List.getElem?_append_left (by simpa using hi),List.getElem?_map] at h2
   cases e:vs[i]? with
   | none=>rw[e] at h2;cases h2
   | some a=>rw[e] at h2;cases h2;rfl
  obtain⟨u,hu,rv⟩:=r.get ha
  have hp:ps[i]?=some y:=by
   rw[<-S.pre,List.getElem?_take_of_lt (by omega)];exact h1
  have ndP:ps.Nodup:=by rw[<-S.pre];exact S.nd.sublist (List.take_sublist _ _)
  refine⟨u,rv,?_⟩
  rcases S.par y (List.mem_of_getElem? hp) with k | k
  ·exact .inl ⟨k,bindL_get ndP hp hu k⟩
  ·obtain⟨c,e⟩:=cell_has (n:=s.heap.objs.size+1) k
   refine .inr ⟨.inl k,c,e,?_⟩
   have q:=x.cell y c e
   rw[bindC_get ndP hp hu (by show scope.names.lookup y≠_;rw[k];decide)] at q
   exact q
 ·exact e0.hok.fresh (Nat.le_of_lt (x.above y c (PySem.mem_of_lookup h)))
 ·unfold fN
  show _=N.length
  rw[List.length_append,List.length_map,List.length_replicate]
  omega
theorem fn_of{CX:CXT}{P:Program}{w:World}{K:PySem.W.Frag}{mg:Str->Option Value}{base:Heap}{k:Nat}{f:Addr}{name qual:Str}{params:Arguments}{body:List Stmt}{scope:Scope}{dV kV doc pm cdv ct oc:Value}{an od:Option Addr}
  {osl:Array (Option Value)} {N ps:List Str} {sp:Sp} (lk:K.lookup f=some ⟨oc,od,.func (PySem.W.fnOf name qual params body scope dV kV doc pm an cdv ct),osl⟩) (hcd:PySem.W.codeIn K cdv qual=true) (S:FnScope N ps scope)
  (len:∀vs H Q E,sp vs H Q E->vs.length=ps.length)
  (hbody:∀(A:Around) (outer:List Env) (s:Shared) (H:Hp) (vs:List V) (Q:VK) (E:XK),Room k (A.deeper (envOfC qual scope s.heap.objs.size f cdv))->sp vs H Q E ->
   ∃t,PSs (cxOf CX P w K mg base N qual scope f cdv A outer s H E) body t/\t { nx:=λ_ H'=>Q .non H',rt:=Q } (fN N vs) H) :
  FnOk P w K mg base CX (k+1) f (PySem.W.fnOf name qual params body scope dV kV doc pm an cdv ct) ps sp:=by
 refine⟨len,λA outer s H args us vs Q E hr e0 hb r hsp=>?_⟩
 have hl:=len _ _ _ _ hsp
 have KX:K.In s.heap:=e0.mod.kin.keeps λb o e=>(e0.bs b o e).1
 have lim:s.heap.NoLimit:=e0.mod.nolimit.keeps λb o e=>(e0.bs b o e).1
 have hkind:∀y∈ps.zip us,scope.names.lookup y.1=some .local\/(scope.names.lookup y.1=some .cell/\((cellsFrom (s.heap.objs.size+1) scope.names []).lookup y.1).isSome=true):=λ⟨n,v⟩ hy=>by
  rcases S.par n (List.of_mem_zip hy).1 with q | q
  ·exact .inl q
  ·exact .inr ⟨q,PySem.W.cellsFrom_some _ _ _ (.inl q)⟩
 refine codeAny_call_function hr.depth (KX _ _ lk) rfl S.co S.gen rfl (PySem.W.codeRec_of KX hcd) (hb _ _ _ _ ?_)
 refine wpAny_newFunctionEnv_cells S.kind hkind λenv he s1 x=>?_
 subst he
 refine⟨lim.keeps x.toInCall.keep,codeAny_func ?_⟩
 obtain⟨t,ht,hq⟩:=hbody A outer s H vs Q E (hr.deeper _) hsp
 have I:Inv (cxOf CX P w K mg base N qual scope f cdv A outer s H E) [] (fN N vs) H s1:=inv_start S hr.hd e0 hl r x
 refine wpAny_mono (ht [] s1 (fN N vs) H _ I hq) (λfl s' hs=>?_) λe s' hs=>hs
 have fin:∀{σ':St} {H':Hp} {v:V} {u:Value},Inv (cxOf CX P w K mg base N qual scope f cdv A outer s H E) [] σ' H' s'->bS v u->Q v H'->CE outer P w H s Q u s' :=
  λ{σ' H' v u} J rv q=>⟨v,H',J.os,J.bare,J.base,J.hok,rv,q⟩
 cases fl with
 | ret u =>
  obtain⟨v,σ',H',J,rv,q⟩:=hs
  exact fin J rv q
 | next =>
  obtain⟨σ',H',J,q⟩:=hs
  exact fin (v:=V.non) (u:=Value.none) J rfl q
 | brk =>
  obtain⟨_,_,_,q⟩:=hs
  exact False.elim q
 | cont =>
  obtain⟨_,_,_,q⟩:=hs
  exact False.elim q
end L2
namespace L2
open PySem PySem.Spec PyProof.Rows
section
variable{X:Cx}{x:Str}{p pos:Pos}{e:Expr}{es:List Expr}{t:TA}{id T:String}{r:List V->Hp->VK->Prop}
def tCB(r:List V->Hp->VK->Prop)(t:TA):TE:=λσ H Q=>t σ H λvs H1=>r vs H1 Q
theorem pe_callB(hc:fS X (.builtin id) r)(hg:Gl X x)(hm:X.mg x=none)(hv:bootBuiltins x=some (.builtin id))(ha:PA X (e::es) t)(hn:x ≠ "__name__" := by decide)(hdb:(x==("__debug__" : Str))=false:=by decide)
  (he:starEach (e::es) X.env=(false,eval e X.env)::starEach es X.env:=by rfl) (hpl:(backTo pos (starEach es X.env)).any (·.1)=false:=by rfl):PE X (.Call (.Name x p) (e::es) [] pos) (tCB r t):=by
 intro pins s σ H Q I h
 refine wpAny_Call_Name_kw (ld_blt I hg hm hv ?_ hn hdb)
 exact PyProof.Rows.callWith_builtin1 (thn (ha pos pins s σ H _ I h) λus s1 ⟨vs,H1,I1,r1,q1⟩=>hc pins s1 σ H1 vs us Q I1 r1 q1) he hpl
theorem pe_callTy(hc:fS X (.type T) r)(hg:Gl X x)(hm:X.mg x=none)(hv:bootBuiltins x=some (.type T))(ha:PA X (e::es) t)(hn:x ≠ "__name__" := by decide)(hdb:(x==("__debug__" : Str))=false:=by decide)
  (he:starEach (e::es) X.env=(false,eval e X.env)::starEach es X.env:=by rfl) (hpl:(backTo pos (starEach es X.env)).any (·.1)=false:=by rfl):PE X (.Call (.Name x p) (e::es) [] pos) (tCB r t):=by
 intro pins s σ H Q I h
 refine wpAny_Call_Name_kw (ld_blt I hg hm hv ?_ hn hdb)
 exact PyProof.Rows.callWith_type1 (thn (ha pos pins s σ H _ I h) λus s1 ⟨vs,H1,I1,r1,q1⟩=>hc pins s1 σ H1 vs us Q I1 r1 q1) he hpl
end
end L2
namespace HT
open PySem PyProof.Rows
section
open PySem.SeqAt
open PySem.AutoSeq1 (wpAny_loadPart')
open PySem.MeetsSeq PySem.MeetsSeq2 PySem.MeetsSeq3
end
section
variable{prog:Program}{w:World}{A:Around}{E:Value->Shared->Prop}{s:Shared}
theorem cat_tup{t b:Addr}{vs ws:List Value}{Q:Value->Shared->Prop}(ht:IsTup s.heap t vs.toArray)(hb:IsTup s.heap b ws.toArray)(hv:vs≠[])
  (h1:ws=[]->Q (.ref t) s) (h2:ws≠[]->Q (.ref s.heap.objs.size) { s with heap:=s.heap.push { cls:=.type "tuple",data:=.seq (vs++ws).toArray } })
  (hsz:vs.length+ws.length<=sizeLine):wpAny (model prog w) A (binaryOp .Add (.ref t) (.ref b)) Q E s:=by
 obtain⟨⟨cls,dd,data,sl⟩,ho,hc,n,hd⟩:=id ht
 obtain⟨⟨cls2,dd2,data2,sl2⟩,ho2,hc2,n2,hd2⟩:=id hb
 simp only at hc hd hc2 hd2
 subst hc hd hc2 hd2
 have e:vs.toArray++ws.toArray=(vs++ws).toArray:=by simp
 by_cases hw:ws=[]
 ·exact concat_meets ⟨_,ho,rfl⟩ ⟨_,ho2,rfl⟩ noFill_tuple_add seq_tuple_add PySem.F.slot_tuple_add PySem.F.entry_tuple_add (PySem.F.args_tuple_add_2 _ _)
   (tuple_addW1 t b vs.toArray ws.toArray n n2 dd dd2 sl sl2 (by simpa using hv) (by simp [hw])) ⟨ho,ho2,h1 hw⟩
 ·refine concat_meets ⟨_,ho,rfl⟩ ⟨_,ho2,rfl⟩ noFill_tuple_add seq_tuple_add PySem.F.slot_tuple_add PySem.F.entry_tuple_add (PySem.F.args_tuple_add_2 _ _)
   (tuple_addW2 t b vs.toArray ws.toArray n n2 dd dd2 sl sl2 (by simpa using hv) (by simpa using hw) (by rw[List.size_toArray,List.size_toArray];exact hsz)) ⟨ho,ho2,?_⟩
  rw[e]
  exact h2 hw
def sIx(n d:Nat):Option Int->Nat
 | none=>d
 | some v=>if v<0 then (v+(n:Int)).toNat else min v.toNat n
theorem sIx_none(n d:Nat):sIx n d none=d:=rfl
theorem sIx_nat(n d k:Nat):sIx n d (some (k:Int))=min k n:=by
 show(if (k:Int)<0 then ((k:Int)+(n:Int)).toNat else min (k:Int).toNat n)=min k n
 rw[if_neg (by omega),Int.toNat_natCast]
theorem sIx_le(n d:Nat)(hd:d<=n)(o:Option Int):sIx n d o<=n:=by
 cases o with
 | none=>exact hd
 | some v =>
  show(if v<0 then (v+(n:Int)).toNat else min v.toNat n)<=n
  by_cases hv:v<0
  ·rw[if_pos hv];omega
  ·rw[if_neg hv];exact Nat.min_le_right _ _
theorem clip_eq(v:Int)(n d:Nat):(if v<0 then max (v+(n:Int)) 0 else min v (n:Int))=((sIx n d (some v):Nat):Int):=by
 show(if v<0 then max (v+(n:Int)) 0 else min v (n:Int))=(((if v<0 then (v+(n:Int)).toNat else min v.toNat n):Nat):Int)
 by_cases hv:v<0
 ·simp only[if_pos hv];omega
 ·simp only[if_neg hv];omega
theorem adjust_gen(lo hi:Option Int)(n:Nat):Builtin.Slice.sliceAdjust lo hi 1 (n:Int)=(((sIx n 0 lo:Nat):Int),((sIx n n hi:Nat):Int)):=by
 have h1:¬((1:Int)<0):=by omega
 unfold Builtin.Slice.sliceAdjust
 simp only[h1,if_false]
 refine Prod.ext ?_ ?_
 ·cases lo with
  | none=>rfl
  | some v=>exact clip_eq v n 0
 ·cases hi with
  | none=>rfl
  | some v=>exact clip_eq v n n
theorem places_gen(i j:Nat):Builtin.Slice.slicePlaces (i:Int) (j:Int) 1=j-i:=by
 unfold Builtin.Slice.slicePlaces
 have h1:(1:Int) > 0:=by omega
 simp only[h1,if_true,Int.ediv_one]
 split<;>omega
theorem slicePart_{v:Value}{o:Option Int}{Q:Option Int->Shared->Prop}(p:IsPart v o)(h:Q o s):wpAny (model prog w) A (Builtin.Slice.slicePartIndex v) Q E s:=by
 cases p with
 | none=>exact slicePart_none h
 | int i t=>exact slicePart_int h
theorem sliceApplied_gen{sl:Addr}{vl vu:Value}{lo hi:Option Int}{n:Nat}{Q:Int×Int×Nat->Shared->Prop}(hs:s.heap.IsSliceOf sl vl vu .none)(pl:IsPart vl lo)(pu:IsPart vu hi)
  (h:Q (((sIx n 0 lo:Nat):Int),1,sIx n n hi-sIx n 0 lo) s):wpAny (model prog w) A (Builtin.Slice.sliceApplied (.ref sl) (pure (n:Int))) Q E s:=by
 obtain⟨os,hos,hcs,hds⟩:=id hs
 unfold Builtin.Slice.sliceApplied Builtin.Slice.sliceFields
 refine wpAny_bind (wpAny_bind (wpAny_field hos hds (x:=vl) rfl (wpAny_bind (wpAny_field hos hds (x:=vu) rfl (wpAny_bind (wpAny_field hos hds (x:=.none) rfl (wpAny_pure ?_)))))))
 refine wpAny_bind (slicePart_none ?_)
 show wpAny _ _ (if ((1:Int)==0)=true then _ else _) _ _ s
 rw[if_neg (by decide)]
 refine wpAny_bind (slicePart_ pl (wpAny_bind (slicePart_ pu (wpAny_bind (wpAny_pure ?_)))))
 show wpAny _ _ (match Builtin.Slice.sliceAdjust lo hi 1 (n:Int) with | (lo,hi)=>pure (lo,(1:Int),Builtin.Slice.slicePlaces lo hi 1)) _ _ s
 rw[adjust_gen lo hi n]
 show wpAny _ _ (pure (((sIx n 0 lo:Nat):Int),(1:Int),Builtin.Slice.slicePlaces ((sIx n 0 lo:Nat):Int) ((sIx n n hi:Nat):Int) 1)) _ _ s
 rw[places_gen]
 exact wpAny_pure h
theorem pick_gen(xs:Array Value)(i k:Nat):((List.range k).filterMap λ(m:Nat)=>xs[((i:Int)+(m:Int)*1).toNat]?).toArray=((xs.toList.drop i).take k).toArray:=by
 have e:(λ(m:Nat)=>xs[((i:Int)+(m:Int)*1).toNat]?)=λm=>xs[i+m]?:=by
  funext m
  have:((i:Int)+(m:Int)*1).toNat=i+m:=by omega
  rw[this]
 rw[e]
 have:=pick_run xs i k
 rw[List.filterMap_map] at this
 have e2:((λx=>xs[x]?)∘λx=>i+x)=λm=>xs[i+m]?:=rfl
 rw[e2] at this
 rw[this]
theorem getItem_tuple_cut{t sl:Addr}{items:Array Value}{vl vu:Value}{lo hi:Option Int}{Q:Value->Shared->Prop}(ht:IsTup s.heap t items)(hs:s.heap.IsSliceOf sl vl vu .none)(pl:IsPart vl lo)(pu:IsPart vu hi)
  (hw:¬(sIx items.size 0 lo=0/\sIx items.size items.size hi=items.size))
  (h:Q (.ref s.heap.objs.size) { s with heap:=s.heap.push { cls:=.type "tuple",data:=.seq ((items.toList.drop (sIx items.size 0 lo)).take (sIx items.size items.size hi-sIx items.size 0 lo)).toArray } })
  (hsz:items.size<=sizeLine):wpAny (model prog w) A (getItem (.ref t) (.ref sl)) Q E s:=by
 have htake:sizeOk (.seq ((items.toList.drop (sIx items.size 0 lo)).take (sIx items.size items.size hi-sIx items.size 0 lo)).toArray):=by
  show((items.toList.drop (sIx items.size 0 lo)).take (sIx items.size items.size hi-sIx items.size 0 lo)).toArray.size<=sizeLine
  rw[List.size_toArray,List.length_take,List.length_drop,Array.length_toList]
  omega
 have hj:sIx items.size items.size hi<=items.size:=sIx_le _ _ (Nat.le_refl _) hi
 obtain⟨os,hos,hcs,hds⟩:=id hs
 have hTs:s.TypeIs (.ref sl) "slice" := ⟨os,hos,hcs⟩
 unfold getItem
 try with_reducible refine wpAny_holding ?_
 first | refine wpAny_bind (wpAny_pure ?_) | skip
 refine wpAny_bind (wpAny_sequenceKey ht.typeIs (by decide) ?_)
 refine wpAny_bind (wpAny_callSpecial?_slot (name:=Str.ofString "__getitem__") ht.typeIs PyProof.Rows.slot_tuple_getitem
  (wpAny_call_entry PyProof.Rows.slot_tuple_getitem ht.typeIs entry_tuple_getitem ?_ (args_tuple_getitem _ _)))
 show wpAny _ _ (Builtin.Tuple.tupleItemsOf (.ref t) >>= _) _ _ s
 refine wpAny_bind (tupleItemsOf_ ht ?_)
 refine wpAny_bind (wpAny_typeOf hTs ?_)
 rw[if_pos (by decide)]
 refine wpAny_bind (sliceApplied_gen hs pl pu ?_)
 have hno:¬((((sIx items.size 0 lo:Nat):Int)==0&&(1:Int)==1&&(sIx items.size items.size hi-sIx items.size 0 lo)==items.size)=true):=by
  intro q
  rw[Bool.and_eq_true,Bool.and_eq_true] at q
  have q1:((sIx items.size 0 lo:Nat):Int)=0:=eq_of_beq q.1.1
  have q2:sIx items.size items.size hi-sIx items.size 0 lo=items.size:=eq_of_beq q.2
  exact hw ⟨by omega,by omega⟩
 show wpAny _ _ (if (((sIx items.size 0 lo:Nat):Int)==0&&(1:Int)==1&&(sIx items.size items.size hi-sIx items.size 0 lo)==items.size)=true then _ else _) _ _ s
 rw[if_neg hno,pick_gen]
 first
  | exact wpAny_bind (m:=Builtin.Tuple.tupleExact _) (wpAny_newObj_type (wpAny_pure ⟨_,rfl,wpAny_pure h⟩) htake)
  | exact wpAny_bind (m:=Builtin.Tuple.tupleExact _) (wpAny_newObj_type (wpAny_bind (wpAny_pure (wpAny_pure ⟨_,rfl,wpAny_pure h⟩))) htake)
  | exact wpAny_bind (wpAny_bind (m:=Builtin.Tuple.tupleExact _) (wpAny_newObj_type (wpAny_pure (wpAny_pure ⟨_,rfl,wpAny_pure h⟩)) htake))
  | exact wpAny_bind (wpAny_bind (m:=Builtin.Tuple.tupleExact _) (wpAny_newObj_type (wpAny_pure ⟨_,rfl,wpAny_pure h⟩) htake))
end
end HT
namespace L2
open PySem PySem.Spec PyProof.Rows
abbrev TO:=St->Hp->(Option Int->Hp->Prop)->Prop
def PO(X:Cx)(e:Option Expr)(t:TO):Prop :=
 ∀(pins:List (Addr×Obj)) (s:Shared) (σ:St) (H:Hp) (Q:Option Int->Hp->Prop),Inv X pins σ H s->t σ H Q ->
  wpAny (model X.prog X.w) X.A (evalPart e X.env) (λu s'=>∃o H',Inv X pins σ H' s'/\IsPart u o/\Q o H') X.xe s
def tNoPart:TO:=λ_ H Q=>Q none H
def tPart(t:TE):TO:=λσ H Q=>t σ H λx H1=>∃i,x=.int i/\Q (some i) H1
section
variable{X:Cx}{e:Expr}{te:TE}{lo hi:Option Expr}{tl th:TO}{pos p2:Pos}
theorem po_none:PO X none tNoPart:=by
 intro pins s σ H Q I h
 rw[evalPart_none]
 exact wpAny_pure ⟨none,H,I,.none,h⟩
theorem po_some(h:PE X e te):PO X (some e) (tPart te):=by
 intro pins s σ H Q I hw
 rw[evalPart_some]
 refine thn (h pins s σ H _ I hw) λu s1 ⟨x,H1,I1,r1,q1⟩=>?_
 obtain⟨i,rfl,q⟩:=q1
 obtain⟨t,rfl⟩:=r1
 exact⟨some i,H1,I1,.int i t,q⟩
def SlR(X:Cx)(r:V->Option Int->Option Int->Hp->VK->Prop):Prop :=
 ∀(pins:List (Addr×Obj)) (s:Shared) (σ:St) (H:Hp) (x:V) (v vl vu:Value) (lo hi:Option Int) (sl:Addr) (Q:VK),Inv X pins σ H s->bS x v->s.heap.IsSliceOf sl vl vu .none->IsPart vl lo->IsPart vu hi->r x lo hi H Q ->
  ∃T id,typeLookup (.type T) "__getitem__" = pure (some (.builtin id))/\s.TypeIs v T/\wpAny (model X.prog X.w) X.A (getItem v (.ref sl)) (EP X pins σ Q) X.xe s
theorem SlR.or{r r':V->Option Int->Option Int->Hp->VK->Prop}(h:SlR X r)(h':SlR X r'):SlR X (λx lo hi H Q=>r x lo hi H Q\/r' x lo hi H Q):=by
 intro pins s σ H x v vl vu lo hi sl Q I rx hs pl pu q
 rcases q with q | q
 ·exact h pins s σ H x v vl vu lo hi sl Q I rx hs pl pu q
 ·exact h' pins s σ H x v vl vu lo hi sl Q I rx hs pl pu q
def tSl(r:V->Option Int->Option Int->Hp->VK->Prop)(te:TE)(tl th:TO):TE:=λσ H Q=>te σ H λx H1=>tl σ H1 λl H2=>th σ H2 λu H3=>r x l u H3 Q
theorem pe_slice{r:V->Option Int->Option Int->Hp->VK->Prop}(hr:SlR X r)(he:PE X e te)(hl:PO X lo tl)(hu:PO X hi th):PE X (.Subscript e (.Slice lo hi none p2) pos) (tSl r te tl th):=by
 intro pins s σ H Q I h
 refine Subscript_ (thn (he pins s σ H _ I h) λv s1 ⟨x,H1,I1,r1,q1⟩=>?_)
 refine wpAny_Slice (thn (hl pins s1 σ H1 _ I1 q1) λvl s2 ⟨l,H2,I2,pl,q2⟩=>thn (hu pins s2 σ H2 _ I2 q2) λvu s3 ⟨u,H3,I3,pu,q3⟩=>?_)
 rw[evalPart_none]
 refine wpAny_pure ?_
 have I4:Inv X pins σ H3 { s3 with heap:=s3.heap.push { cls:=.type "slice",data:=.fields #[vl,vu,.none] } }:=I3.kept (t':=s3.toks) λb ob q=>Heap.get?_push_of_some _ q
 obtain⟨T,id,hT,ht,hg⟩:=hr pins { s3 with heap:=s3.heap.push { cls:=.type "slice",data:=.fields #[vl,vu,.none] } } σ H3 x v vl vu l u s3.heap.objs.size Q I4 r1 (Heap.IsSliceOf.new ..) pl pu q3
 show wpAny (model X.prog X.w) X.A (subscriptTail e (.Slice lo hi none p2) v (.ref s3.heap.objs.size)) (EP X pins σ Q) X.xe { s3 with heap:=s3.heap.push { cls:=.type "slice",data:=.fields #[vl,vu,.none] } }
 exact tail_any (ops:=[.ref s3.heap.objs.size,v]) ht hT hg (by with_unfolding_all rfl)
def cutV(xs:List V)(lo hi:Option Int):List V:=(xs.drop (HT.sIx xs.length 0 lo)).take (HT.sIx xs.length xs.length hi-HT.sIx xs.length 0 lo)
theorem cutV_length(xs:List V)(lo hi:Option Int):(cutV xs lo hi).length<=xs.length:=by
 unfold cutV
 rw[List.length_take,List.length_drop]
 omega
def rSlT(K:PySem.W.Frag):V->Option Int->Option Int->Hp->VK->Prop:=λx lo hi H Q=>∃a xs,x=.ref a/\SqT K H a xs /\
 ¬(HT.sIx xs.length 0 lo=0/\HT.sIx xs.length xs.length hi=xs.length)/\∀p,H p=none->Q (.ref p) (upd H p (.tup (cutV xs lo hi)))
theorem sl_tup:SlR X (rSlT X.K):=by
 intro pins s σ H x v vl vu lo hi sl Q I rx hs pl pu h
 obtain⟨a,xs,rfl,hx,hw,q⟩:=h
 cases rx
 obtain⟨its,r,ht,hz⟩:=I.tuple hx
 have hlen:its.toArray.size=xs.length:=by rw[List.size_toArray];exact r.length.symm
 refine⟨"tuple",_,PyProof.Rows.slot_tuple_getitem.lookup,ht.typeIs,?_⟩
 refine HT.getItem_tuple_cut ht hs pl pu (by rw[hlen];exact hw) ?_ (by rw[hlen];exact hz)
 rw[hlen]
 refine⟨.ref s.heap.objs.size,_,I.laid (t':=s.toks) (o:=.tup (cutV xs lo hi)) (λb ob q=>Heap.get?_push_of_some _ q) (Nat.le_refl _) ?_,rfl,q _ (I.hok.fresh (Nat.le_refl _))⟩
 exact⟨Nat.le_trans (cutV_length xs lo hi) hz,_,(r.drop (HT.sIx xs.length 0 lo)).take (HT.sIx xs.length xs.length hi-HT.sIx xs.length 0 lo),IsTup.new _ _⟩
def rCatT(K:PySem.W.Frag):R2:=λx y H Q=>∃a b xs ys,x=.ref a/\y=.ref b/\SqT K H a xs/\SqT K H b ys/\xs≠[]/\xs.length+ys.length<=sizeLine /\
 (ys=[]->Q (.ref a) H)/\(ys≠[]->∀p,H p=none->Q (.ref p) (upd H p (.tup (xs++ys))))
theorem aU.nil_iff{xs:List V}{us:List Value}(r:aU xs us):us=[]↔xs=[]:=by
 cases r with
 | nil=>simp
 | cons _ _=>simp
theorem op_catT:OpR X (binaryOp .Add) (rCatT X.K):=by
 intro pins s σ H x y v u Q I rx ry h
 obtain⟨a,b,xs,ys,rfl,rfl,ha,hb,hx,hz,q1,q2⟩:=h
 cases rx
 cases ry
 obtain⟨its,r1,p1,_⟩:=I.tuple ha
 obtain⟨its2,r2,p2,_⟩:=I.tuple hb
 refine HT.cat_tup p1 p2 (λz=>hx (r1.nil_iff.mp z)) (λz=>⟨.ref a,H,I,rfl,q1 (r2.nil_iff.mp z)⟩) (λz=>?_) (by rw[<-r1.length,<-r2.length];exact hz)
 refine⟨.ref s.heap.objs.size,_,I.laid (t':=s.toks) (o:=.tup (xs++ys)) (λb ob q=>Heap.get?_push_of_some _ q) (Nat.le_refl _) ?_,rfl,q2 (λw=>z (r2.nil_iff.mpr w)) _ (I.hok.fresh (Nat.le_refl _))⟩
 exact⟨by rw[List.length_append];exact hz,_,r1.append r2,IsTup.new _ _⟩
end
end L2
namespace L2
open PySem PySem.Spec PyProof.Rows
def ixN(n:Nat)(i:Int):Option Nat:=if 0<=i then (if i<n then some i.toNat else none) else if -(n:Int)<=i then some (i+n).toNat else none
def atI{α:Type}(xs:List α)(i:Int):Option α:=(ixN xs.length i).bind λj=>xs[j]?
theorem ixN_seq{n:Nat}{i:Int}{j:Nat}(h:ixN n i=some j):seqIndex? i n=some j/\j<n /\ -(n:Int)<=i/\i<n:=by
 unfold ixN at h
 by_cases h0:0<=i
 ·rw[if_pos h0] at h
  by_cases h1:i<n
  ·rw[if_pos h1] at h
   have e:i.toNat=j:=Option.some.inj h
   exact⟨by rw[seqIndex_of h0 h1,e],by omega,by omega,h1⟩
  ·rw[if_neg h1] at h;cases h
 ·rw[if_neg h0] at h
  by_cases h1 : -(n:Int)<=i
  ·rw[if_pos h1] at h
   have e:(i+n).toNat=j:=Option.some.inj h
   exact⟨by rw[seqIndex_neg (by omega) h1,e],by omega,h1,by omega⟩
  ·rw[if_neg h1] at h;cases h
theorem atI_get{α:Type}{xs:List α}{i:Int}{v:α}(h:atI xs i=some v):∃j,seqIndex? i xs.length=some j/\xs[j]?=some v/\j<xs.length /\ -(xs.length:Int)<=i/\i<xs.length:=by
 unfold atI at h
 cases e:ixN xs.length i with
 | none=>rw[e] at h;cases h
 | some j =>
  rw[e] at h
  obtain⟨h1,h2,h3,h4⟩:=ixN_seq e
  exact⟨j,h1,h,h2,h3,h4⟩
theorem atI_nat{α:Type}{xs:List α}{j:Nat}{v:α}(h:xs[j]?=some v):atI xs (j:Int)=some v:=by
 have hj:j<xs.length:=(List.getElem?_eq_some_iff.mp h).1
 have e:ixN xs.length (j:Int)=some j:=by
  unfold ixN
  rw[if_pos (by omega),if_pos (by omega)];simp
 unfold atI;rw[e];exact h
def PlainIx(b:Expr):Prop:=∀o i,subscripted b false o i=operate [o,i] (getItem o i)
def IxR(X:Cx)(r:R2):Prop :=
 ∀(value slice:Expr) (pins:List (Addr×Obj)) (s:Shared) (σ:St) (H:Hp) (x y:V) (v u:Value) (Q:VK),Inv X pins σ H s->bS x v->bS y u->r x y H Q ->
  subscripted slice false v u=operate [v,u] (getItem v u)->wpAny (model X.prog X.w) X.A (subscriptTail value slice v u) (EP X pins σ Q) X.xe s
def MtR(X:Cx)(id:String)(r:V->List V->Hp->VK->Prop):Prop :=
 ∀(pins:List (Addr×Obj)) (s:Shared) (σ:St) (H:Hp) (x:V) (xs:List V) (v:Value) (us:List Value) (Q:VK),Inv X pins σ H s->bS x v->aU xs us->r x xs H Q ->
  wpAny (model X.prog X.w) X.A (call (.builtin id) (v::us)) (EP X pins σ Q) X.xe s
section
variable{X:Cx}{a b:Expr}{ta tb:TE}{pos:Pos}
theorem IxR.or{r r':R2}(h:IxR X r)(h':IxR X r'):IxR X (λx y H Q=>r x y H Q\/r' x y H Q):=by
 intro value slice pins s σ H x y v u Q I rx ry q hs
 rcases q with q | q
 ·exact h value slice pins s σ H x y v u Q I rx ry q hs
 ·exact h' value slice pins s σ H x y v u Q I rx ry q hs
theorem pe_ix{r:R2}(hr:IxR X r)(ha:PE X a ta)(hb:PE X b tb)(hs:PlainIx b):PE X (.Subscript a b pos) (tOp r ta tb):=by
 intro pins s σ H Q I h
 exact Subscript_ (binT ha hb I h λv u s2 x y H2 I2 rx ry q=>hr a b pins s2 σ H2 x y v u Q I2 rx ry q (hs _ _))
def rIxL(K:PySem.W.Frag):R2:=λx y H Q=>∃p xs i v,x=.ref p/\y=.int i/\SqL K H p xs/\atI xs i=some v/\Q v H
def rIxT(K:PySem.W.Frag):R2:=λx y H Q=>∃p xs i v,x=.ref p/\y=.int i/\SqT K H p xs/\atI xs i=some v/\Q v H
def rIxS:R2:=λx y H Q=>∃z i c,x=.str z/\y=.int i/\z.length<=sizeLine/\atI z.cps.toList i=some c/\Q (.str ⟨#[c]⟩) H
theorem ix_list:IxR X (rIxL X.K):=by
 intro value slice pins s σ H x y v u Q I rx ry h hs
 obtain⟨p,xs,i,z,rfl,rfl,hq,he,q⟩:=h
 cases rx
 obtain⟨t,rfl⟩:=ry
 obtain⟨its,r,pl,hz⟩:=I.list hq
 obtain⟨j,h1,h2,h3,h4,h5⟩:=atI_get he
 obtain⟨w,ew,rw'⟩:=r.get h2
 have hl:=r.length
 have hn:=line63
 have fin:EP X pins σ Q w s:=⟨z,H,I,rw',q⟩
 by_cases h0:0<=i
 ·have hj:i.toNat=j:=by
   rw[seqIndex_of h0 h5] at h1
   exact Option.some.inj h1
  exact item_listR pl.isList h0 (by omega) (by rw[hj];simpa using ew) fin hs
 ·have hj:(i+(its.toArray.size:Int)).toNat=j:=by
   rw[seqIndex_neg (by omega) h4] at h1
   rw[List.size_toArray,<-hl]
   exact Option.some.inj h1
  exact subscriptTail_builtinR (x:=w) pl.isList.typeIs slot_list_getitem.lookup
   (wpAny_getItem_list_neg (Q:=λr s'=>r=w/\EP X pins σ Q r s') pl.isList (by omega) (by rw[List.size_toArray]<;>omega) (by omega) (by rw[hj];simpa using ew) ⟨rfl,fin⟩) hs
theorem ix_tup:IxR X (rIxT X.K):=by
 intro value slice pins s σ H x y v u Q I rx ry h hs
 obtain⟨p,xs,i,z,rfl,rfl,hq,he,q⟩:=h
 cases rx
 obtain⟨t,rfl⟩:=ry
 obtain⟨its,r,pl,hz⟩:=I.tuple hq
 obtain⟨j,h1,h2,h3,h4,h5⟩:=atI_get he
 obtain⟨w,ew,rw'⟩:=r.get h2
 have hl:=r.length
 have hn:=line63
 have fin:EP X pins σ Q w s:=⟨z,H,I,rw',q⟩
 exact subscriptTail_builtinR (x:=w) pl.typeIs slot_tuple_getitem.lookup
  (getItem_tuple (j:=j) (Q:=λr s'=>r=w/\EP X pins σ Q r s') pl (by omega) (by omega) (by rw[List.size_toArray,<-hl];exact h1) (by simpa using ew) ⟨rfl,fin⟩) hs
theorem ix_str:IxR X rIxS:=by
 intro value slice pins s σ H x y v u Q I rx ry h hs
 obtain⟨z,i,c,rfl,rfl,hz,he,q⟩:=h
 obtain⟨t,rfl⟩:=rx
 obtain⟨t',rfl⟩:=ry
 obtain⟨j,h1,h2,h3,h4,h5⟩:=atI_get he
 have hl:z.cps.toList.length=z.length:=by simp [Str.length]
 rw[hl] at h1 h4 h5
 have hn:=line63
 exact tail_any (typeIs_str s z t) slot_str_getitem.lookup (getItem_str (c:=c) (by
  have e1:decide (i < -(2 ^ 63:Int))=false:=decide_eq_false (by omega)
  have e2:decide (i ≥ 2 ^ 63)=false:=decide_eq_false (by omega)
  rw[e1,e2,Bool.or_false]) (by rw[h1];simpa using h2) ⟨.str ⟨#[c]⟩,H,I.tok _,⟨_,rfl⟩,q⟩) hs
def rIx(K:PySem.W.Frag):R2:=λx y H Q=>rIxL K x y H Q\/rIxT K x y H Q\/rIxS x y H Q
theorem ix_seq:IxR X (rIx X.K):=ix_list.or (ix_tup.or ix_str)
theorem mapSeq_set(its:List Value)(n j:Nat)(u:Value):Obj.mapSeq (·.setIfInBounds j u) { cls:=.type "list",data:=.seq its.toArray n }={ cls:=.type "list",data:=.seq (its.set j u).toArray n }:=by
 simp [Obj.mapSeq]
theorem Inv.lst{pins:List (Addr×Obj)}{σ:St}{H:Hp}{s:Shared}{p:Addr}{xs:List V}(I:Inv X pins σ H s)(h:H p=some (.lst xs)) :
  ∃(its:List Value) (n:Nat),aU xs its/\s.heap.get? p=some { cls:=.type "list",data:=.seq its.toArray n }/\xs.length<=sizeLine:=by
 obtain⟨z,its,n,r,e⟩:=I.hok p _ h
 exact⟨its,n,r,e,z⟩
theorem Inv.lstUpd{pins:List (Addr×Obj)}{σ:St}{H:Hp}{s:Shared}{p:Addr}{xs ys:List V}{its its':List Value}{n n':Nat}{f:Obj->Obj}(I:Inv X pins σ H s)(h:H p=some (.lst xs))
  (ho:s.heap.get? p=some { cls:=.type "list",data:=.seq its.toArray n }) (hf:f { cls:=.type "list",data:=.seq its.toArray n }={ cls:=.type "list",data:=.seq its'.toArray n' }) (r:aU ys its') (hz:ys.length<=sizeLine) (t:Nat) :
  Inv X pins σ (upd H p (.lst ys)) { s with heap:=s.heap.update p f,toks:=t }:=by
 have e:(s.heap.update p f).get? p=some { cls:=.type "list",data:=.seq its'.toArray n' }:=by
  rw[Heap.get?_update_self f ho (by rw[hf]<;>rfl),hf]
 refine I.write (x:=p) (e:=p) (by rw[h];trivial) (.inl rfl) (λb u hb q=>(Heap.get?_update_other _ _ (Ne.symm hb)).trans q) ⟨_,e⟩ ?_
 exact⟨hz,its',n',r,e⟩
def rSetL:V->V->V->Hp->(Hp->Prop)->Prop:=λo i v H Q=>∃p xs k j,o=.ref p/\i=.int k/\H p=some (.lst xs)/\ixN xs.length k=some j/\Q (upd H p (.lst (xs.set j v)))
theorem set_list:PSet X rSetL:=by
 intro pins s σ H o i v ov iv u Q I ro ri rv h
 obtain⟨p,xs,k,j,rfl,rfl,hp,hj,q⟩:=h
 cases ro
 obtain⟨t,rfl⟩:=ri
 obtain⟨its,n,r,ho,hz⟩:=I.lst hp
 obtain⟨h1,h2,h3,h4⟩:=ixN_seq hj
 have hl:=r.length
 have hn:=line63
 have I':Inv X pins σ (upd H p (.lst (xs.set j v))) { s with heap:=s.heap.update p (Obj.mapSeq (·.setIfInBounds j u)) } :=
  I.lstUpd hp ho (mapSeq_set its n j u) (r.set rv j) (by rw[List.length_set];exact hz) s.toks
 by_cases h0:0<=k
 ·have hk:k.toNat=j:=by
   rw[seqIndex_of h0 h4] at h1
   exact Option.some.inj h1
  exact PySem.W.ki_setAt ho h0 (by omega) (by rw[List.size_toArray,<-hl];exact h4) (by rw[hk];exact⟨_,I',q⟩)
 ·have hk:(k+(its.toArray.size:Int)).toNat=j:=by
   rw[seqIndex_neg (by omega) h3] at h1
   rw[List.size_toArray,<-hl]
   exact Option.some.inj h1
  exact PySem.W.ki_setBack ho (by omega) (by rw[List.size_toArray,<-hl];exact h3) (by omega) (by rw[hk];exact⟨_,I',q⟩)
theorem slice_bounds(lo hi:Option Int)(n:Nat):(sliceBounds lo hi none n).1=((HT.sIx n 0 lo:Nat):Int)/\(sliceBounds lo hi none n).2.1=((HT.sIx n n hi:Nat):Int)/\(sliceBounds lo hi none n).2.2=1:=by
 refine⟨?_,?_,rfl⟩
 ·cases lo with
  | none=>simp [sliceBounds,HT.sIx]
  | some i =>
   simp only[sliceBounds,HT.sIx,Option.getD_none,show(1:Int) > 0 by decide,if_true]
   by_cases h:i<0
   ·simp only[h,if_true]<;>omega
   ·simp only[h,if_false]<;>omega
 ·cases hi with
  | none=>simp [sliceBounds,HT.sIx]
  | some i =>
   simp only[sliceBounds,HT.sIx,Option.getD_none,show(1:Int) > 0 by decide,if_true]
   by_cases h:i<0
   ·simp only[h,if_true]<;>omega
   ·simp only[h,if_false]<;>omega
theorem slicePick_cut(its:List Value)(lo hi:Option Int):slicePick its.toArray lo hi none=((its.drop (HT.sIx its.length 0 lo)).take (HT.sIx its.length its.length hi-HT.sIx its.length 0 lo)).toArray:=by
 obtain⟨h1,h2,h3⟩:=slice_bounds lo hi its.toArray.size
 unfold slicePick
 rw[h1,h2,h3]
 simp only[sliceRange_one,pick_run,List.size_toArray]<;>rfl
def rSlL(K:PySem.W.Frag):V->Option Int->Option Int->Hp->VK->Prop:=λx lo hi H Q=>∃a xs,x=.ref a/\SqL K H a xs/\∀p,H p=none->Q (.ref p) (upd H p (.lst (cutV xs lo hi)))
theorem sl_list:SlR X (rSlL X.K):=by
 intro pins s σ H x v vl vu lo hi sl Q I rx hs pl pu h
 obtain⟨a,xs,rfl,hx,q⟩:=h
 cases rx
 obtain⟨its,r,ht,hz⟩:=I.list hx
 have hlen:=r.length
 refine⟨"list",_,slot_list_getitem.lookup,ht.isList.typeIs,?_⟩
 refine wpAny_getItem_list_slice ht.isList hs pl pu .none (by simp) ?_ (by rw[List.size_toArray]<;>omega)
 rw[slicePick_cut,<-hlen]
 refine⟨.ref s.heap.objs.size,_,I.laid (t':=s.toks) (o:=.lst (cutV xs lo hi)) (λb ob q=>Heap.get?_push_of_some _ q) (Nat.le_refl _) ?_,rfl,q _ (I.hok.fresh (Nat.le_refl _))⟩
 exact⟨Nat.le_trans (cutV_length xs lo hi) hz,_,0,(r.drop (HT.sIx xs.length 0 lo)).take (HT.sIx xs.length xs.length hi-HT.sIx xs.length 0 lo),Heap.get?_push_size _ rfl⟩
theorem call_len_seq:fS X (.builtin "len") (λxs H Q=>∃p ys,xs=[.ref p]/\(SqL X.K H p ys\/SqT X.K H p ys)/\Q (.int ys.length) H):=by
 intro pins s σ H xs us Q I r h
 obtain⟨p,ys,rfl,hq,q⟩:=h
 obtain⟨u,rfl,rx⟩:=vals1 r
 cases rx
 have hn:=line63
 rcases hq with hq | hq
 ·obtain⟨its,r',pl,hz⟩:=I.list hq
  have hlen:=r'.length
  exact Calls.call_len_list pl.isList (by simp only[List.size_toArray]<;>omega) ⟨.int ys.length,H,I.tok _,⟨s.toks+1,by rw[List.size_toArray,hlen]⟩,q⟩
 ·obtain⟨its,r',pl,hz⟩:=I.tuple hq
  have hlen:=r'.length
  exact len_tuple pl (by simp only[List.size_toArray]<;>omega) ⟨.int ys.length,H,I.tok _,⟨s.toks+1,by rw[List.size_toArray,hlen]⟩,q⟩
theorem call_len_str:fS X (.builtin "len") (λxs H Q=>∃z,xs=[.str z]/\z.length<=sizeLine/\Q (.int z.length) H):=by
 intro pins s σ H xs us Q I r h
 obtain⟨z,rfl,hz,q⟩:=h
 obtain⟨u,rfl,t,rfl⟩:=vals1 r
 have hn:=line63
 exact len_str (by omega) ⟨.int z.length,H,I.tok _,⟨_,rfl⟩,q⟩
theorem fS.or{f:Value}{r r':List V->Hp->VK->Prop}(h:fS X f r)(h':fS X f r'):fS X f (λxs H Q=>r xs H Q\/r' xs H Q):=by
 intro pins s σ H xs us Q I rs q
 rcases q with q | q
 ·exact h pins s σ H xs us Q I rs q
 ·exact h' pins s σ H xs us Q I rs q
theorem call_list_of:fS X (.type "list") (λxs H Q=>∃p ys,xs=[.ref p]/\(SqL X.K H p ys\/SqT X.K H p ys)/\∀l,H l=none->Q (.ref l) (upd H l (.lst ys))):=by
 intro pins s σ H xs us Q I r h
 obtain⟨p,ys,rfl,hq,q⟩:=h
 obtain⟨u,rfl,rx⟩:=vals1 r
 cases rx
 have fin:∀(its:List Value),aU ys its->ys.length<=sizeLine->∀(h':Heap) (c':Nat),(∀b o',s.heap.get? b=some o'->h'.get? b=some o') ->
   h'.get? s.heap.objs.size=some { cls:=.type "list",dict:=none,data:=.seq its.toArray c',slots:=#[] }->EP X pins σ Q (.ref s.heap.objs.size) { s with heap:=h' }:=λits r' hz h' c' kp e =>
  ⟨.ref s.heap.objs.size,_,I.laid (t':=s.toks) kp (Nat.le_refl _) (show fR X.prog X.w _ h' _ (.lst ys) from⟨hz,its,c',r',e⟩),rfl,q _ (I.hok.fresh (Nat.le_refl _))⟩
 rcases hq with hq | hq
 ·obtain⟨its,r',pl,hz⟩:=I.list hq
  have hlen:=r'.length
  obtain⟨o,ho,hc,n,hd⟩:=pl.isList
  exact call_list_seq p (.inl rfl) ho hc hd (λh' c' kp e=>fin its r' hz h' c' kp e) (by simp only[List.size_toArray]<;>omega)
 ·obtain⟨its,r',pl,hz⟩:=I.tuple hq
  have hlen:=r'.length
  obtain⟨o,ho,hc,n,hd⟩:=pl
  exact call_list_seq p (.inr rfl) ho hc hd (λh' c' kp e=>fin its r' hz h' c' kp e) (by simp only[List.size_toArray]<;>omega)
def tyV(K:PySem.W.Frag)(T:String)(x:V)(H:Hp):Prop:=match x with
 | .str _=>T = "str"
 | .int _=>T = "int"
 | .ref p=>(T = "list" /\ ∃xs,SqL K H p xs)\/(T = "tuple" /\ ∃o,K.lookup p=some o/\o.cls=.type "tuple" /\ o.dict=none) \/
   (T = "dict" /\ ((∃kvs,H p=some (.dK kvs))\/∃kvs,H p=some (.dT kvs)))\/(T = "set" /\ ∃S n,H p=some (.set S n))
 | _=>False
theorem tyV_is{pins:List (Addr×Obj)}{σ:St}{H:Hp}{s:Shared}{T:String}{x:V}{v:Value}(I:Inv X pins σ H s)(r:bS x v)(ty:tyV X.K T x H) :
  s.TypeIs v T/\∀a,v=.ref a->∃ob,s.heap.get? a=some ob/\ob.dict=none:=by
 cases x with
 | str z =>
  obtain⟨t,rfl⟩:=r
  cases (show T = "str" from ty)
  exact⟨typeIs_str s z t,λ_ e=>nomatch e⟩
 | int i =>
  obtain⟨t,rfl⟩:=r
  cases (show T = "int" from ty)
  exact⟨typeIs_int s i t,λ_ e=>nomatch e⟩
 | ref p =>
  cases r
  rcases ty with ⟨rfl,xs,hq⟩ | ⟨rfl,o,hk,hc,hd⟩ | ⟨rfl,hk⟩ | ⟨rfl,S,n,hk⟩
  ·obtain⟨its,_,pl,_⟩:=I.list hq
   refine⟨pl.isList.typeIs,λa e=>?_⟩
   cases e
   obtain⟨o,n,e,c,hd,_⟩:=pl
   exact⟨o,e,hd⟩
  ·refine⟨⟨o,I.kIn p o hk,hc⟩,λa e=>?_⟩
   cases e
   exact⟨o,I.kIn _ o hk,hd⟩
  ·have z:∃o,s.heap.get? p=some o/\o.ExactDict:=by
    rcases hk with ⟨kvs,hk⟩ | ⟨kvs,hk⟩
    ·obtain⟨_,_,_,_,o,_,_,e,ex,_⟩:=I.hok p _ hk
     exact⟨o,e,ex⟩
    ·obtain⟨_,_,_,_,o,_,_,e,ex,_⟩:=I.hok p _ hk
     exact⟨o,e,ex⟩
   obtain⟨o,e,ex⟩:=z
   refine⟨⟨o,e,ex.1⟩,λa e2=>?_⟩
   cases e2
   exact⟨o,e,ex.2.1⟩
  ·obtain⟨o,_,_,_,e,ex,_⟩:=I.hok p _ hk
   refine⟨⟨o,e,ex.1⟩,λa e2=>?_⟩
   cases e2
   exact⟨o,e,ex.2.1⟩
 | _=>exact False.elim ty
def tBM0(K:PySem.W.Frag)(T:String)(r:V->List V->Hp->VK->Prop)(to:TE):TE:=λσ H Q=>to σ H λx H1=>tyV K T x H1/\r x [] H1 Q
def tBM(K:PySem.W.Frag)(T:String)(r:V->List V->Hp->VK->Prop)(to:TE)(t:TA):TE:=λσ H Q=>to σ H λx H1=>tyV K T x H1/\t σ H1 λxs H2=>r x xs H2 Q
variable{o e:Expr}{es:List Expr}{to:TE}{t:TA}{name:Str}{apos cpos:Pos}{T id:String}{r:V->List V->Hp->VK->Prop}
theorem pe_bm0(pa:PlainAttrs T)(slot:Slot T name id)(hty:typeOf (.builtin id)=pure (.type "method_descriptor"))(hm:MtR X id r)(ho:PE X o to)
  (hbase:attributeBase o name X.env (eval o X.env)=eval o X.env:=by rfl) (hline:(apos.endLine==cpos.line)=true:=by rfl):PE X (.Call (.Attribute o name apos) [] [] cpos) (tBM0 X.K T r to):=by
 intro pins s σ H Q I h
 refine wpAny_Call_method0_late hbase hline (thn (ho pins s σ H _ I h) λv s1 ⟨x,H1,I1,r1,ty,q1⟩=>?_)
 obtain⟨h1,h2⟩:=tyV_is I1 r1 ty
 exact⟨T,id,pa,slot,hty,h1,h2,Calls.callWith_builtin rfl (PySem.evalArgs_none (hm pins s1 σ H1 x [] v [] Q I1 r1 .nil q1))⟩
theorem pe_bm(pa:PlainAttrs T)(slot:Slot T name id)(hty:typeOf (.builtin id)=pure (.type "method_descriptor"))(hm:MtR X id r)(ho:PE X o to)(ha:PA X (e::es) t)
  (hbase:attributeBase o name X.env (eval o X.env)=eval o X.env:=by rfl)
  (hfew:((backTo cpos (starEach (e::es) X.env)).all (λx=>!x.1)&&(backToKw cpos (keywordEach [] X.env)).all (λx=>x.1.isSome)
   && decide ((e::es).length+([]:List Keyword).length+(if ([]:List Keyword).isEmpty then 0 else 1)<30))=true:=by rfl)
  (hline:(apos.endLine==cpos.line)=true:=by rfl) (hs:starEach (e::es) X.env=(false,eval e X.env)::starEach es X.env:=by rfl) (hplain:(backTo cpos (starEach es X.env)).any (·.1)=false:=by rfl) :
  PE X (.Call (.Attribute o name apos) (e::es) [] cpos) (tBM X.K T r to t):=by
 intro pins s σ H Q I h
 refine wpAny_Call_method_late hbase hfew hline rfl (thn (ho pins s σ H _ I h) λv s1 ⟨x,H1,I1,r1,ty,q1⟩=>?_)
 obtain⟨h1,h2⟩:=tyV_is I1 r1 ty
 refine⟨T,id,pa,slot,hty,h1,h2,?_⟩
 have hA:=ha cpos pins s1 σ H1 _ I1 q1
 rw[hs] at hA ⊢
 refine Calls.callWith_builtin (by show(false||(backTo cpos (starEach es X.env)).any (·.1))=false;rw[hplain]<;>rfl) (Calls.evalArgs_plain ?_)
 exact thn hA λus s2 ⟨vs,H2,I2,r2,q2⟩=>hm pins s2 σ H2 x vs v us Q I2 r1 r2 q2
end
end L2
namespace L2
open PySem PySem.Spec PyProof.Rows
def MtM(X:Cx)(id:String)(r:V->List V->Hp->VK->Prop):Prop :=
 ∀(pins:List (Addr×Obj)) (s:Shared) (σ:St) (H:Hp) (x:V) (xs:List V) (v:Value) (us:List Value) (Q:VK),Inv X pins σ H s->bS x v->aU xs us->r x xs H Q ->
  wpAny (model X.prog X.w) X.A (call (.builtin id) (v::us)) (EP X pins σ Q) X.xe s
theorem aU.one:∀{x:V} {us:List Value},aU [x] us->∃u,us=[u]/\bS x u
 | _,_,.cons r .nil=>⟨_,rfl,r⟩
theorem aU.zero:∀{us:List Value},aU [] us->us=[]
 | _,.nil=>rfl
theorem aU.dropLast{xs:List V}{us:List Value}(h:aU xs us):aU xs.dropLast us.dropLast:=by
 induction h with
 | nil=>exact .nil
 | cons r t ih =>
  cases t with
  | nil=>exact .nil
  | cons q t'=>exact .cons r ih
theorem aU.reverse{xs:List V}{us:List Value}(h:aU xs us):aU xs.reverse us.reverse:=by
 induction h with
 | nil=>exact .nil
 | cons r t ih=>rw[List.reverse_cons,List.reverse_cons];exact aU.append ih (.cons r .nil)
theorem aU.rep{xs:List V}{us:List Value}(h:aU xs us):∀k:Nat,aU (List.replicate k xs).flatten (List.replicate k us).flatten
 | 0=>.nil
 | k+1=>by
  rw[List.replicate_succ,List.replicate_succ,List.flatten_cons,List.flatten_cons]
  exact aU.append h (aU.rep h k)
theorem erase_last{α:Type}(l:List α):l.eraseIdx (l.length-1)=l.dropLast:=by
 induction l with
 | nil=>rfl
 | cons a r ih =>
  cases r with
  | nil=>rfl
  | cons b r =>
   have e:(a::b::r).length-1=((b::r).length-1)+1:=by
    have h1:(a::b::r).length=r.length+2:=rfl
    have h2:(b::r).length=r.length+1:=rfl
    omega
   rw[e,List.eraseIdx_cons_succ,ih]
   all_goals rfl
theorem foldl_rep(its:List Value):∀(k:Nat) (acc:List Value),
  List.foldl (λx1 x2=>x1++x2) acc.toArray (List.replicate k its.toArray)=(acc++(List.replicate k its).flatten).toArray
 | 0,acc=>by simp
 | k+1,acc=>by
  have e:acc.toArray++its.toArray=(acc++its).toArray:=by simp
  have e2:(acc++its)++(List.replicate k its).flatten=acc++(List.replicate (k+1) its).flatten:=by
   rw[List.replicate_succ,List.flatten_cons,List.append_assoc]
  rw[<-e2,<-foldl_rep its k (acc++its),<-e,List.replicate_succ,List.foldl_cons]
section
variable{X:Cx}{pins:List (Addr×Obj)}{σ:St}{H:Hp}{s:Shared}{l b:Addr}{xs ys zs:List V}
theorem Inv.lset{its its':List Value}{n:Nat}{f:Array Value->Array Value}{t':Nat}(I:Inv X pins σ H s)(hH:H l=some (.lst xs))
  (e:s.heap.get? l=some { cls:=.type "list",data:=.seq its.toArray n }) (hf:f its.toArray=its'.toArray) (hv:aU ys its') (hz:ys.length<=sizeLine) :
  Inv X pins σ (upd H l (.lst ys)) { s with heap:=s.heap.update l (Obj.mapSeq f),toks:=t' }:=by
 have q:=PySem.IsL.update e f
 rw[hf] at q
 refine I.write (x:=l) (e:=l) (by rw[hH];exact trivial) (.inl rfl) (λb' u hb hu=>(Heap.get?_update_other s.heap (Obj.mapSeq f) (Ne.symm hb)).trans hu) ⟨_,q⟩ ?_
 exact⟨hz,its',_,hv,q⟩
theorem Inv.lnew{its:List Value}{t':Nat}(I:Inv X pins σ H s)(hv:aU ys its)(hz:ys.length<=sizeLine) :
  Inv X pins σ (upd H s.heap.objs.size (.lst ys)) { s with heap:=s.heap.push { cls:=.type "list",data:=.seq its.toArray },toks:=t' } :=
 I.laid (λ_ _ q=>Heap.get?_push_of_some _ q) (Nat.le_refl _) ⟨hz,its,0,hv,Heap.get?_push_size _ rfl⟩
theorem Inv.fresh(I:Inv X pins σ H s):H s.heap.objs.size=none:=I.hok.fresh (Nat.le_refl _)
theorem Inv.lstM(I:Inv X pins σ H s)(hH:H l=some (.lst xs)):xs.length<=sizeLine/\∃(its:List Value) (n:Nat),aU xs its/\xs.length=its.length/\s.heap.get? l=some { cls:=.type "list",data:=.seq its.toArray n }:=by
 obtain⟨z,its,n,r,e⟩:=I.hok l _ hH
 exact⟨z,its,n,r,r.length,e⟩
theorem notLongL{n:Nat}(h:n<=sizeLine):Builtin.List.listTooLong n=false:=by
 unfold Builtin.List.listTooLong
 exact decide_eq_false (by omega)
end
section
variable{X:Cx}
def rAppend:V->List V->Hp->VK->Prop:=λx vs H Q=>∃l xs y,x=.ref l/\vs=[y]/\H l=some (.lst xs)/\xs.length<sizeLine/\Q .non (upd H l (.lst (xs++[y])))
theorem mt_append:MtM X "list.append" rAppend:=by
 intro pins s σ H x vs v us Q I rx rv h
 obtain⟨l,xs,y,rfl,rfl,hH,hz,q⟩:=h
 cases rx
 obtain⟨u,rfl,ru⟩:=rv.one
 obtain⟨z,its,n,r,hl,e⟩:=I.lstM hH
 refine call_meets F.slot_list_append ⟨_,e,rfl⟩ F.entry_list_append (F.args_list_append_2 _ _) (PySem.list_append l its.toArray n u (by rw[List.size_toArray];omega)) ⟨e,?_⟩
 refine⟨.non,_,I.lset (its':=its++[u]) hH e (by simp) (r.append (.cons ru .nil)) ?_,rfl,q⟩
 rw[List.length_append,List.length_singleton]
 omega
def rExtend:V->List V->Hp->VK->Prop:=λx vs H Q=>∃l b xs zs,x=.ref l/\vs=[.ref b]/\H l=some (.lst xs)/\H b=some (.lst zs)/\xs.length+zs.length<=sizeLine/\Q .non (upd H l (.lst (xs++zs)))
theorem mt_extend:MtM X "list.extend" rExtend:=by
 intro pins s σ H x vs v us Q I rx rv h
 obtain⟨l,b,xs,zs,rfl,rfl,hH,hB,hz,q⟩:=h
 cases rx
 obtain⟨u,rfl,ru⟩:=rv.one
 cases ru
 obtain⟨z,its,n,r,hl,e⟩:=I.lstM hH
 obtain⟨z2,its2,n2,r2,hl2,e2⟩:=I.lstM hB
 have hsz:its.toArray.size+its2.toArray.size<=sizeLine:=by rw[List.size_toArray,List.size_toArray];omega
 have hlong:¬(!its.toArray.isEmpty&&Builtin.List.listTooLong (its.toArray.size+its2.toArray.size))=true:=by
  rw[notLongL hsz,Bool.and_false]
  exact Bool.false_ne_true
 refine call_meets F.slot_list_extend ⟨_,e,rfl⟩ F.entry_list_extend (F.args_list_extend_2 _ _)
  (AutoSeq1.list_extend_list_list_0 l its.toArray n b its2.toArray n2 hlong (by rw[List.size_toArray];omega) (by omega)) ⟨e,e2,?_⟩
 refine⟨.non,_,I.lset (its':=its++its2) hH e (by simp) (r.append r2) ?_,rfl,q⟩
 rw[List.length_append]
 omega
def rPop:V->List V->Hp->VK->Prop:=λx vs H Q=>∃l xs y,x=.ref l/\vs=[]/\H l=some (.lst xs)/\xs[xs.length-1]?=some y/\Q y (upd H l (.lst xs.dropLast))
theorem mt_pop:MtM X "list.pop" rPop:=by
 intro pins s σ H x vs v us Q I rx rv h
 obtain⟨l,xs,y,rfl,rfl,hH,hy,q⟩:=h
 cases rx
 have hus:=rv.zero
 subst hus
 obtain⟨z,its,n,r,hl,e⟩:=I.lstM hH
 obtain⟨u,hu,ru⟩:=r.get hy
 have hy':its.toArray[its.toArray.size-1]?=some u:=by
  show its.toArray[its.length-1]?=some u
  rw[<-Array.getElem?_toList,<-hl]
  exact hu
 refine call_meets F.slot_list_pop ⟨_,e,rfl⟩ F.entry_list_pop (F.args_list_pop_1 _) (MeetsSeq.list_pop_last l its.toArray n u hy' (by rw[List.size_toArray];omega)) ⟨e,?_⟩
 refine⟨y,_,I.lset (its':=its.dropLast) hH e ?_ r.dropLast ?_,ru,q⟩
 ·show its.toArray.eraseIdxIfInBounds (its.toArray.size-1)=its.dropLast.toArray
  rw[List.size_toArray,List.eraseIdxIfInBounds_toArray,erase_last]
 ·rw[List.length_dropLast]
  omega
def rRep:R2:=λx y H Q=>∃l k xs,x=.ref l/\y=.int k/\H l=some (.lst xs) /\ -(2 ^ 63)<=k/\k<2 ^ 63/\xs.length*k.toNat<=sizeLine /\
 ∀p,H p=none->Q (.ref p) (upd H p (.lst (List.replicate k.toNat xs).flatten))
theorem len_rep{α:Type}(xs:List α)(k:Nat):(List.replicate k xs).flatten.length=k*xs.length:=by
 induction k with
 | zero=>simp
 | succ k ih=>rw[List.replicate_succ,List.flatten_cons,List.length_append,ih,Nat.succ_mul,Nat.add_comm]
theorem op_rep:OpR X (binaryOp .Mult) rRep:=by
 intro pins s σ H x y v u Q I rx ry h
 obtain⟨l,k,xs,rfl,rfl,hH,h1,h2,hz,q⟩:=h
 cases rx
 obtain⟨t,rfl⟩:=ry
 obtain⟨z,its,n,r,hl,e⟩:=I.lstM hH
 have hlen:its.toArray.size*k.toNat<=sizeLine:=by rw[List.size_toArray,<-hl];exact hz
 have hcap:¬its.toArray.size*k.toNat > (2 ^ 63-1) / 8:=by
  have:(sizeLine:Nat)<=(2 ^ 63-1) / 8:=by decide
  omega
 have hfit:¬(!Builtin.List.listFitsIndex k)=true:=by
  rw[fitsIndex_both h1 h2]
  exact Bool.false_ne_true
 have hlong:¬Builtin.List.listTooLong (its.toArray.size*k.toNat)=true:=by
  rw[notLongL hlen]
  exact Bool.false_ne_true
 have hnew:List.foldl (λx1 x2=>x1++x2) #[] (List.replicate (if its.toArray.isEmpty=true then 0 else k.toNat) its.toArray)=(List.replicate k.toNat its).flatten.toArray:=by
  have f0:∀m:Nat,List.foldl (λx1 x2=>x1++x2) #[] (List.replicate m its.toArray)=(List.replicate m its).flatten.toArray:=λm=>by
   have:=foldl_rep its m []
   rw[List.nil_append] at this
   exact this
  rw[f0]
  cases its with
  | nil=>simp
  | cons a r'=>rw[if_neg (by simp)]
 refine wpAny_binaryOp_repeat_ref (T := "list") (U := "int") (by decide) ⟨_,e,rfl⟩ (λs'=>typeIs_int s' k t) noFill_list_mul F.fills_int_mul F.slot_int_rmul repeat_list F.slot_int_index.lookup
  (call_meets F.slot_int_rmul (typeIs_int s k t) F.entry_int_rmul (F.args_int_rmul_2 _ _) (int___rmul___int_list k t l its.toArray n)
   ⟨e,rfl,⟨_,e,rfl⟩,call_meets F.slot_list_mul ⟨_,e,rfl⟩ F.entry_list_mul (F.args_list_mul_2 _ _) (AutoListH.list___mul___list_int_3 l its.toArray n k t hfit hcap hlong) ⟨e,?_⟩⟩)
 rw[hnew]
 exact⟨.ref _,_,I.lnew (t':=s.toks) (r.rep k.toNat) (by rw[len_rep,Nat.mul_comm];exact hz),rfl,q _ I.fresh⟩
end
section
variable{prog:Program}{w:World}{A:Around}{E:Value->Shared->Prop}{s:Shared}
end
section
variable{X:Cx}
end
end L2
namespace Att
open PySem PySem.W PySem.Calls PyProof.Rows
theorem ints_of_wellAll{P:Params}{h:Heap}:∀(ns:List Int) (vs:List Value),WellAll P h vs (ns.map WData.int)->IntsAre vs ns:=by
 intro ns
 induction ns with
 | nil =>
  intro vs w
  rw[List.map_nil] at w
  cases w
  exact .nil
 | cons n ns ih =>
  intro vs w
  rw[List.map_cons] at w
  cases w with
  | cons a b =>
   cases a
   exact .cons _ _ (ih _ b)
theorem script_of{l:OpenLaw}{n:Nat}(hn:l.most=some n){P:Params}{h:Heap}{args:List WData}{vals:List Value}
  (hpre:l.row.toRowW.claim.pre args=true) (hwl:WellAll P h vals args) :
  ∃a vs ns,vals=[Value.ref a]/\args=[WData.list (ns.map WData.int)]/\h.get? a=some { cls:=.type "list",data:=.seq vs.toArray }/\IntsAre vs ns/\ns.length<=n:=by
 have hsh:WShape.hasAll [] args [.list .int]=true:=(pre_splitW hpre).1
 have hc:l.pre.holds [] { args:=args }=true:=(pre_splitW hpre).2
 obtain⟨d,r,rfl,h1,h2⟩:=hasAllW_cons hsh
 obtain rfl:=hasAllW_nil h2
 obtain⟨xs,rfl,h3⟩:=hasW_list h1
 obtain⟨ns,rfl⟩:=items_int h3
 have hlen:ns.length<=n:=by
  unfold OpenLaw.pre at hc
  have h4:(WTm.not (.lt (.lit (.int (n:Int))) (.len (.arg 0)))).holds [] { args:=[.list (ns.map .int)] }=true:=by
   have h4:=(holds_andW hc).1
   rw[hn] at h4
   exact h4
  have h5:=condW_of h4 (w_not (w_lt w_lit (w_len_list (w_arg rfl))))
  rw[List.length_map] at h5
  refine Nat.le_of_not_lt λq=>?_
  have q':(n:Int)<((ns.length:Nat):Int):=by omega
  first
   | (rw[decide_eq_true q'] at h5;exact absurd h5 (by decide))
   | (simp at h5;omega)
 cases hwl with
 | cons w1 w2 =>
  cases w2
  cases w1 with
  | list ho hall=>exact⟨_,_,ns,rfl,rfl,ho,ints_of_wellAll ns _ hall,hlen⟩
theorem post_true(l:OpenLaw)(args:List WData):l.row.toRowW.claim.post args (.bool true) args=true :=
 postW_of (r:=l.row.toRowW) (X:=(true==true))
  (show WShape.has [] (.bool true) .bool=true by first | rfl | decide | simp [WShape.has,WShape.arms,WShape.armsAll])
  (show(WTm.eq .res (.lit (.bool true))).value [] { args:=args,res:=some (.bool true),after:=args }=some (.bool (true==true)) from w_eq_bool (w_res rfl) w_lit) rfl
theorem attach_call{l:OpenLaw}{n:Nat}{q:Program}{loose:List Str}{XP:(Str->Option Value)->Heap->Prop}{YP:World->Heap->Prop}{d:DefRec}
  (hn:l.most=some n) (hdf:d.params.defaults=[])
  (call:∀(w:World) (s₀ s₁:Shared) (mg mb:Str->Option Value) (fa:Addr) (o:Obj) (pm cd doc:Value) (a:Addr) (vs:List Value) (ns:List Int),
   Ground q loose [] XP w s₀ mg mb s₁.heap->YP w s₁.heap ->
   s₁.heap.get? fa=some o->o.data=.func (docDef d.name d.params d.body d.scope pm cd doc)->s₁.heap.CodeRec cd d.name->mg d.name=some (.ref fa) ->
   s₁.heap.get? a=some { cls:=.type "list",data:=.seq vs.toArray }->IntsAre vs ns->ns.length<=n->s₁.gens=#[] ->
   codeAny (model l.prog w) callerA (.call (.ref fa) ⟨[.ref a],[]⟩) (λr s'=>r=.ok (.ret (.bool true))/\OldK s₁.heap s'.heap/\s'.os=s₁.os/\AllBare s'.gens) s₁) :
  WalkO q loose XP YP l.row.toRowW d [] (λf vs=>PySem.call f vs):=by
 intro w s₀ s₁ mg mb G Y fa o pm cd doc dV kV ho hd hcd hD hmg hg args vals as hpre hlay hrd hwl hlo
 obtain rfl:dV=.none:=Dflts.none hD hdf
 obtain rfl:kV=.none:=Dflts.noKw hD
 obtain⟨a,vs,ns,rfl,rfl,hobj,hints,hlen⟩:=script_of hn hpre hwl
 refine enter_call (codeAny_mono (call w s₀ s₁ mg mb fa o pm cd doc a vs ns G Y ho (fd_plain hd) hcd hmg hobj hints hlen hg) λr s' hq=>?_)
 obtain⟨rfl,h2,h3,h4⟩:=hq
 exact⟨.inl ⟨.bool true,.bool true,[],rfl,λ_=>rfl,.bool true,post_true l _,λ_=>⟨List.Pairwise.nil,λ_ hm=>(nomatch hm)⟩⟩,h2,h3,h4⟩
section
variable{prog:Program}{w:World}{A:Around}{E:Value->Shared->Prop}{s:Shared}{K:Frag}
end
end Att
namespace L2
open PySem PySem.Spec PyProof.Rows
theorem vals_ints:∀{vs:List Value} {ns:List Int},IntsAre vs ns->aU (ns.map V.int) vs
 | _,_,.nil=>.nil
 | _,_,.cons n t h=>.cons ⟨t,rfl⟩ (vals_ints h)
def Only(H:Hp):Prop:=∀b,H b=none\/∃o xs,H b=some (.frz o (.lst xs))
theorem law_call{P:Program}{w:World}{K:PySem.W.Frag}{mg mb:Str->Option Value}{CX:CXT}{k:Nat}{fa a:Addr}{fd:FuncData}{x:Str}{sp:Sp}{s₁:Shared}{vs:List Value}{ns:List Int}
  (KX:K.In s₁.heap) (hns:s₁.heap.Ns mainGlobals mg) (hb:s₁.heap.Ns builtinsNs mb) (hbb:∀x:Str,x ≠ "__name__" -> mb x=bootBuiltins x) (hlim:s₁.heap.NoLimit) (hg:s₁.gens=#[])
  (ha:s₁.heap.get? a=some { cls:=.type "list",data:=.seq vs.toArray }) (hi:IntsAre vs ns) (hl:ns.length<=sizeLine) (hr:Room k callerA)
  (F:∀base:Heap,K.In base->base.Ns mainGlobals mg->FnOk P w K mg base CX k fa fd [x] sp) (hbind:∀(s:Shared) (u:Value),BindsTo s fd ⟨[u],[]⟩ [(x,u)])
  (hsp:∀H:Hp,Only H->SqL K H a (ns.map V.int)->sp [.ref a] H (λv _=>v=.bl true) λ_ _ _=>False)
  (hCX:∀H e s',CX [] H s₁ (λ_ _ _=>False) e s'->False) :
  codeAny (model P w) callerA (.call (.ref fa) ⟨[.ref a],[]⟩) (λr s'=>r=.ok (.ret (.bool true))/\OldK s₁.heap s'.heap/\s'.os=s₁.os/\AllBare s'.gens) s₁:=by
 have rv:=vals_ints hi
 have lenV:=hi.length
 have core:∀H:Hp,Only H->SqL K H a (ns.map V.int)->HOk P w H s₁.heap->(∀b,H b≠none->b=a)->(H a≠none->K.lookup a=none) ->
   codeAny (model P w) callerA (.call (.ref fa) ⟨[.ref a],[]⟩) (λr s'=>r=.ok (.ret (.bool true))/\OldK s₁.heap s'.heap/\s'.os=s₁.os/\AllBare s'.gens) s₁:=by
  intro H hO hS hok hA hK
  have base_of:∀{b:Addr} {o:Obj},s₁.heap.get? b=some o->H b=none->(hidT s₁.heap H).get? b=some o:=λe n=>hidT_get e n
  have noA:∀{b:Addr} {o:Obj} {es:Array DictEntry} {ep:Nat},s₁.heap.get? b=some o->o.data=.dict es ep->H b=none:=λ{b o es ep} e d=>by
   cases q:H b with
   | none=>rfl
   | some u =>
    have e':b=a:=hA b (by rw[q];simp)
    subst e'
    rw[ha] at e;cases e
    have d':Data.seq vs.toArray _=Data.dict es ep:=d
    cases d'
  have nsK:∀{b:Addr} {m:Str->Option Value},s₁.heap.Ns b m->(hidT s₁.heap H).Ns b m:=λ{b m} ⟨o,es,ep,e,d,r⟩=>⟨o,es,ep,base_of e (noA e d),d,r⟩
  have hKb:K.In (hidT s₁.heap H):=λb o e=>base_of (KX b o e) (by
   cases q:H b with
   | none=>rfl
   | some u =>
    have e':b=a:=hA b (by rw[q];simp)
    subst e'
    rw[hK (by rw[q];simp)] at e;cases e)
  have hM:Mod K mg (hidT s₁.heap H):=⟨hKb,nsK hns,⟨mb,nsK hb,hbb⟩,let ⟨mc,h1,h2⟩:=hlim;⟨mc,nsK h1,h2⟩⟩
  have e0:Env0 P w K mg (hidT s₁.heap H) callerA [] s₁ H:=⟨rfl,hM,λb o e=>of_hidT e,Nat.le_of_eq (hidT_size _ _),trivial,λb hb=>absurd (show b∈([]:List Addr) from hb) (by simp),hok,.of_eq hg⟩
  refine codeAny_mono ((F _ hKb (nsK hns)).run callerA [] s₁ H ⟨[.ref a],[]⟩ [.ref a] [.ref a] _ _ hr e0 (hbind s₁ (.ref a)) (.cons rfl .nil) (hsp H hO hS)) λr s' h=>?_
  cases r with
  | error e=>exact(hCX H e s' h).elim
  | ok fl =>
   cases fl with
   | next=>exact False.elim h
   | brk=>exact False.elim h
   | cont=>exact False.elim h
   | ret u =>
    obtain⟨v,H',os,bare,un,hok',r',q⟩:=h
    have q':v=.bl true:=q
    subst q'
    obtain rfl:u=Value.bool true:=r'
    refine⟨rfl,OldK.of_keep λb o e=>?_,os,bare⟩
    cases q:H b with
    | none=>exact un.keep b o e q (by intro z;exact absurd (show b∈([]:List Addr) from z) (by simp)) (by simp)
    | some u =>
     rcases hO b with z | ⟨ob,xs,z⟩
     ·rw[q] at z;cases z
     ·have z2:=un.frzs b ob _ z
      obtain⟨e1,_⟩:=hok b _ z
      obtain⟨e2,_⟩:=hok' b _ z2
      rw[e] at e1;cases e1
      exact e2
 cases hk:K.lookup a with
 | some o =>
  have e:=KX a o hk
  rw[ha] at e
  cases e
  refine core (λ_=>none) (λ_=>.inl rfl) (.inr ⟨_,vs.toArray,_,hk,rfl,rfl,rfl,by rw[List.size_toArray,lenV];exact hl,by simpa using rv⟩) (λb u z=>by have z':(none:Option HO)=some u:=z;cases z') (λb z=>absurd rfl z) λz=>absurd rfl z
 | none =>
  refine core (λb=>if b=a then some (.frz { cls:=.type "list",data:=.seq vs.toArray } (.lst (ns.map V.int))) else none) (λb=>?_) (.inl (.inr ⟨{ cls:=.type "list",data:=.seq vs.toArray },if_pos rfl⟩)) (λb u z=>?_) (λb z=>?_) λ_=>hk
  ·by_cases hb:b=a
   ·exact .inr ⟨_,_,if_pos hb⟩
   ·exact .inl (if_neg hb)
  ·by_cases hb:b=a
   ·have z':=(if_pos hb).symm.trans z
    cases z'
    subst hb
    exact⟨ha,by rw[List.length_map];exact hl,vs,_,rv,ha⟩
   ·have z':=(if_neg hb).symm.trans z
    cases z'
  ·by_cases hb:b=a
   ·exact hb
   ·exact absurd (if_neg hb) z
end L2
namespace L2
open PySem PySem.Spec PyProof.Rows
abbrev KOf{K:PySem.W.Frag}{h:Heap}(_:K.In h):PySem.W.Frag:=K
theorem walk_of{l:PySem.W.OpenLaw}{n k:Nat}{q:Program}{loose:List Str}{XP:(Str->Option Value)->Heap->Prop}{YP:World->Heap->Prop}{d:DefRec}{K:Params->PySem.W.Frag}{CX:World->CXT}{sp:World->Sp}{x:Str}
  (hn:l.most=some n) (hn2:n<=sizeLine) (hdf:d.params.defaults=[]) (hr:Room k callerA)
  (hY:∀(w:World) (h:Heap),YP w h->(K w.params).In h)
  (F:∀(w:World) (mg:Str->Option Value) (fa:Addr) (h:Heap),(K w.params).In h->h.Ns mainGlobals mg->mg d.name=some (.ref fa) ->
   ∃fd:FuncData,(∀(s:Shared) (u:Value),BindsTo s fd ⟨[u],[]⟩ [(x,u)]) /\
    ∀base:Heap,(K w.params).In base->base.Ns mainGlobals mg->FnOk l.prog w (K w.params) mg base (CX w) k fa fd [x] (sp w))
  (hsp:∀(w:World) (H:Hp) (a:Addr) (ns:List Int),ns.length<=n->Only H->SqL (K w.params) H a (ns.map V.int)->sp w [.ref a] H (λv _=>v=.bl true) λ_ _ _=>False)
  (hCX:∀(w:World) (H:Hp) (s:Shared) (e:Value) (s':Shared),CX w [] H s (λ_ _ _=>False) e s'->False) :
  PySem.W.WalkO q loose XP YP l.row.toRowW d [] (λf vs=>PySem.call f vs):=by
 refine Att.attach_call hn hdf λw s₀ s₁ mg mb fa o pm cd doc a vs ns G Y ho hd hcd hmg hobj hints hlen hg=>?_
 have KX:=hY w _ Y
 obtain⟨fd,hb,hF⟩:=F w mg fa _ KX G.T.g hmg
 exact law_call KX G.T.g G.T.b G.T.builtins G.T.nolimit hg hobj hints (Nat.le_trans hlen hn2) hr hF hb (λH hO hS=>hsp w H a ns hlen hO hS) λH e s'=>hCX w H s₁ e s'
end L2
namespace L2
open PySem PySem.Spec PyProof.Rows
def aV(s:Stmt):Arguments:=match s with
 | .FunctionDef _ a _ _ _ _ _ _ _ _=>a
 | _=>{ posonlyargs:=[],args:=[],vararg:=none,kwonlyargs:=[],kw_defaults:=[],kwarg:=none,defaults:=[] }
def aI(s:Stmt):List Stmt:=match s with
 | .FunctionDef _ _ b _ _ _ _ _ _ _=>b
 | _=>[]
def aj(s:Stmt):Scope:=match s with
 | .FunctionDef _ _ _ _ _ _ sc _ _ _=>sc
 | _=>{ kind:=.function,names:=[],isGenerator:=false,isCoroutine:=false }
abbrev CX0:CXT:=λ_ _ _ _ _ _=>False
abbrev E0:XK:=λ_ _ _=>False
theorem pass0{X:Cx}:Passes CX0 X E0:=λ_ _ _ _ _ _ _ h=>h.elim
structure Fun(K:PySem.W.Frag)(x qual:Str)(st:Stmt)(f:Addr)(fd:FuncData):Prop where
 ex:∃(oc:Value) (od:Option Addr) (kV doc pm:Value) (an:Option Addr) (cdv ct:Value) (osl:Array (Option Value)),
  fd=PySem.W.fnOf x qual (aV st) (aI st) (aj st) .none kV doc pm an cdv ct/\K.lookup f=some ⟨oc,od,.func fd,osl⟩/\PySem.W.codeIn K cdv qual=true
 kp:PySem.W.keepIn K (.ref f)=true
section
variable{P:Program}{w:World}{K:PySem.W.Frag}{mg:Str->Option Value}{base:Heap}
theorem Fun.ok{x qual:Str}{st:Stmt}{f:Addr}{fd:FuncData}{N ps:List Str}{k:Nat}{sp:Sp}(F:Fun K x qual st f fd)(S:FnScope N ps (aj st))(len:∀vs H Q E,sp vs H Q E->vs.length=ps.length)
  (hbody:∀(cdv:Value) (A:Around) (outer:List Env) (s:Shared) (H:Hp) (vs:List V) (Q:VK) (E:XK),Room k (A.deeper (envOfC qual (aj st) s.heap.objs.size f cdv))->sp vs H Q E ->
   ∃t,PSs (cxOf CX0 P w K mg base N qual (aj st) f cdv A outer s H E).nox (aI st) t/\t { nx:=λ_ H'=>Q .non H',rt:=Q } (fN N vs) H):FnOk P w K mg base CX0 (k+1) f fd ps sp:=by
 obtain⟨oc,od,kV,doc,pm,an,cdv,ct,osl,rfl,lk,hcd⟩:=F.ex
 refine fn_of lk hcd S len λA outer s H vs Q E hr hsp=>?_
 obtain⟨t,h,q⟩:=hbody cdv A outer s H vs Q E hr hsp
 exact⟨t,h.nox,q⟩
theorem Fun.binds{x qual:Str}{st:Stmt}{f:Addr}{fd:FuncData}{ps:List Str}(F:Fun K x qual st f fd)
  (h:∀(kV doc pm:Value) (an:Option Addr) (cdv ct:Value) (us:List Value),us.length=ps.length->bindArgs (PySem.W.fnOf x qual (aV st) (aI st) (aj st) .none kV doc pm an cdv ct) ⟨us,[]⟩=pure (ps.zip us)):fU K fd ps []:=by
 obtain⟨oc,od,kV,doc,pm,an,cdv,ct,osl,rfl,lk,hcd⟩:=F.ex
 exact .all (h kV doc pm an cdv ct)
theorem bH{x qual:Str}{st:Stmt}{f:Addr}{oc:Value}{od an:Option Addr}{osl:Array (Option Value)}{kV doc pm cdv ct:Value}(l:K.lookup f=some ⟨oc,od,.func (PySem.W.fnOf x qual (aV st) (aI st) (aj st) .none kV doc pm an cdv ct),osl⟩)
  (c:PySem.W.codeIn K cdv qual=true) (k:PySem.W.keepIn K (.ref f)=true):Fun K x qual st f (PySem.W.fnOf x qual (aV st) (aI st) (aj st) .none kV doc pm an cdv ct):=⟨⟨oc,od,kV,doc,pm,an,cdv,ct,osl,rfl,l,c⟩,k⟩
end
section
variable{X:Cx}
theorem pv(i:Nat){x:Str}{pos:Pos}(hN:X.N[i]?=some x:=by rfl)(hv:Vis X.env.scope x:=by first | exact Or.inl rfl | exact Or.inr (Or.inl rfl) | exact Or.inr (Or.inr rfl))(hd:(x==("__debug__" : Str))=false:=by decide)
  (hcd:(x==("__classdict__" : Str))=false:=by decide):PE X (.Name x pos) (tVar i):=pe_var hN hv hd hcd
end
def aG(H H':Hp):Prop:=∀b o,H b=some o->H' b=some o
theorem aG.refl(H:Hp):aG H H:=λ_ _ h=>h
theorem aG.trans{H H1 H2:Hp}(a:aG H H1)(b:aG H1 H2):aG H H2:=λc o h=>b c o (a c o h)
end L2
namespace DL
open PySem PySem.Spec PyProof.Rows L2
abbrev D:=PyData
abbrev St:=L2.St
structure XD where
 cls:Str
 flds:List (Str×D)
abbrev M(α:Type):=Option (Except XD α)
def M.ret{α:Type}(a:α):M α:=some (.ok a)
def M.thn{α β:Type}(r:M α)(f:α->M β):M β:=match r with
 | none=>none
 | some (.ok a)=>f a
 | some (.error x)=>some (.error x)
def M.lift{α:Type}(r:Option α):M α:=match r with
 | none=>none
 | some a=>some (.ok a)
def ok{α:Type}(G:XD->Prop)(r:M α)(k:α->Prop):Prop:=match r with
 | none=>False
 | some (.ok a)=>k a
 | some (.error x)=>G x
def GS(G:XD->Hp->Prop)(Hr:Hp)(x:XD):Prop:=∀H',aG Hr H'->G x H'
theorem al{α:Type}{G:XD->Prop}{r:M α}{k k':α->Prop}(h:ok G r k)(f:∀a,k a->k' a):ok G r k':=by
 match r,h with
 | some (.ok a),h=>exact f a h
 | some (.error x),h=>exact h
theorem ay{α β:Type}{G:XD->Prop}{r:M α}{f:α->M β}{k:β->Prop}(h:ok G (r.thn f) k):ok G r (λa=>ok G (f a) k):=by
 match r,h with
 | some (.ok a),h=>exact h
 | some (.error x),h=>exact h
theorem cC{α:Type}{G:XD->Prop}{r:Option α}{k:α->Prop}(h:ok G (M.lift r) k):∃a,r=some a/\k a:=by
 match r,h with
 | some a,h=>exact⟨a,rfl,h⟩
theorem aQ{α β:Type}(a:α)(f:α->M β):(M.ret a).thn f=f a:=rfl
theorem thn_some{α β:Type}(a:α)(f:α->M β):M.thn (some (.ok a)) f=f a:=rfl
theorem lift_some{α:Type}(a:α):M.lift (some a)=M.ret a:=rfl
def KL(K:PySem.W.Frag)(a:Addr)(xs:List V):Prop :=
 ∃(o:Obj) (its:Array Value) (n:Nat),K.lookup a=some o/\o.cls=.type "list" /\ o.dict=none/\o.data=.seq its n/\its.size<=sizeLine/\aU xs its.toList
def keyD:Key->D
 | .inl i=>.int i
 | .inr x=>.str x
abbrev iY(nm:Str)(es:List (Str×D)):D:=.dict [(.none,.tuple (.str nm::es.map λe=>.tuple [.str e.1,e.2]))]
def Mu(H:Hp)(l:Addr):Prop:=(∃xs,H l=some (.lst xs))\/(∃kvs,H l=some (.dK kvs))\/∃C dx fs,H l=some (.ins C dx fs)
mutual
inductive Rep(K:PySem.W.Frag)(O:List Addr)(H:Hp):V->D->Prop
 | non:Rep K O H .non .none
 | bl (b:Bool):Rep K O H (.bl b) (.bool b)
 | int (i:Int):Rep K O H (.int i) (.int i)
 | str (x:Str):Rep K O H (.str x) (.str x)
 | tup {a:Addr} {xs:List V} {ds:List D} (h:SqT K H a xs) (r:Reps K O H xs ds):Rep K O H (.ref a) (.tuple ds)
 | lst {a:Addr} {xs:List V} {ds:List D} (h:Rd H a (.lst xs)) (n:a∉O) (r:Reps K O H xs ds):Rep K O H (.ref a) (.list ds)
 | lstK {a:Addr} {xs:List V} {ds:List D} (h:KL K a xs) (r:Reps K O H xs ds):Rep K O H (.ref a) (.list ds)
 | dct {a:Addr} {kvs:List (Key×V)} {es:List (Key×D)} (h:Rd H a (.dK kvs)) (n:a∉O) (hk:kvs.map (·.1)=es.map (·.1)) (r:Reps K O H (kvs.map (·.2)) (es.map (·.2))):Rep K O H (.ref a) (.dict (es.map λe=>(keyD e.1,e.2)))
 | ins {a C dx:Addr} {nm:Str} {fs:List (Str×V)} {es:List (Str×D)} (hN:PySem.W.nsIn K mainGlobals nm=some (some (.ref C))) (h:H a=some (.ins C dx fs)) (n:a∉O) (hk:fs.map (·.1)=es.map (·.1)) (r:Reps K O H (fs.map (·.2)) (es.map (·.2))):Rep K O H (.ref a) (iY nm es)
inductive Reps(K:PySem.W.Frag)(O:List Addr)(H:Hp):List V->List D->Prop
 | nil:Reps K O H [] []
 | cons {v:V} {d:D} {vs:List V} {ds:List D} (r:Rep K O H v d) (rs:Reps K O H vs ds):Reps K O H (v::vs) (d::ds)
end
structure To(O O':List Addr)(H H':Hp):Prop where
 t:∀b xs,Rd H b (.tup xs)->Rd H' b (.tup xs)
 l:∀b xs,b∉O->Rd H b (.lst xs)->b∉O'/\Rd H' b (.lst xs)
 d:∀b xs,b∉O->Rd H b (.dK xs)->b∉O'/\Rd H' b (.dK xs)
 i:∀b C dx fs,b∉O->H b=some (.ins C dx fs)->b∉O'/\H' b=some (.ins C dx fs)
section
variable{K:PySem.W.Frag}{O O':List Addr}{H H':Hp}
theorem To.sqT(k:To O O' H H'){a:Addr}{xs:List V}(h:SqT K H a xs):SqT K H' a xs:=by
 rcases h with h | h
 ·exact .inl (k.t a xs h)
 ·exact .inr h
mutual
theorem Rep.to(k:To O O' H H'):∀{v:V} {d:D},Rep K O H v d->Rep K O' H' v d
 | _,_,.non=>.non
 | _,_,.bl b=>.bl b
 | _,_,.int i=>.int i
 | _,_,.str x=>.str x
 | _,_,.tup h r=>.tup (k.sqT h) (Reps.to k r)
 | _,_,.lst h n r=>.lst (k.l _ _ n h).2 (k.l _ _ n h).1 (Reps.to k r)
 | _,_,.lstK h r=>.lstK h (Reps.to k r)
 | _,_,.dct h n hk r=>.dct (k.d _ _ n h).2 (k.d _ _ n h).1 hk (Reps.to k r)
 | _,_,.ins hN h n hk r=>.ins hN (k.i _ _ _ _ n h).2 (k.i _ _ _ _ n h).1 hk (Reps.to k r)
theorem Reps.to(k:To O O' H H'):∀{vs:List V} {ds:List D},Reps K O H vs ds->Reps K O' H' vs ds
 | _,_,.nil=>.nil
 | _,_,.cons r rs=>.cons (Rep.to k r) (Reps.to k rs)
end
theorem aG.rd(s:aG H H'){b:Addr}{o:HO}(h:Rd H b o):Rd H' b o:=by
 rcases h with h | ⟨u,h⟩
 ·exact .inl (s _ _ h)
 ·exact .inr ⟨u,s _ _ h⟩
theorem To.same(s:aG H H'):To O O H H':=⟨λb xs h=>aG.rd s h,λb xs n h=>⟨n,aG.rd s h⟩,λb xs n h=>⟨n,aG.rd s h⟩,λb C dx fs n h=>⟨n,s _ _ h⟩⟩
theorem To.less(s:∀b,b∈O'->b∈O):To O O' H H:=⟨λb xs h=>h,λb xs n h=>⟨λz=>n (s b z),h⟩,λb xs n h=>⟨λz=>n (s b z),h⟩,λb C dx fs n h=>⟨λz=>n (s b z),h⟩⟩
theorem Rep.same(s:aG H H'){v:V}{d:D}(r:Rep K O H v d):Rep K O H' v d:=r.to (.same s)
theorem Reps.same(s:aG H H'){v:List V}{d:List D}(r:Reps K O H v d):Reps K O H' v d:=r.to (.same s)
theorem Rd.ne_new{b l:Addr}{o:HO}(h:Rd H b o)(hl:H l=none):b≠l:=by
 rcases h with h | ⟨u,h⟩
 ·exact aK h hl
 ·exact aK h hl
theorem bm{l:Addr}{o:HO}(hl:H l=none):aG H (upd H l o):=λb u e=>by
 rw[upd_ne (aK e hl)]
 exact e
theorem To.own{l:Addr}{o:HO}(hl:H l=none):To O (l::O) H (upd H l o) :=
 ⟨λb xs h=>aG.rd (bm hl) h,λb xs n h=>⟨λz=>by
  rcases List.mem_cons.mp z with z | z
  ·exact Rd.ne_new h hl z
  ·exact n z,aG.rd (bm hl) h⟩,λb xs n h=>⟨λz=>by
  rcases List.mem_cons.mp z with z | z
  ·exact Rd.ne_new h hl z
  ·exact n z,aG.rd (bm hl) h⟩,λb C dx fs n h=>⟨λz=>by
  rcases List.mem_cons.mp z with z | z
  ·exact aK h hl z
  ·exact n z,bm hl _ _ h⟩⟩
theorem To.set{l:Addr}{xs ys:List V}(hl:H l=some (.lst xs))(ho:l∈O):To O O H (upd H l (.lst ys)):=by
 have keep:∀{b:Addr} {o:HO},b≠l->Rd H b o->Rd (upd H l (.lst ys)) b o:=λ{b o} hb h=>by
  rcases h with h | ⟨u,h⟩
  ·exact .inl (by rw[upd_ne hb];exact h)
  ·exact .inr ⟨u,by rw[upd_ne hb];exact h⟩
 refine⟨λb zs h=>keep ?_ h,λb zs n h=>⟨n,keep (λz=>n (z▸ho)) h⟩,λb zs n h=>⟨n,keep (λz=>n (z▸ho)) h⟩,λb C dx fs n h=>⟨n,by rw[upd_ne (show b≠l from λz=>n (z▸ho))];exact h⟩⟩
 rintro rfl
 rcases h with h | ⟨u,h⟩
 ·rw[hl] at h;cases h
 ·rw[hl] at h;cases h
theorem Rep.int_inv{v:V}{i:Int}(r:Rep K O H v (.int i)):v=.int i:=by cases r;rfl
theorem Rep.bool_inv{v:V}{i:Bool}(r:Rep K O H v (.bool i)):v=.bl i:=by cases r;rfl
theorem Rep.str_inv{v:V}{i:Str}(r:Rep K O H v (.str i)):v=.str i:=by cases r;rfl
theorem Rep.tup_inv{v:V}{ds:List D}(r:Rep K O H v (.tuple ds)):∃a xs,v=.ref a/\SqT K H a xs/\Reps K O H xs ds:=by
 cases r with
 | tup h r=>exact⟨_,_,rfl,h,r⟩
theorem Rep.lst_inv{v:V}{ds:List D}(r:Rep K O H v (.list ds)):∃a xs,v=.ref a/\SqL K H a xs/\Reps K O H xs ds:=by
 cases r with
 | lst h n r=>exact⟨_,_,rfl,.inl h,r⟩
 | lstK h r=>exact⟨_,_,rfl,.inr h,r⟩
def noIns:D->Bool
 | .dict [(.none,_)]=>false
 | _=>true
theorem Reps.length:∀{vs:List V} {ds:List D},Reps K O H vs ds->vs.length=ds.length
 | _,_,.nil=>rfl
 | _,_,.cons _ rs=>congrArg (· + 1) (Reps.length rs)
theorem Reps.get:∀{vs:List V} {ds:List D} {i:Nat} {d:D},Reps K O H vs ds->ds[i]?=some d->∃v,vs[i]?=some v/\Rep K O H v d
 | _,_,_,_,.nil,e=>by simp at e
 | _,_,0,_,.cons r _,e=>by simp at e;subst e;exact⟨_,rfl,r⟩
 | _,_,i+1,d,.cons _ rs,e=>by
  obtain⟨u,h1,h2⟩:=Reps.get (i:=i) (d:=d) rs (by simpa using e)
  exact⟨u,by simpa using h1,h2⟩
theorem Reps.append:∀{xs ys:List V} {ds es:List D},Reps K O H xs ds->Reps K O H ys es->Reps K O H (xs++ys) (ds++es)
 | _,_,_,_,.nil,s=>s
 | _,_,_,_,.cons r t,s=>.cons r (Reps.append t s)
theorem Reps.take:∀{xs:List V} {ds:List D} (n:Nat),Reps K O H xs ds->Reps K O H (xs.take n) (ds.take n)
 | _,_,0,_=>.nil
 | _,_,_+1,.nil=>.nil
 | _,_,n+1,.cons r t=>.cons r (Reps.take n t)
theorem Reps.drop:∀{xs:List V} {ds:List D} (n:Nat),Reps K O H xs ds->Reps K O H (xs.drop n) (ds.drop n)
 | _,_,0,r=>r
 | _,_,_+1,.nil=>.nil
 | _,_,n+1,.cons _ t=>Reps.drop n t
theorem Reps.ints(ns:List Int):Reps K O H (ns.map V.int) (ns.map PyData.int):=by
 induction ns with
 | nil=>exact .nil
 | cons n ns ih=>exact .cons (.int n) ih
theorem Reps.atI{vs:List V}{ds:List D}{i:Int}{d:D}(r:Reps K O H vs ds)(h:L2.atI ds i=some d):∃v,L2.atI vs i=some v/\Rep K O H v d:=by
 unfold L2.atI at h ⊢
 rw[r.length]
 cases e:ixN ds.length i with
 | none=>rw[e] at h;cases h
 | some j =>
  rw[e] at h
  exact r.get h
end
inductive Sl where
 | un
 | vl (d:D)
 | ow (ds:List D)
 | od (es:List (Key×D))
 | ex (a:Addr)
abbrev DS:=List Sl
def SlOk(K:PySem.W.Frag)(O:List Addr)(H:Hp)(o:Option (Option V)):Sl->Prop
 | .un=>True
 | .vl d=>∃v,o=some (some v)/\Rep K O H v d
 | .ow ds=>∃l xs,o=some (some (.ref l))/\l∈O/\H l=some (.lst xs)/\Reps K O H xs ds
 | .od es=>∃l kvs,o=some (some (.ref l))/\l∈O/\H l=some (.dK kvs)/\kvs.map (·.1)=es.map (·.1)/\Reps K O H (kvs.map (·.2)) (es.map (·.2))
 | .ex a=>o=some (some (.ref a))
def Sl.own:Sl->Prop
 | .ow _=>True
 | .od _=>True
 | _=>False
theorem Mu.same{H H':Hp}{l:Addr}(s:aG H H')(h:Mu H l):Mu H' l:=by
 rcases h with ⟨xs,h⟩ | ⟨xs,h⟩ | ⟨C,dx,fs,h⟩
 ·exact .inl ⟨xs,s _ _ h⟩
 ·exact .inr (.inl ⟨xs,s _ _ h⟩)
 ·exact .inr (.inr ⟨C,dx,fs,s _ _ h⟩)
theorem Mu.upd_ne{H:Hp}{a l:Addr}{o:HO}(n:a≠l)(h:Mu H a):Mu (upd H l o) a:=by
 rcases h with ⟨xs,h⟩ | ⟨xs,h⟩ | ⟨C,dx,fs,h⟩
 ·exact .inl ⟨xs,by rw[L2.upd_ne n];exact h⟩
 ·exact .inr (.inl ⟨xs,by rw[L2.upd_ne n];exact h⟩)
 ·exact .inr (.inr ⟨C,dx,fs,by rw[L2.upd_ne n];exact h⟩)
theorem Mu.new{H:Hp}{a l:Addr}{o:HO}(hl:H l=none)(h:Mu H a):Mu (upd H l o) a:=h.same (bm hl)
theorem Mu.lst{H:Hp}{l:Addr}{xs:List V}(h:H l=some (.lst xs)):Mu H l:=.inl ⟨xs,h⟩
theorem Mu.some{H:Hp}{l:Addr}(h:Mu H l):∃o,H l=some o:=by
 rcases h with ⟨xs,h⟩ | ⟨xs,h⟩ | ⟨C,dx,fs,h⟩
 ·exact⟨_,h⟩
 ·exact⟨_,h⟩
 ·exact⟨_,h⟩
structure Ev(K:PySem.W.Frag)(Hr:Hp)(O:List Addr)(H:Hp)(σ:St)(δ:DS):Prop where
 root:aG Hr H
 oo:∀l∈O,Mu H l
 len:σ.length=δ.length
 at_:∀(i:Nat) (s:Sl),δ[i]?=some s->SlOk K O H σ[i]? s
 dis:∀(i j:Nat) (l:Addr) (ds es:List D),i≠j->δ[i]?=some (.ow ds)->δ[j]?=some (.ow es)->σ[i]?=some (some (.ref l))->σ[j]? ≠ some (some (.ref l))
section
variable{K:PySem.W.Frag}{Hr:Hp}{O:List Addr}{H H':Hp}{σ:St}{δ:DS}
theorem Ev.same(s:aG H H')(e:Ev K Hr O H σ δ):Ev K Hr O H' σ δ:=by
 refine⟨e.root.trans s,λl hl=>(e.oo l hl).same s,e.len,λi sl h=>?_,e.dis⟩
 have q:=e.at_ i sl h
 cases sl with
 | un=>trivial
 | ex a=>exact q
 | vl d =>
  obtain⟨v,h1,r⟩:=q
  exact⟨v,h1,r.same s⟩
 | ow ds =>
  obtain⟨l,xs,h1,h2,h3,r⟩:=q
  exact⟨l,xs,h1,h2,s _ _ h3,r.same s⟩
 | od es =>
  obtain⟨l,kvs,h1,h2,h3,hk,r⟩:=q
  exact⟨l,kvs,h1,h2,s _ _ h3,hk,r.same s⟩
theorem Ev.val{i:Nat}{d:D}(e:Ev K Hr O H σ δ)(h:δ[i]?=some (.vl d)):∃v,σ[i]?=some (some v)/\Rep K O H v d:=e.at_ i _ h
theorem bX{α:Type}{l:List α}{i j:Nat}{a:α}:(l.set i a)[j]?=if i=j then (if i<l.length then some a else none) else l[j]?:=by
 rw[List.getElem?_set]
theorem Ev.set{i:Nat}{v:V}{d:D}(e:Ev K Hr O H σ δ)(r:Rep K O H v d):Ev K Hr O H (σ.set i (some v)) (δ.set i (.vl d)):=by
 refine⟨e.root,e.oo,by rw[List.length_set,List.length_set];exact e.len,λj sl h=>?_,λj k l ds es hjk h1 h2 h3 h4=>?_⟩
 ·rw[bX] at h ⊢
  by_cases hij:i=j
  ·rw[if_pos hij] at h ⊢
   by_cases hl:i<δ.length
   ·rw[if_pos hl] at h
    rw[if_pos (by rw[e.len];exact hl)]
    cases h
    exact⟨v,rfl,r⟩
   ·rw[if_neg hl] at h;cases h
  ·rw[if_neg hij] at h ⊢
   exact e.at_ j sl h
 ·rw[bX] at h1 h2 h3 h4
  by_cases hij:i=j
  ·rw[if_pos hij] at h1
   split at h1<;>cases h1
  ·by_cases hik:i=k
   ·rw[if_pos hik] at h2
    split at h2<;>cases h2
   ·rw[if_neg hij] at h1 h3
    rw[if_neg hik] at h2 h4
    exact e.dis j k l ds es hjk h1 h2 h3 h4
end
end DL
namespace DL
open PySem PySem.Spec PyProof.Rows L2
def PD(X:Cx)(G:XD->Hp->Prop)(e:Expr)(f:DS->M D):Prop :=
 ∃t,PE X e t/\∀{Hr:Hp} (δ:DS) (O:List Addr) (σ:St) (H:Hp) (Q:VK),Ev X.K Hr O H σ δ->ok (GS G Hr) (f δ) (λd=>∀v H',aG H H'->Rep X.K O H' v d->Q v H')->t σ H Q
def PDT(X:Cx)(G:XD->Hp->Prop)(e:Expr)(f:DS->M Bool):Prop :=
 ∃t,PT X e t/\∀{Hr:Hp} (δ:DS) (O:List Addr) (σ:St) (H:Hp) (Q:Bool->Hp->Prop),Ev X.K Hr O H σ δ->ok (GS G Hr) (f δ) (λb=>∀H',aG H H'->Q b H')->t σ H Q
def PDW(X:Cx)(G:XD->Hp->Prop)(e:Expr)(f:DS->M Bool):Prop :=
 ∃t,PW X e t/\∀{Hr:Hp} (δ:DS) (O:List Addr) (σ:St) (H:Hp) (Q:Bool->Hp->Prop),Ev X.K Hr O H σ δ->ok (GS G Hr) (f δ) (λb=>∀H',aG H H'->Q b H')->t σ H Q
def PDA(X:Cx)(G:XD->Hp->Prop)(es:List Expr)(f:DS->M (List D)):Prop :=
 (∀δ ds,f δ=some (.ok ds)->ds.length=es.length)/\∃t,PA X es t/\∀{Hr:Hp} (δ:DS) (O:List Addr) (σ:St) (H:Hp) (Q:List V->Hp->Prop),Ev X.K Hr O H σ δ->ok (GS G Hr) (f δ) (λds=>∀vs H',aG H H'->Reps X.K O H' vs ds->Q vs H')->t σ H Q
section
variable{X:Cx}{G:XD->Hp->Prop}{a b c e:Expr}{es b7:List Expr}{f g h:DS->M D}{fb gb:DS->M Bool}{fa:DS->M (List D)}{pos:Pos}
def ad(i:Nat):DS->M D:=λδ=>match δ[i]? with
 | some (.vl d)=>M.ret d
 | _=>none
theorem aa{i:Nat}(h:PE X e (tVar i)):PD X G e (ad i):=by
 refine⟨_,h,λδ O σ H Q E k=>?_⟩
 unfold ad at k
 split at k
 ·rename_i d hd
  obtain⟨v,e1,r⟩:=E.val hd
  exact⟨v,e1,k v H (aG.refl H) r⟩
 ·exact k.elim
def dC(d:D):DS->M D:=λ_=>M.ret d
theorem ah{i j pos}:PD X G (.Constant (.int i) j pos) (dC (.int i)):=⟨_,pe_int,λ_ _ _ H Q _ k=>k _ H (aG.refl H) (.int i)⟩
theorem pd_bl{i j pos}:PD X G (.Constant (.bool i) j pos) (dC (.bool i)):=⟨_,pe_bl,λ_ _ _ H Q _ k=>k _ H (aG.refl H) (.bl i)⟩
theorem dm{j pos}:PD X G (.Constant .none j pos) (dC .none):=⟨_,pe_non,λ_ _ _ H Q _ k=>k _ H (aG.refl H) .non⟩
theorem pd_str{x j pos}:PD X G (.Constant (.str x) j pos) (dC (.str x)):=⟨_,pe_str,λ_ _ _ H Q _ k=>k _ H (aG.refl H) (.str x)⟩
def DOp(X:Cx)(sem:Value->Value->Sem Value)(h:D->D->Option D):Prop :=
 ∃r:R2,OpR X sem r/\∀(O:List Addr) (H:Hp) (x y d:D) (v u:V) (Q:VK),(∀l∈O,Mu H l)->Rep X.K O H v x->Rep X.K O H u y->h x y=some d->(∀v' H',aG H H'->Rep X.K O H' v' d->Q v' H')->r v u H Q
def d2(h:D->D->Option D)(f g:DS->M D):DS->M D:=λδ=>(f δ).thn λx=>(g δ).thn λy=>M.lift (h x y)
theorem pd_two{r:R2}{h:D->D->Option D}{ta tb:TE}
  (ho:∀(O:List Addr) (H:Hp) (x y d:D) (v u:V) (Q:VK),(∀l∈O,Mu H l)->Rep X.K O H v x->Rep X.K O H u y->h x y=some d->(∀v' H',aG H H'->Rep X.K O H' v' d->Q v' H')->r v u H Q)
  (ha:∀{Hr:Hp} (δ:DS) (O:List Addr) (σ:St) (H:Hp) (Q:VK),Ev X.K Hr O H σ δ->ok (GS G Hr) (f δ) (λd=>∀v H',aG H H'->Rep X.K O H' v d->Q v H')->ta σ H Q)
  (hb:∀{Hr:Hp} (δ:DS) (O:List Addr) (σ:St) (H:Hp) (Q:VK),Ev X.K Hr O H σ δ->ok (GS G Hr) (g δ) (λd=>∀v H',aG H H'->Rep X.K O H' v d->Q v H')->tb σ H Q)
  {Hr:Hp} (δ:DS) (O:List Addr) (σ:St) (H:Hp) (Q:VK) (E:Ev X.K Hr O H σ δ) (k:ok (GS G Hr) (d2 h f g δ) (λd=>∀v H',aG H H'->Rep X.K O H' v d->Q v H')):tOp r ta tb σ H Q:=by
 refine ha δ O σ H _ E (al (ay k) λx kx v H1 s1 rx=>?_)
 refine hb δ O σ H1 _ (E.same s1) (al (ay kx) λy ky u H2 s2 ry=>?_)
 obtain⟨d,hd,kd⟩:=cC ky
 exact ho O H2 x y d v u Q (E.same (s1.trans s2)).oo (rx.same s2) ry hd λv' H3 s3 r3=>kd v' H3 ((s1.trans s2).trans s3) r3
theorem aS{op:Operator}{h:D->D->Option D}(ho:DOp X (binaryOp op) h)(ha:PD X G a f)(hb:PD X G b g):PD X G (.BinOp a op b pos) (d2 h f g):=by
 obtain⟨r,hr,ho⟩:=ho
 obtain⟨ta,pa,ha⟩:=ha
 obtain⟨tb,pb,hb⟩:=hb
 exact⟨_,pe_op hr pa pb,pd_two ho ha hb⟩
theorem iW{op:CmpOp}{h:D->D->Option D}(ho:DOp X (compareOp op) h)(ha:PD X G a f)(hb:PD X G b g)(hm:behindInMarks op b=false):PD X G (.Compare a [op] [b] pos) (d2 h f g):=by
 obtain⟨r,hr,ho⟩:=ho
 obtain⟨ta,pa,ha⟩:=ha
 obtain⟨tb,pb,hb⟩:=hb
 exact⟨_,pe_cmpR hr pa pb hm,pd_two ho ha hb⟩
def dB(f:DS->M D):DS->M Bool:=λδ=>(f δ).thn λd=>match d with
 | .bool b=>M.ret b
 | _=>none
theorem ok_dB{Hr:Hp}{δ:DS}{k:Bool->Prop}(q:ok (GS G Hr) (dB f δ) k):ok (GS G Hr) (f δ) (λd=>∃b,d=.bool b/\k b):=by
 refine al (ay q) λd z=>?_
 cases d with
 | bool b=>exact⟨b,rfl,z⟩
 | _=>exact z.elim
theorem aY{op:CmpOp}{h:D->D->Option D}(ho:DOp X (compareOp op) h)(ha:PD X G a f)(hb:PD X G b g)(hm:behindInMarks op b=false):PDT X G (.Compare a [op] [b] pos) (dB (d2 h f g)):=by
 obtain⟨r,hr,ho⟩:=ho
 obtain⟨ta,pa,ha⟩:=ha
 obtain⟨tb,pb,hb⟩:=hb
 refine⟨_,pt_cmpR hr pa pb hm,λδ O σ H Q E k=>?_⟩
 refine pd_two ho ha hb δ O σ H _ E (al (ok_dB k) λd z v H' s r=>?_)
 obtain⟨b,rfl,z⟩:=z
 exact⟨b,r.bool_inv,z H' s⟩
theorem cB(he:PD X G e f)(h1:∀whole,isTrue e X.env whole=(do let v <- whole;standAt e.pos;holding [v] (truthy v)):=by intro _;rfl):PDT X G e (dB f):=by
 obtain⟨t,p,he⟩:=he
 refine⟨_,pt_val p h1,λδ O σ H Q E k=>?_⟩
 refine he δ O σ H _ E (al (ok_dB k) λd z v H' s r=>?_)
 obtain⟨b,rfl,z⟩:=z
 exact⟨b,r.bool_inv,z H' s⟩
def dAnd(fb gb:DS->M Bool):DS->M Bool:=λδ=>(fb δ).thn λc=>if c=true then gb δ else M.ret false
def dOr(fb gb:DS->M Bool):DS->M Bool:=λδ=>(fb δ).thn λc=>if c=true then M.ret true else gb δ
def dNot(fb:DS->M Bool):DS->M Bool:=λδ=>(fb δ).thn λc=>M.ret (!c)
theorem pdw_and1(ha:PDT X G a fb):PDW X G (.BoolOp .And [a] pos) fb:=by
 obtain⟨t,p,ha⟩:=ha
 exact⟨_,pw_and1 p,ha⟩
theorem pdw_or1(ha:PDT X G a fb):PDW X G (.BoolOp .Or [a] pos) fb:=by
 obtain⟨t,p,ha⟩:=ha
 exact⟨_,pw_or1 p,ha⟩
theorem pdw_and(ha:PDT X G a fb)(hb:PDW X G (.BoolOp .And (b::b7) pos) gb):PDW X G (.BoolOp .And (a::b::b7) pos) (dAnd fb gb):=by
 obtain⟨t,p,ha⟩:=ha
 obtain⟨u,q,hb⟩:=hb
 refine⟨_,pw_and p q,λδ O σ H Q E k=>?_⟩
 refine ha δ O σ H _ E (al (ay k) λc z H1 s1=>?_)
 cases c with
 | true =>
  rw[if_pos rfl] at z ⊢
  exact hb δ O σ H1 Q (E.same s1) (al z λb y H2 s2=>y H2 (s1.trans s2))
 | false =>
  rw[if_neg Bool.false_ne_true] at z ⊢
  exact z H1 s1
theorem pdw_or(ha:PDT X G a fb)(hb:PDW X G (.BoolOp .Or (b::b7) pos) gb):PDW X G (.BoolOp .Or (a::b::b7) pos) (dOr fb gb):=by
 obtain⟨t,p,ha⟩:=ha
 obtain⟨u,q,hb⟩:=hb
 refine⟨_,pw_or p q,λδ O σ H Q E k=>?_⟩
 refine ha δ O σ H _ E (al (ay k) λc z H1 s1=>?_)
 cases c with
 | true =>
  rw[if_pos rfl] at z ⊢
  exact z H1 s1
 | false =>
  rw[if_neg Bool.false_ne_true] at z ⊢
  exact hb δ O σ H1 Q (E.same s1) (al z λb y H2 s2=>y H2 (s1.trans s2))
theorem PDW.t(h:PDW X G e fb):PDT X G e fb:=by
 obtain⟨t,p,h⟩:=h
 exact⟨_,p.pt,h⟩
theorem pdt_not(ha:PDT X G a fb):PDT X G (.UnaryOp .Not a pos) (dNot fb):=by
 obtain⟨t,p,ha⟩:=ha
 refine⟨_,pt_not p,λδ O σ H Q E k=>?_⟩
 exact ha δ O σ H _ E (al (ay k) λc z H1 s1=>z H1 s1)
def dAndV(f g:DS->M D):DS->M D:=λδ=>(dB f δ).thn λc=>if c=true then g δ else M.ret (.bool false)
def dNotV(f:DS->M D):DS->M D:=λδ=>(dB f δ).thn λc=>M.ret (.bool (!c))
theorem pd_one{op}(ha:PD X G a f):PD X G (.BoolOp op [a] pos) f:=by
 obtain⟨t,p,ha⟩:=ha
 exact⟨_,pe_one p,ha⟩
theorem pd_and(ha:PD X G a f)(hb:PD X G (.BoolOp .And (b::b7) pos) g):PD X G (.BoolOp .And (a::b::b7) pos) (dAndV f g):=by
 obtain⟨t,p,ha⟩:=ha
 obtain⟨u,q,hb⟩:=hb
 refine⟨_,pe_and p q,λδ O σ H Q E k=>?_⟩
 refine ha δ O σ H _ E (al (ok_dB (ay k)) λd z v H1 s1 r=>?_)
 obtain⟨c,rfl,z⟩:=z
 refine⟨c,r.bool_inv,?_⟩
 cases c with
 | true =>
  rw[if_pos rfl] at z ⊢
  exact hb δ O σ H1 Q (E.same s1) (al z λb y v H2 s2=>y v H2 (s1.trans s2))
 | false =>
  rw[if_neg Bool.false_ne_true] at z ⊢
  exact z _ H1 s1 (.bl false)
theorem pd_not(ha:PD X G a f):PD X G (.UnaryOp .Not a pos) (dNotV f):=by
 obtain⟨t,p,ha⟩:=ha
 refine⟨_,pe_not p,λδ O σ H Q E k=>?_⟩
 refine ha δ O σ H _ E (al (ok_dB (ay k)) λd z v H1 s1 r=>?_)
 obtain⟨c,rfl,z⟩:=z
 exact⟨c,r.bool_inv,z _ H1 s1 (.bl _)⟩
def dIf(c:DS->M Bool)(f g:DS->M D):DS->M D:=λδ=>(c δ).thn λb=>if b=true then f δ else g δ
theorem pd_if(hc:PDT X G c fb)(ha:PD X G a f)(hb:PD X G b g):PD X G (.IfExp c a b pos) (dIf fb f g):=by
 obtain⟨t,p,hc⟩:=hc
 obtain⟨ta,pa,ha⟩:=ha
 obtain⟨tb,pb,hb⟩:=hb
 refine⟨_,pe_ifExp p pa pb,λδ O σ H Q E k=>?_⟩
 refine hc δ O σ H _ E (al (ay k) λd z H1 s1=>?_)
 cases d with
 | true =>
  rw[if_pos rfl] at z ⊢
  exact ha δ O σ H1 Q (E.same s1) (al z λb y v H2 s2=>y v H2 (s1.trans s2))
 | false =>
  rw[if_neg Bool.false_ne_true] at z ⊢
  exact hb δ O σ H1 Q (E.same s1) (al z λb y v H2 s2=>y v H2 (s1.trans s2))
def aw:DS->M (List D):=λ_=>M.ret []
def ag(f:DS->M D)(g:DS->M (List D)):DS->M (List D):=λδ=>(f δ).thn λx=>(g δ).thn λxs=>M.ret (x::xs)
theorem ai:PDA X G [] aw:=⟨λδ ds h=>by cases h;rfl,_,pa_nil,λ_ _ _ H Q _ k=>k [] H (aG.refl H) .nil⟩
theorem ae(ha:PD X G e f)(hr:PDA X G es fa)(hs:starEach (e::es) X.env=(false,eval e X.env)::starEach es X.env:=by rfl):PDA X G (e::es) (ag f fa):=by
 obtain⟨t,p,ha⟩:=ha
 obtain⟨hl,u,q,hr⟩:=hr
 refine⟨λδ ds h=>?_,_,gp p q hs,λδ O σ H Q E k=>?_⟩
 ·unfold ag at h
  cases e1:f δ with
  | none=>rw[e1] at h;cases h
  | some r =>
   rw[e1] at h
   cases r with
   | error x=>cases h
   | ok x =>
    cases e2:fa δ with
    | none=>rw[thn_some,e2] at h;cases h
    | some r2 =>
     rw[thn_some,e2] at h
     cases r2 with
     | error x=>cases h
     | ok xs =>
      cases h
      rw[List.length_cons,List.length_cons,hl δ xs e2]
 ·refine ha δ O σ H _ E (al (ay k) λd z v H1 s1 r=>?_)
  refine hr δ O σ H1 _ (E.same s1) (al (ay z) λds y vs H2 s2 rs=>?_)
  exact y (v::vs) H2 (s1.trans s2) (.cons (r.same s2) rs)
def aL(n:Nat):Bool:=decide (n<=16000000)
theorem bE{n:Nat}(h:aL n=true):n<=sizeLine:=by
 have:=of_decide_eq_true h
 rw[sizeLine_eq]
 omega
def gG(fa:DS->M (List D)):DS->M D:=λδ=>(fa δ).thn λds=>if aL ds.length then M.ret (.tuple ds) else none
def dLst(fa:DS->M (List D)):DS->M D:=λδ=>(fa δ).thn λds=>if aL ds.length then M.ret (.list ds) else none
theorem rep_newT{K:PySem.W.Frag}{O:List Addr}{H:Hp}{p:Addr}{vs:List V}{ds:List D}(hp:H p=none)(r:Reps K O H vs ds):Rep K O (upd H p (.tup vs)) (.ref p) (.tuple ds) :=
 .tup (SqT.of aP) (r.same (bm hp))
theorem dk{x1}(h:PDA X G es fa):PD X G (.Tuple es x1 pos) (gG fa):=by
 obtain⟨_,t,p,h⟩:=h
 refine⟨_,pe_tup p,λδ O σ H Q E k=>?_⟩
 refine h δ O σ H _ E (al (ay k) λds z vs H1 s1 rs=>?_)
 by_cases hz:aL ds.length=true
 ·rw[if_pos hz] at z
  exact⟨by rw[rs.length];exact bE hz,λp hp=>z _ _ (s1.trans (bm hp)) (rep_newT hp rs)⟩
 ·rw[if_neg hz] at z
  exact z.elim
end
end DL
namespace DL
open PySem PySem.Spec PyProof.Rows L2
section
variable{X:Cx}{G:XD->Hp->Prop}{a b c e:Expr}{es b7:List Expr}{f g h:DS->M D}{fb gb:DS->M Bool}{fa:DS->M (List D)}{pos:Pos}
def ii(h:Int->Int->Option D):D->D->Option D
 | .int i,.int j=>h i j
 | _,_=>none
theorem ii_some{h:Int->Int->Option D}{x y d:D}(e:ii h x y=some d):∃i j,x=.int i/\y=.int j/\h i j=some d:=by
 unfold ii at e
 split at e
 ·exact⟨_,_,rfl,rfl,e⟩
 ·cases e
theorem dop_I0{sem:Value->Value->Sem Value}{g:Int->Int->V}{gd:Int->Int->D}(h:OpR X sem (rI0 g))(hg:∀O H i j,Rep X.K O H (g i j) (gd i j)):DOp X sem (ii λi j=>some (gd i j)):=by
 refine⟨_,h,λO H x y d v u Q oo rx ry e k=>?_⟩
 obtain⟨i,j,rfl,rfl,e⟩:=ii_some e
 cases e
 exact⟨i,j,rx.int_inv,ry.int_inv,k _ H (aG.refl H) (hg O H i j)⟩
theorem dop_IC{sem:Value->Value->Sem Value}{C:Int->Int->Prop}{B:Int->Int->Bool}{g:Int->Int->V}{gd:Int->Int->D}(h:OpR X sem (rI C g))(hC:∀i j,B i j=true->C i j)(hg:∀O H i j,Rep X.K O H (g i j) (gd i j)) :
  DOp X sem (ii λi j=>if B i j=true then some (gd i j) else none):=by
 refine⟨_,h,λO H x y d v u Q oo rx ry e k=>?_⟩
 obtain⟨i,j,rfl,rfl,e1⟩:=ii_some e
 by_cases hb:B i j=true
 ·rw[if_pos hb] at e1
  cases e1
  exact⟨i,j,rx.int_inv,ry.int_inv,hC i j hb,k _ H (aG.refl H) (hg O H i j)⟩
 ·rw[if_neg hb] at e1;cases e1
abbrev oSub:D->D->Option D:=ii λi j=>some (.int (i-j))
def bMul(i j:Int):Bool:=decide ((-18446744073709551616<i/\i<18446744073709551616)\/(-18446744073709551616<j/\j<18446744073709551616))
abbrev oMul:D->D->Option D:=ii λi j=>if bMul i j=true then some (.int (i*j)) else none
def bDiv(j:Int):Bool:=decide (0<j/\j<1267650600228229401496703205376)
abbrev oDiv:D->D->Option D:=ii λi j=>if bDiv j=true then some (.int (i / j)) else none
abbrev im:D->D->Option D:=ii λi j=>if decide (0<j)=true then some (.int (i % j)) else none
def bPow(i j:Int):Bool:=decide (0<=j/\j<=1000000/\i.natAbs<18446744073709551616)
abbrev oPow:D->D->Option D:=ii λi j=>if bPow i j=true then some (.int (i ^ j.toNat)) else none
theorem eM:DOp X (binaryOp .Sub) oSub:=dop_I0 op_sub λ_ _ _ _=>.int _
theorem dop_mul:DOp X (binaryOp .Mult) oMul:=dop_IC op_mul (λi j h=>by
 have h:=of_decide_eq_true h
 unfold CMul
 have e:(2:Int) ^ 64=18446744073709551616:=by decide
 rw[e]
 exact h) λ_ _ _ _=>.int _
theorem natAbs_log2{j:Int}(h:0<j/\j<1267650600228229401496703205376):j.natAbs.log2<9000:=by
 have h2:j.natAbs<2 ^ 100:=by
  have e:(2:Nat) ^ 100=1267650600228229401496703205376:=by decide
  omega
 exact Nat.lt_trans ((Nat.log2_lt (by omega)).mpr h2) (by decide)
theorem op_fdivW:OpR X (binaryOp .FloorDiv) (rI (λ_ j=>0<j/\j<1267650600228229401496703205376) λi j=>.int (i / j)):=opI λi j _ _ _ _ _ hc q=>by
 rw[<-Int.fdiv_eq_ediv_of_nonneg _ (Int.le_of_lt hc.1)] at q
 exact floordiv_int (by omega) q (.inl (PyProof.noPylong_of_log2 (natAbs_log2 hc)))
theorem dop_div:DOp X (binaryOp .FloorDiv) oDiv:=dop_IC op_fdivW (λi j h=>of_decide_eq_true h) λ_ _ _ _=>.int _
theorem dN:DOp X (binaryOp .Mod) im:=dop_IC op_mod (λi j h=>of_decide_eq_true h) λ_ _ _ _=>.int _
theorem dop_pow:DOp X (binaryOp .Pow) oPow:=dop_IC op_pow (λi j h=>by
 have h:=of_decide_eq_true h
 unfold CPow
 have e:(2:Nat) ^ 64=18446744073709551616:=by decide
 rw[e]
 exact h) λ_ _ _ _=>.int _
abbrev oLt:D->D->Option D:=ii λi j=>some (.bool (decide (i<j)))
abbrev oGt:D->D->Option D:=ii λi j=>some (.bool (decide (j<i)))
abbrev oGe:D->D->Option D:=ii λi j=>some (.bool (decide (j<=i)))
theorem dop_lt:DOp X (compareOp .Lt) oLt:=dop_I0 op_lt λ_ _ _ _=>.bl _
theorem dop_gt:DOp X (compareOp .Gt) oGt:=dop_I0 op_gt λ_ _ _ _=>.bl _
theorem dop_ge:DOp X (compareOp .GtE) oGe:=dop_I0 op_ge λ_ _ _ _=>.bl _
theorem nin{O:List Addr}{H:Hp}(oo:∀l∈O,Mu H l){p:Addr}(hp:H p=none):p∉O:=λz=>by
 obtain⟨o,ho⟩:=(oo p z).some
 rw[hp] at ho;cases ho
theorem gL{K:PySem.W.Frag}{O:List Addr}{H:Hp}{p:Addr}{vs:List V}{ds:List D}(oo:∀l∈O,Mu H l)(hp:H p=none)(r:Reps K O H vs ds):Rep K O (upd H p (.lst vs)) (.ref p) (.list ds) :=
 .lst (.inl aP) (nin oo hp) (r.same (bm hp))
theorem op_cat0:OpR X (binaryOp .Add) (λx y H Q=>∃a b ys,x=.ref a/\y=.ref b/\SqT X.K H a []/\SqT X.K H b ys/\Q (.ref b) H):=by
 intro pins s σ H x y v u Q I rx ry h
 obtain⟨a,b,ys,rfl,rfl,ha,hb,q⟩:=h
 cases rx
 cases ry
 obtain⟨its,r1,p1,_⟩:=I.tuple ha
 obtain⟨its2,r2,p2,_⟩:=I.tuple hb
 cases r1
 obtain⟨⟨cls,dd,data,sl⟩,ho,hc,n,hd⟩:=id p1
 obtain⟨⟨cls2,dd2,data2,sl2⟩,ho2,hc2,n2,hd2⟩:=id p2
 simp only at hc hd hc2 hd2
 subst hc hd hc2 hd2
 exact concat_meets ⟨_,ho,rfl⟩ ⟨_,ho2,rfl⟩ noFill_tuple_add seq_tuple_add PySem.F.slot_tuple_add PySem.F.entry_tuple_add (PySem.F.args_tuple_add_2 _ _)
  (tuple_addW0 a b _ its2.toArray n n2 dd dd2 sl sl2 rfl) ⟨ho,ho2,⟨.ref b,H,I,rfl,q⟩⟩
theorem op_catS:OpR X (binaryOp .Add) (λx y H Q=>∃l b xs zs,x=.ref l/\y=.ref b/\SqL X.K H l xs/\SqL X.K H b zs/\xs.length+zs.length<=sizeLine/\∀p,H p=none->Q (.ref p) (upd H p (.lst (xs++zs)))):=by
 intro pins s σ H x y v u Q I rx ry h
 obtain⟨l,b,xs,zs,rfl,rfl,hH,hB,hz,q⟩:=h
 cases rx
 cases ry
 obtain⟨its,r,⟨⟨cls,dd,data,sl⟩,n,e,hc,hdd,hd⟩,z⟩:=I.list hH
 obtain⟨its2,r2,⟨⟨cls2,dd2,data2,sl2⟩,n2,e2,hc2,hdd2,hd2⟩,z2⟩:=I.list hB
 have hl:=r.length
 have hl2:=r2.length
 simp only at hc hd hc2 hd2 hdd hdd2
 subst hc hd hc2 hd2 hdd hdd2
 have ea:its.toArray++its2.toArray=(its++its2).toArray:=by simp
 refine concat_meets ⟨_,e,rfl⟩ ⟨_,e2,rfl⟩ noFill_list_add seq_list_add PySem.F.slot_list_add PySem.F.entry_list_add (PySem.F.args_list_add_2 _ _) (list_addW l b its.toArray its2.toArray n n2 none none sl sl2 (by rw[List.size_toArray,List.size_toArray];omega)) ⟨e,e2,?_⟩
 rw[ea]
 exact⟨.ref _,_,I.lnew (t':=s.toks) (r.append r2) (by rw[List.length_append];omega),rfl,q _ I.fresh⟩
def cO:D->D->Option D
 | .int i,.int j=>some (.int (i+j))
 | .str i,.str j=>if aL (i.length+j.length) then some (.str (i++j)) else none
 | .tuple xs,.tuple ys=>if aL (xs.length+ys.length) then some (.tuple (xs++ys)) else none
 | .list xs,.list ys=>if aL (xs.length+ys.length) then some (.list (xs++ys)) else none
 | _,_=>none
theorem bL:DOp X (binaryOp .Add) cO:=by
 refine⟨_,op_add.or (op_add_str.or (op_catT.or (op_cat0.or op_catS))),λO H x y d v u Q oo rx ry e k=>?_⟩
 unfold cO at e
 split at e
 ·rename_i i j
  cases e
  exact .inl ⟨i,j,rx.int_inv,ry.int_inv,k _ H (aG.refl H) (.int _)⟩
 ·rename_i i j
  by_cases hz:aL (i.length+j.length)=true
  ·rw[if_pos hz] at e
   cases e
   exact .inr (.inl ⟨i,j,rx.str_inv,ry.str_inv,bE hz,k _ H (aG.refl H) (.str _)⟩)
  ·rw[if_neg hz] at e;cases e
 ·rename_i xs ys
  by_cases hz:aL (xs.length+ys.length)=true
  ·rw[if_pos hz] at e
   cases e
   obtain⟨p,vs,rfl,h1,r1⟩:=rx.tup_inv
   obtain⟨q,ws,rfl,h2,r2⟩:=ry.tup_inv
   by_cases hx:xs=[]
   ·subst hx
    cases r1
    exact .inr (.inr (.inr (.inl ⟨p,q,ws,rfl,rfl,h1,h2,k _ H (aG.refl H) (.tup h2 r2)⟩)))
   ·refine .inr (.inr (.inl ⟨p,q,vs,ws,rfl,rfl,h1,h2,λz=>?_,by rw[r1.length,r2.length];exact bE hz,λz=>?_,λz l hl=>?_⟩))
    ·subst z
     cases r1
     exact hx rfl
    ·subst z
     have z2:=r2
     cases z2
     refine k _ H (aG.refl H) ?_
     rw[List.append_nil]
     exact .tup h1 r1
    ·exact k _ _ (bm hl) (rep_newT hl (r1.append r2))
  ·rw[if_neg hz] at e;cases e
 ·rename_i xs ys
  by_cases hz:aL (xs.length+ys.length)=true
  ·rw[if_pos hz] at e
   cases e
   obtain⟨p,vs,rfl,h1,r1⟩:=rx.lst_inv
   obtain⟨q,ws,rfl,h2,r2⟩:=ry.lst_inv
   exact .inr (.inr (.inr (.inr ⟨p,q,vs,ws,rfl,rfl,h1,h2,by rw[r1.length,r2.length];exact bE hz,λl hl=>k _ _ (bm hl) (gL oo hl (r1.append r2))⟩)))
  ·rw[if_neg hz] at e;cases e
 ·cases e
mutual
theorem Rep.reads{pins:List (Addr×Obj)}{σ:St}{H:Hp}{s:Shared}{O:List Addr}(I:Inv X pins σ H s):∀{v:V} {d:D} {u:Value},d.canLay0=true->Rep X.K O H v d->bS v u->∃as,Reads s.heap u d as
 | _,_,u,_,.non,q=>by cases (show u=Value.none from q);exact⟨_,.none⟩
 | _,_,u,_,.bl b,q=>by cases (show u=Value.bool b from q);exact⟨_,.bool b⟩
 | _,_,u,_,.int i,q=>by obtain⟨t,rfl⟩:=(show ∃t,u=Value.int i t from q);exact⟨_,.int i t⟩
 | _,_,u,_,.str x,q=>by obtain⟨t,rfl⟩:=(show ∃t,u=Value.str x t from q);exact⟨_,.str x t⟩
 | .ref a,_,u,hc,.tup h r,q=>by
  cases (show u=Value.ref a from q)
  obtain⟨its,rv,⟨o,h1,h2,n,h3⟩,_⟩:=I.tuple h
  obtain⟨as,ra⟩:=Reps.reads I (by simpa [PyData.canLay0] using hc) r rv
  exact⟨_,.tuple h1 h2 h3 ra⟩
 | .ref a,_,u,hc,.lst h n r,q=>by
  cases (show u=Value.ref a from q)
  obtain⟨its,rv,⟨o,n,h1,h2,_,h3⟩,_⟩:=I.list (.inl h)
  obtain⟨as,ra⟩:=Reps.reads I (by simpa [PyData.canLay0] using hc) r rv
  exact⟨_,.list h1 h2 h3 ra⟩
 | .ref a,_,u,hc,.lstK h r,q=>by
  cases (show u=Value.ref a from q)
  obtain⟨its,rv,⟨o,n,h1,h2,_,h3⟩,_⟩:=I.list (.inr h)
  obtain⟨as,ra⟩:=Reps.reads I (by simpa [PyData.canLay0] using hc) r rv
  exact⟨_,.list h1 h2 h3 ra⟩
 | .ref a,_,u,hc,.dct _ _ _ _,q=>by simp [PyData.canLay0] at hc
 | .ref a,_,u,hc,.ins _ _ _ _ _,q=>by simp [PyData.canLay0,iY] at hc
theorem Reps.reads{pins:List (Addr×Obj)}{σ:St}{H:Hp}{s:Shared}{O:List Addr}(I:Inv X pins σ H s):∀{vs:List V} {ds:List D} {us:List Value},PyData.canLayAll0 ds=true->Reps X.K O H vs ds->aU vs us->∃as,ReadsAll s.heap us ds as
 | _,_,_,_,.nil,q=>by cases q;exact⟨_,.nil⟩
 | _,_,_,hc,.cons r rs,q=>by
  rw[PyData.canLayAll0,Bool.and_eq_true] at hc
  cases q with
  | cons p ps =>
   obtain⟨as,h1⟩:=Rep.reads I hc.1 r p
   obtain⟨bs,h2⟩:=Reps.reads I hc.2 rs ps
   exact⟨_,.cons h1 h2⟩
end
def flat(x y:D):Bool:=x.canLay0&&y.canLay0&&decide (min x.depth y.depth<=60)
def oEq(x y:D):Option D:=if flat x y=true then some (.bool (PyData.eqv x y)) else none
def oNe(x y:D):Option D:=if flat x y=true then some (.bool (!PyData.eqv x y)) else none
def rDat(X:Cx)(p:D->D->Bool):R2:=λv u H Q=>∃O x y,Rep X.K O H v x/\Rep X.K O H u y/\flat x y=true/\Q (.bl (p x y)) H
theorem flat_of{x y:D}(h:flat x y=true):x.canLay0=true/\y.canLay0=true/\min x.depth y.depth<=60:=by
 unfold flat at h
 rw[Bool.and_eq_true,Bool.and_eq_true] at h
 exact⟨h.1.1,h.1.2,of_decide_eq_true h.2⟩
theorem op_eqD(hu:X.A.units+64<cLine):OpR X (compareOp .Eq) (rDat X PyData.eqv):=by
 intro pins s σ H v u v' u' Q I rv ru h
 obtain⟨O,x,y,rx,ry,hf,q⟩:=h
 obtain⟨h1,h2,h3⟩:=flat_of hf
 obtain⟨as,r1⟩:=rx.reads I h1 rv
 obtain⟨bs,r2⟩:=ry.reads I h2 ru
 exact SeqAt.compareEq_reads r1 r2 h1 h2 (by omega) ⟨.bl _,H,I,rfl,q⟩
theorem op_neD(hu:X.A.units+64<cLine):OpR X (compareOp .NotEq) (rDat X λx y=>!PyData.eqv x y):=by
 intro pins s σ H v u v' u' Q I rv ru h
 obtain⟨O,x,y,rx,ry,hf,q⟩:=h
 obtain⟨h1,h2,h3⟩:=flat_of hf
 obtain⟨as,r1⟩:=rx.reads I h1 rv
 obtain⟨bs,r2⟩:=ry.reads I h2 ru
 exact SeqAt.compareNe_reads r1 r2 h1 h2 (by omega) ⟨.bl _,H,I,rfl,q⟩
theorem iz(hu:X.A.units+64<cLine):DOp X (compareOp .Eq) oEq:=by
 refine⟨_,op_eqD hu,λO H x y d v u Q oo rx ry e k=>?_⟩
 unfold oEq at e
 by_cases hf:flat x y=true
 ·rw[if_pos hf] at e
  cases e
  exact⟨O,x,y,rx,ry,hf,k _ H (aG.refl H) (.bl _)⟩
 ·rw[if_neg hf] at e;cases e
theorem dop_ne(hu:X.A.units+64<cLine):DOp X (compareOp .NotEq) oNe:=by
 refine⟨_,op_neD hu,λO H x y d v u Q oo rx ry e k=>?_⟩
 unfold oNe at e
 by_cases hf:flat x y=true
 ·rw[if_pos hf] at e
  cases e
  exact⟨O,x,y,rx,ry,hf,k _ H (aG.refl H) (.bl _)⟩
 ·rw[if_neg hf] at e;cases e
def oIx:D->D->Option D
 | .tuple ds,.int i=>L2.atI ds i
 | .list ds,.int i=>L2.atI ds i
 | .str z,.int i=>if aL z.length then (L2.atI z.cps.toList i).map (λc=>.str ⟨#[c]⟩) else none
 | _,_=>none
theorem au(ha:PD X G a f)(hb:PD X G b g)(hs:PlainIx b):PD X G (.Subscript a b pos) (d2 oIx f g):=by
 obtain⟨ta,pa,ha⟩:=ha
 obtain⟨tb,pb,hb⟩:=hb
 refine⟨_,pe_ix ix_seq pa pb hs,pd_two (λO H x y d v u Q oo rx ry e k=>?_) ha hb⟩
 unfold oIx at e
 split at e
 ·rename_i ds i
  obtain⟨p,vs,rfl,h1,r1⟩:=rx.tup_inv
  obtain⟨w,hw,rw'⟩:=r1.atI e
  exact .inr (.inl ⟨p,vs,i,w,rfl,ry.int_inv,h1,hw,k w H (aG.refl H) rw'⟩)
 ·rename_i ds i
  obtain⟨p,vs,rfl,h1,r1⟩:=rx.lst_inv
  obtain⟨w,hw,rw'⟩:=r1.atI e
  exact .inl ⟨p,vs,i,w,rfl,ry.int_inv,h1,hw,k w H (aG.refl H) rw'⟩
 ·rename_i z i
  by_cases hz:aL z.length=true
  ·rw[if_pos hz] at e
   cases e2:L2.atI z.cps.toList i with
   | none=>rw[e2] at e;cases e
   | some c =>
    rw[e2] at e
    cases e
    exact .inr (.inr ⟨z,i,c,rx.str_inv,ry.int_inv,bE hz,e2,k _ H (aG.refl H) (.str _)⟩)
  ·rw[if_neg hz] at e;cases e
 ·cases e
end
end DL
namespace DL
open PySem PySem.Spec PyProof.Rows L2
section
variable{X:Cx}{G:XD->Hp->Prop}{a b c e:Expr}{es b7:List Expr}{f g h:DS->M D}{fb gb:DS->M Bool}{fa:DS->M (List D)}{pos:Pos}
def PDO(X:Cx)(G:XD->Hp->Prop)(e:Option Expr)(f:DS->M (Option Int)):Prop :=
 ∃t,PO X e t/\∀{Hr:Hp} (δ:DS) (O:List Addr) (σ:St) (H:Hp) (Q:Option Int->Hp->Prop),Ev X.K Hr O H σ δ->ok (GS G Hr) (f δ) (λd=>∀H',aG H H'->Q d H')->t σ H Q
def dNoPart:DS->M (Option Int):=λ_=>M.ret none
def dPart(f:DS->M D):DS->M (Option Int):=λδ=>(f δ).thn λd=>match d with
 | .int i=>M.ret (some i)
 | _=>none
theorem pdo_none:PDO X G none dNoPart:=⟨_,po_none,λ_ _ _ H Q _ k=>k H (aG.refl H)⟩
theorem iG(he:PD X G e f):PDO X G (some e) (dPart f):=by
 obtain⟨t,p,he⟩:=he
 refine⟨_,po_some p,λδ O σ H Q E k=>?_⟩
 refine he δ O σ H _ E (al (ay k) λd z v H1 s1 r=>?_)
 cases d with
 | int i=>exact⟨i,r.int_inv,z H1 s1⟩
 | _=>exact z.elim
def cutD{α:Type}(xs:List α)(lo hi:Option Int):List α:=(xs.drop (HT.sIx xs.length 0 lo)).take (HT.sIx xs.length xs.length hi-HT.sIx xs.length 0 lo)
theorem Reps.cut{K:PySem.W.Frag}{O:List Addr}{H:Hp}{xs:List V}{ds:List D}(r:Reps K O H xs ds)(lo hi:Option Int):Reps K O H (cutV xs lo hi) (cutD ds lo hi):=by
 unfold cutV cutD
 rw[r.length]
 exact(r.drop _).take _
def oCut(lo hi:Option Int):D->Option D
 | .list ds=>some (.list (cutD ds lo hi))
 | .tuple ds=>if HT.sIx ds.length 0 lo=0/\HT.sIx ds.length ds.length hi=ds.length then none else some (.tuple (cutD ds lo hi))
 | _=>none
variable{lo hi:Option Expr}{fl fh:DS->M (Option Int)}{p2:Pos}
theorem pd_lst(h:PDA X G es fa):PD X G (.List es pos) (dLst fa):=by
 obtain⟨_,t,p,h⟩:=h
 refine⟨_,pe_lst p,λδ O σ H Q E k=>?_⟩
 refine h δ O σ H _ E (al (ay k) λds z vs H1 s1 rs=>?_)
 by_cases hz:aL ds.length=true
 ·rw[if_pos hz] at z
  exact⟨by rw[rs.length];exact bE hz,λp hp=>z _ _ (s1.trans (bm hp)) (gL (E.same s1).oo hp rs)⟩
 ·rw[if_neg hz] at z
  exact z.elim
def DCall(X:Cx)(fn:Value)(h:List D->Option D):Prop :=
 ∃r,fS X fn r/\∀(O:List Addr) (H:Hp) (ds:List D) (d:D) (vs:List V) (Q:VK),(∀l∈O,Mu H l)->Reps X.K O H vs ds->h ds=some d->(∀v' H',aG H H'->Rep X.K O H' v' d->Q v' H')->r vs H Q
def dCB(h:List D->Option D)(fa:DS->M (List D)):DS->M D:=λδ=>(fa δ).thn λds=>M.lift (h ds)
theorem bQ{x:Str}{p:Pos}{id:String}{h:List D->Option D}(hc:DCall X (.builtin id) h)(hg:Gl X x)(hm:X.mg x=none)(hv:bootBuiltins x=some (.builtin id))(ha:PDA X G (e::es) fa)(hn:x ≠ "__name__" := by decide)(hdb:(x==("__debug__" : Str))=false:=by decide)
  (he:starEach (e::es) X.env=(false,eval e X.env)::starEach es X.env:=by rfl) (hpl:(backTo pos (starEach es X.env)).any (·.1)=false:=by rfl):PD X G (.Call (.Name x p) (e::es) [] pos) (dCB h fa):=by
 obtain⟨r,hr,hc⟩:=hc
 obtain⟨_,t,pa,ha⟩:=ha
 refine⟨_,pe_callB hr hg hm hv pa hn hdb he hpl,λδ O σ H Q E k=>?_⟩
 refine ha δ O σ H _ E (al (ay k) λds z vs H1 s1 rs=>?_)
 obtain⟨d,hd,z⟩:=cC z
 exact hc O H1 ds d vs Q (E.same s1).oo rs hd λv' H2 s2 r2=>z v' H2 (s1.trans s2) r2
theorem pd_callTy{x:Str}{p:Pos}{id:String}{h:List D->Option D}(hc:DCall X (.type id) h)(hg:Gl X x)(hm:X.mg x=none)(hv:bootBuiltins x=some (.type id))(ha:PDA X G (e::es) fa)(hn:x ≠ "__name__" := by decide)(hdb:(x==("__debug__" : Str))=false:=by decide)
  (he:starEach (e::es) X.env=(false,eval e X.env)::starEach es X.env:=by rfl) (hpl:(backTo pos (starEach es X.env)).any (·.1)=false:=by rfl):PD X G (.Call (.Name x p) (e::es) [] pos) (dCB h fa):=by
 obtain⟨r,hr,hc⟩:=hc
 obtain⟨_,t,pa,ha⟩:=ha
 refine⟨_,pe_callTy hr hg hm hv pa hn hdb he hpl,λδ O σ H Q E k=>?_⟩
 refine ha δ O σ H _ E (al (ay k) λds z vs H1 s1 rs=>?_)
 obtain⟨d,hd,z⟩:=cC z
 exact hc O H1 ds d vs Q (E.same s1).oo rs hd λv' H2 s2 r2=>z v' H2 (s1.trans s2) r2
theorem ge{K:PySem.W.Frag}{O:List Addr}{H:Hp}{vs:List V}{d:D}(r:Reps K O H vs [d]):∃v,vs=[v]/\Rep K O H v d:=by
 cases r with
 | cons r rs=>cases rs;exact⟨_,rfl,r⟩
theorem reps2{K:PySem.W.Frag}{O:List Addr}{H:Hp}{vs:List V}{d d':D}(r:Reps K O H vs [d,d']):∃v v',vs=[v,v']/\Rep K O H v d/\Rep K O H v' d':=by
 cases r with
 | cons r rs =>
  obtain⟨v',rfl,r'⟩:=ge rs
  exact⟨_,_,rfl,r,r'⟩
def fg:List D->Option D
 | [.list ds]=>some (.int ds.length)
 | [.tuple ds]=>some (.int ds.length)
 | [.str z]=>if aL z.length then some (.int z.length) else none
 | _=>none
theorem db:DCall X (.builtin "len") fg:=by
 refine⟨_,call_len_seq.or call_len_str,λO H ds d vs Q oo rs e k=>?_⟩
 unfold fg at e
 split at e
 ·rename_i es
  cases e
  obtain⟨v,rfl,r⟩:=ge rs
  obtain⟨p,xs,rfl,h1,rx⟩:=r.lst_inv
  refine .inl ⟨p,xs,rfl,.inl h1,k _ H (aG.refl H) ?_⟩
  rw[rx.length]
  exact .int _
 ·rename_i es
  cases e
  obtain⟨v,rfl,r⟩:=ge rs
  obtain⟨p,xs,rfl,h1,rx⟩:=r.tup_inv
  refine .inl ⟨p,xs,rfl,.inr h1,k _ H (aG.refl H) ?_⟩
  rw[rx.length]
  exact .int _
 ·rename_i z
  by_cases hz:aL z.length=true
  ·rw[if_pos hz] at e
   cases e
   obtain⟨v,rfl,r⟩:=ge rs
   refine .inr ⟨z,by rw[r.str_inv],bE hz,k _ H (aG.refl H) (.int _)⟩
  ·rw[if_neg hz] at e;cases e
 ·cases e
def oMin:List D->Option D
 | [.int i,.int j]=>some (.int (min i j))
 | _=>none
def oMax:List D->Option D
 | [.int i,.int j]=>some (.int (max i j))
 | _=>none
theorem dcall_min(hc:X.calm=true):DCall X (.builtin "min") oMin:=by
 refine⟨_,call_min2 hc,λO H ds d vs Q oo rs e k=>?_⟩
 unfold oMin at e
 split at e
 ·rename_i i j
  cases e
  obtain⟨v,v',rfl,r,r'⟩:=reps2 rs
  refine⟨i,j,by rw[r.int_inv,r'.int_inv],k _ H (aG.refl H) ?_⟩
  have:(if j<i then j else i)=min i j:=by
   rcases Int.lt_or_le j i with h | h
   ·rw[if_pos h];omega
   ·rw[if_neg (by omega)];omega
  rw[this]
  exact .int _
 ·cases e
theorem dcall_max(hc:X.calm=true):DCall X (.builtin "max") oMax:=by
 refine⟨_,call_max2 hc,λO H ds d vs Q oo rs e k=>?_⟩
 unfold oMax at e
 split at e
 ·rename_i i j
  cases e
  obtain⟨v,v',rfl,r,r'⟩:=reps2 rs
  refine⟨i,j,by rw[r.int_inv,r'.int_inv],k _ H (aG.refl H) ?_⟩
  have:(if j > i then j else i)=max i j:=by
   rcases Int.lt_or_le i j with h | h
   ·rw[if_pos h];omega
   ·rw[if_neg (by omega)];omega
  rw[this]
  exact .int _
 ·cases e
def oListOf:List D->Option D
 | [.list ds]=>some (.list ds)
 | [.tuple ds]=>some (.list ds)
 | _=>none
theorem dcall_list:DCall X (.type "list") oListOf:=by
 refine⟨_,call_list_of,λO H ds d vs Q oo rs e k=>?_⟩
 unfold oListOf at e
 split at e
 ·cases e
  obtain⟨v,rfl,r⟩:=ge rs
  obtain⟨p,xs,rfl,h1,rx⟩:=r.lst_inv
  exact⟨p,xs,rfl,.inl h1,λl hl=>k _ _ (bm hl) (gL oo hl rx)⟩
 ·cases e
  obtain⟨v,rfl,r⟩:=ge rs
  obtain⟨p,xs,rfl,h1,rx⟩:=r.tup_inv
  exact⟨p,xs,rfl,.inr h1,λl hl=>k _ _ (bm hl) (gL oo hl rx)⟩
 ·cases e
def tyD:D->String
 | .none => "NoneType"
 | .bool _ => "bool"
 | .int _ => "int"
 | .str _ => "str"
 | .list _ => "list"
 | .tuple _ => "tuple"
 | .dict _ => "dict"
def isD(T:String)(d:D):Bool:=tyD d==T||(T == "int" && tyD d == "bool")
def KitAll(K:PySem.W.Frag)(T:String):Prop:=∀d:D,PySem.W.kitOne K (.type (tyD d)) (.type T)=some (isD T d)
theorem kit_int(K:PySem.W.Frag):KitAll K "int" := λd=>by cases d<;>kernel_rfl
theorem kit_bool(K:PySem.W.Frag):KitAll K "bool" := λd=>by cases d<;>kernel_rfl
theorem kit_list(K:PySem.W.Frag):KitAll K "list" := λd=>by cases d<;>kernel_rfl
theorem kit_tuple(K:PySem.W.Frag):KitAll K "tuple" := λd=>by cases d<;>kernel_rfl
theorem call_isinst{T:String}(hk:KitAll X.K T):fS X (.builtin "isinstance") (λxs H Q=>∃v O d,xs=[v,.ty T]/\Rep X.K O H v d/\noIns d=true/\Q (.bl (isD T d)) H):=by
 intro pins s σ H xs us Q I r h
 obtain⟨v,O,d,rfl,rd,hi,q⟩:=h
 obtain⟨u,w',rfl,r1,r2⟩:=vals2 r
 cases (show w'=Value.type T from r2)
 have fin:∀tk,EP X pins σ Q (.bool (isD T d)) { s with toks:=tk }:=λtk=>⟨.bl _,H,I.tok _,rfl,q⟩
 have e:=hk d
 cases rd with
 | non=>cases (show u=Value.none from r1);exact PySem.W.kia_one PySem.W.kitx_none I.kIn True.intro e (λz=>nomatch z) fin
 | bl y=>cases (show u=Value.bool y from r1);exact PySem.W.kia_one PySem.W.kitx_bool I.kIn True.intro e (λz=>nomatch z) fin
 | int i=>obtain⟨t,q⟩:=(show ∃t,u=Value.int i t from r1);cases q;exact PySem.W.kia_one PySem.W.kitx_int I.kIn True.intro e (λz=>nomatch z) fin
 | str y=>obtain⟨t,q⟩:=(show ∃t,u=Value.str y t from r1);cases q;exact PySem.W.kia_one PySem.W.kitx_str I.kIn True.intro e (λz=>nomatch z) fin
 | @tup a ys ds h rr =>
  cases (show u=Value.ref a from r1)
  obtain⟨its,rv,⟨o,h1,h2,_⟩,_⟩:=I.tuple h
  exact PySem.W.kia_one PySem.W.kitx_tuple I.kIn ⟨o,h1,h2⟩ e (λz=>nomatch z) fin
 | @lst a ys ds h n rr =>
  cases (show u=Value.ref a from r1)
  obtain⟨its,rv,⟨o,n,h1,h2,_⟩,_⟩:=I.list (.inl h)
  exact PySem.W.kia_one PySem.W.kitx_list I.kIn ⟨o,h1,h2⟩ e (λz=>nomatch z) fin
 | @lstK a ys ds h rr =>
  cases (show u=Value.ref a from r1)
  obtain⟨its,rv,⟨o,n,h1,h2,_⟩,_⟩:=I.list (.inr h)
  exact PySem.W.kia_one PySem.W.kitx_list I.kIn ⟨o,h1,h2⟩ e (λz=>nomatch z) fin
 | @dct a kvs es h n hk rr =>
  cases (show u=Value.ref a from r1)
  obtain⟨_,_,_,_,o,_,_,h1,h2,_⟩:=h.ok I.hok
  exact PySem.W.kia_one PySem.W.kitx_dict I.kIn ⟨o,h1,h2.1⟩ e (λz=>nomatch z) fin
 | ins hN h n hk rr=>cases hi
def dIs(T:String)(f:DS->M D):DS->M D:=λδ=>(f δ).thn λd=>if noIns d=true then M.ret (.bool (isD T d)) else none
theorem iH{T:String}{x y:Str}{p p2:Pos}(hx:x = "isinstance")(hk:KitAll X.K T)(hg:Gl X x)(hm:X.mg x=none)(hg2:Gl X y)(hm2:X.mg y=none)(hb2:bootBuiltins y=some (.type T))(he:PD X G e f)
  (hn2:y ≠ "__name__" := by decide) (hd2:(y==("__debug__" : Str))=false:=by decide)
  (hs1:starEach [e,.Name y p2] X.env=(false,eval e X.env)::starEach [.Name y p2] X.env:=by rfl) (hs2:starEach [.Name y p2] X.env=(false,eval (.Name y p2) X.env)::starEach [] X.env:=by rfl)
  (hpl:(backTo pos (starEach [.Name y p2] X.env)).any (·.1)=false:=by rfl):PD X G (.Call (.Name x p) [e,.Name y p2] [] pos) (dIs T f):=by
 subst hx
 obtain⟨t,pe,he⟩:=he
 refine⟨_,pe_callB (call_isinst hk) hg hm boot_isinstance (gp pe (gp (pe_bltn (v:=.ty T) hg2 hm2 hb2 rfl hn2 hd2) pa_nil hs2) hs1) (by decide) (by decide) hs1 hpl,λδ O σ H Q E k=>?_⟩
 refine he δ O σ H _ E (al (ay k) λd z v H1 s1 r=>?_)
 by_cases hi:noIns d=true
 ·rw[if_pos hi] at z
  exact⟨v,O,d,rfl,r,hi,z _ H1 s1 (.bl _)⟩
 ·rw[if_neg hi] at z
  exact z.elim
end
end DL
namespace DL
open PySem PySem.Spec PyProof.Rows L2
def d1(h:D->Option D)(f:DS->M D):DS->M D:=λδ=>(f δ).thn λx=>M.lift (h x)
def oNeg:D->Option D
 | .int i=>some (.int (-i))
 | _=>none
theorem pd_neg{X:Cx}{G:XD->Hp->Prop}{a:Expr}{f:DS->M D}{pos:Pos}(ha:PD X G a f):PD X G (.UnaryOp .USub a pos) (d1 oNeg f):=by
 obtain⟨t,p,ha⟩:=ha
 refine⟨_,pe_un un_neg p,λδ O σ H Q E k=>?_⟩
 refine ha δ O σ H _ E (al (ay k) λd z v H1 s1 r=>?_)
 obtain⟨y,hy,z⟩:=cC z
 cases d with
 | int i=>cases hy;exact⟨i,r.int_inv,z _ H1 s1 (.int _)⟩
 | _=>cases hy
inductive Out where
 | nx (δ:DS)
 | rt (d:D)
 | bk (δ:DS)
 | ct (δ:DS)
structure EI(K:PySem.W.Frag)(Hr:Hp)(R0:List Addr)(P0:Addr->Prop)(H0:Hp)(O:List Addr)(H:Hp)(σ:St)(δ:DS):Prop where
 ev:Ev K Hr O H σ δ
 omr:∀l∈O,l∈R0\/Hr l=none
 keep:∀b o,¬P0 b->H0 b=some o->H b=some o
 om:∀l∈O,l∈R0\/P0 l\/H0 l=none
 nr1:∀(i:Nat) (s:Sl) (l:Addr),δ[i]?=some s->s.own->σ[i]?=some (some (.ref l))->l∉R0
 sub:∀l∈R0,l∈O
theorem EI.nr{K:PySem.W.Frag}{Hr:Hp}{R0:List Addr}{P0:Addr->Prop}{H0:Hp}{O:List Addr}{H:Hp}{σ:St}{δ:DS}(E:EI K Hr R0 P0 H0 O H σ δ):∀(i:Nat) (ds:List D) (l:Addr),δ[i]?=some (.ow ds)->σ[i]?=some (some (.ref l))->l∉R0:=λi ds l h1 h2=>E.nr1 i _ l h1 trivial h2
def Fin(K:PySem.W.Frag)(Hr:Hp)(R0:List Addr)(P0:Addr->Prop)(H0:Hp)(Dn:Ends):Out->Prop
 | .nx δ=>∀O σ H,EI K Hr R0 P0 H0 O H σ δ->Dn.nx σ H
 | .rt d=>∀v H,(∀b o,¬P0 b->H0 b=some o->H b=some o)->Rep K R0 H v d->Dn.rt v H
 | .bk δ=>∀O σ H,EI K Hr R0 P0 H0 O H σ δ->Dn.bk σ H
 | .ct δ=>∀O σ H,EI K Hr R0 P0 H0 O H σ δ->Dn.ct σ H
def PDS(X:Cx)(G:XD->Hp->Prop)(st:Stmt)(g:DS->M Out):Prop :=
 ∃t,PS X st t/\∀{Hr:Hp} (R0:List Addr) (P0:Addr->Prop) (H0:Hp) (δ:DS) (O:List Addr) (σ:St) (H:Hp) (Dn:Ends),EI X.K Hr R0 P0 H0 O H σ δ->ok (GS G Hr) (g δ) (Fin X.K Hr R0 P0 H0 Dn)->t Dn σ H
def PDSs(X:Cx)(G:XD->Hp->Prop)(st:List Stmt)(g:DS->M Out):Prop :=
 ∃t,PSs X st t/\∀{Hr:Hp} (R0:List Addr) (P0:Addr->Prop) (H0:Hp) (δ:DS) (O:List Addr) (σ:St) (H:Hp) (Dn:Ends),EI X.K Hr R0 P0 H0 O H σ δ->ok (GS G Hr) (g δ) (Fin X.K Hr R0 P0 H0 Dn)->t Dn σ H
section
variable{X:Cx}{G:XD->Hp->Prop}{a b c e:Expr}{es b7:List Expr}{f g h:DS->M D}{fb gb:DS->M Bool}{fa:DS->M (List D)}{pos:Pos}{st:Stmt}{sts st1 st2:List Stmt}{gs gt gu:DS->M Out}
variable{K:PySem.W.Frag}{Hr:Hp}{R0:List Addr}{P0:Addr->Prop}{H0 H H':Hp}{O:List Addr}{σ:St}{δ:DS}
theorem EI.same(E:EI K Hr R0 P0 H0 O H σ δ)(s:aG H H'):EI K Hr R0 P0 H0 O H' σ δ:=⟨E.ev.same s,E.omr,λb o n h=>s _ _ (E.keep b o n h),E.om,E.nr1,E.sub⟩
theorem EI.set{i:Nat}{v:V}{d:D}(E:EI K Hr R0 P0 H0 O H σ δ)(r:Rep K O H v d):EI K Hr R0 P0 H0 O H (σ.set i (some v)) (δ.set i (.vl d)):=by
 refine⟨E.ev.set r,E.omr,E.keep,E.om,λj ds l h1 ho h2=>?_,E.sub⟩
 rw[bX] at h1 h2
 by_cases hij:i=j
 ·rw[if_pos hij] at h1
  split at h1
  ·cases h1;exact ho.elim
  ·cases h1
 ·rw[if_neg hij] at h1 h2
  exact E.nr1 j ds l h1 ho h2
theorem EI.less(E:EI K Hr R0 P0 H0 O H σ δ){v:V}{d:D}(r:Rep K O H v d):Rep K R0 H v d:=r.to (.less E.sub)
def fQ:DS->M Out:=λδ=>M.ret (.nx δ)
def bq(g h:DS->M Out):DS->M Out:=λδ=>(g δ).thn λo=>match o with
 | .nx δ'=>h δ'
 | o=>M.ret o
theorem gm:PDSs X G [] fQ:=⟨_,pss_nil,λR0 P0 H0 δ O σ H Dn E k=>k O σ H E⟩
theorem aE(h1:PDS X G st gs):PDSs X G [st] gs:=by
 obtain⟨t,p,h1⟩:=h1
 exact⟨_,pss_one p,h1⟩
theorem aB(h1:PDS X G st gs)(h2:PDSs X G sts gt):PDSs X G (st::sts) (bq gs gt):=by
 obtain⟨t,p,h1⟩:=h1
 obtain⟨u,q,h2⟩:=h2
 refine⟨_,pss_cons p q,λR0 P0 H0 δ O σ H Dn E k=>?_⟩
 refine h1 R0 P0 H0 δ O σ H _ E (al (ay k) λo z=>?_)
 cases o with
 | nx δ'=>exact λO' σ' H' E'=>h2 R0 P0 H0 δ' O' σ' H' Dn E' z
 | rt d=>exact z
 | bk δ'=>exact z
 | ct δ'=>exact z
def eL(f:DS->M D):DS->M Out:=λδ=>(f δ).thn λd=>M.ret (.rt d)
theorem cj(he:PD X G e f):PDS X G (.Return (some e) pos) (eL f):=by
 obtain⟨t,p,he⟩:=he
 refine⟨_,ps_ret p,λR0 P0 H0 δ O σ H Dn E k=>?_⟩
 exact he δ O σ H _ E.ev (al (ay k) λd z v H1 s1 r=>z v H1 (λb o n q=>s1 _ _ (E.keep b o n q)) ((E.same s1).less r))
def gIf(c:DS->M Bool)(g h:DS->M Out):DS->M Out:=λδ=>(c δ).thn λb=>if b=true then g δ else h δ
theorem fW(hc:PDT X G c fb)(h1:PDSs X G st1 gs)(h2:PDSs X G st2 gt):PDS X G (.If c st1 st2 pos) (gIf fb gs gt):=by
 obtain⟨t,p,hc⟩:=hc
 obtain⟨u,q,h1⟩:=h1
 obtain⟨w,r,h2⟩:=h2
 refine⟨_,ps_if p q r,λR0 P0 H0 δ O σ H Dn E k=>?_⟩
 refine hc δ O σ H _ E.ev (al (ay k) λd z H1 s1=>?_)
 cases d with
 | true =>
  rw[if_pos rfl] at z ⊢
  exact h1 R0 P0 H0 δ O σ H1 Dn (E.same s1) z
 | false =>
  rw[if_neg Bool.false_ne_true] at z ⊢
  exact h2 R0 P0 H0 δ O σ H1 Dn (E.same s1) z
def PDG(X:Cx)(target:Expr)(g:D->DS->Option DS):Prop :=
 ∃t,PG X target t/\∀{Hr:Hp} (R0:List Addr) (P0:Addr->Prop) (H0:Hp) (δ δ':DS) (d:D) (v:V) (O:List Addr) (σ:St) (H:Hp) (Q:St->Hp->Prop),EI X.K Hr R0 P0 H0 O H σ δ->Rep X.K O H v d->g d δ=some δ' ->
  (∀σ' H',EI X.K Hr R0 P0 H0 O H' σ' δ'->aG H H'->Q σ' H')->t v σ H Q
def PDGs(X:Cx)(ts:List Expr)(g:List D->DS->Option DS):Prop :=
 ∃t,PGs X ts t/\∀{Hr:Hp} (R0:List Addr) (P0:Addr->Prop) (H0:Hp) (δ δ':DS) (ds:List D) (vs:List V) (O:List Addr) (σ:St) (H:Hp) (Q:St->Hp->Prop),EI X.K Hr R0 P0 H0 O H σ δ->Reps X.K O H vs ds->g ds δ=some δ' ->
  (∀σ' H',EI X.K Hr R0 P0 H0 O H' σ' δ'->aG H H'->Q σ' H')->t vs σ H Q
def tgN(i:Nat):D->DS->Option DS:=λd δ=>some (δ.set i (.vl d))
theorem be{i:Nat}(h:PG X e (gName i)):PDG X e (tgN i):=by
 refine⟨_,h,λR0 P0 H0 δ δ' d v O σ H Q E r e k=>?_⟩
 cases e
 exact k _ H (E.set r) (aG.refl H)
def tgNil:List D->DS->Option DS:=λds δ=>match ds with
 | []=>some δ
 | _=>none
def cN(t:D->DS->Option DS)(u:List D->DS->Option DS):List D->DS->Option DS:=λds δ=>match ds with
 | d::r=>(t d δ).bind (u r)
 | []=>none
theorem pdgs_nil:PDGs X [] tgNil:=by
 refine⟨_,pgs_nil,λR0 P0 H0 δ δ' ds vs O σ H Q E r e k=>?_⟩
 cases ds with
 | nil=>cases r;cases e;exact⟨rfl,k σ H E (aG.refl H)⟩
 | cons d ds=>cases e
theorem dJ{t:D->DS->Option DS}{u:List D->DS->Option DS}(h1:PDG X e t)(h2:PDGs X es u)
  (hs:(assignEach (e::es) X.env).map (·.2)=assign e X.env::(assignEach es X.env).map (·.2):=by rfl):PDGs X (e::es) (cN t u):=by
 obtain⟨t1,p1,h1⟩:=h1
 obtain⟨t2,p2,h2⟩:=h2
 refine⟨_,pgs_cons p1 p2 hs,λR0 P0 H0 δ δ' ds vs O σ H Q E r e k=>?_⟩
 cases ds with
 | nil=>cases e
 | cons d ds =>
  cases r with
  | @cons v _ vs _ r rs =>
   have e:(t d δ).bind (u ds)=some δ':=e
   cases e1:t d δ with
   | none=>rw[e1] at e;cases e
   | some δ1 =>
    rw[e1] at e
    refine⟨v,vs,rfl,h1 R0 P0 H0 δ δ1 d v O σ H _ E r e1 λσ1 H1 E1 s1=>?_⟩
    exact h2 R0 P0 H0 δ1 δ' ds vs O σ1 H1 Q E1 (rs.same s1) e λσ2 H2 E2 s2=>k σ2 H2 E2 (s1.trans s2)
def tgTup(n:Nat)(u:List D->DS->Option DS):D->DS->Option DS:=λd δ=>match d with
 | .tuple ds=>if ds.length=n then u ds δ else none
 | _=>none
theorem pdg_tup{k:Nat}{u:List D->DS->Option DS}{n:Nat}(hc:X.calm=true)(h:PDGs X es u)
  (hn:(assignEach es X.env).length=n:=by rfl) (hst:(assignEach es X.env).findIdx? (·.1)=none:=by rfl):PDG X (.Tuple es k pos) (tgTup n u):=by
 obtain⟨t,p,h⟩:=h
 refine⟨_,pg_tup hc p hn hst,λR0 P0 H0 δ δ' d v O σ H Q E r e k=>?_⟩
 cases d with
 | tuple ds =>
  have e:(if ds.length=n then u ds δ else none)=some δ':=e
  by_cases hl:ds.length=n
  ·rw[if_pos hl] at e
   obtain⟨a,xs,rfl,h1,rs⟩:=r.tup_inv
   exact⟨a,xs,rfl,h1,by rw[rs.length];exact hl,h R0 P0 H0 δ δ' ds xs O σ H Q E rs e k⟩
  ·rw[if_neg hl] at e;cases e
 | _=>cases e
def cx(f:DS->M D)(g:D->DS->Option DS):DS->M Out:=λδ=>(f δ).thn λd=>(M.lift (g d δ)).thn λδ'=>M.ret (.nx δ')
theorem br{i:Nat}{x:Str}{pos':Pos}(hN:X.N.Nodup)(hi:X.N[i]?=some x)(hx:Loc X.env.scope x)(he:PD X G e f)(hs:swapsWith e (some (.Name x pos')) pos.line X.env=pure false:=by rfl)(hf:X.fn x=true\/X.env.scope.names.lookup x=some .local:=by first | exact .inl rfl | exact .inr rfl | assumption) :
  PDS X G (.Assign [.Name x pos'] e pos) (cx f (tgN i)):=by
 obtain⟨t,p,he⟩:=he
 refine⟨_,ps_set hN hi hx p hs hf,λR0 P0 H0 δ O σ H Dn E k=>?_⟩
 refine he δ O σ H _ E.ev (al (ay k) λd z v H1 s1 r=>?_)
 obtain⟨δ',hd,z⟩:=cC (ay z)
 cases hd
 exact z O _ H1 ((E.same s1).set r)
def forD(body:D->DS->M Out):List D->DS->M Out
 | [],δ=>M.ret (.nx δ)
 | x::xs,δ=>(body x δ).thn λo=>match o with
  | .nx δ'=>forD body xs δ'
  | .ct δ'=>forD body xs δ'
  | .bk δ'=>M.ret (.nx δ')
  | .rt d=>M.ret (.rt d)
def e8(t:D->DS->Option DS)(g:DS->M Out):D->DS->M Out:=λd δ=>(M.lift (t d δ)).thn g
def seqD:D->Option (List D)
 | .list ds=>some ds
 | .tuple ds=>some ds
 | _=>none
def iSeq(K:PySem.W.Frag)(tl:TE):TI:=λσ H R=>tl σ H λx H1=>∃a,x=.ref a/\(((∃xs,SqL K H1 a xs)/\R (Itl K a) H1)\/((∃xs,SqT K H1 a xs)/\R (Itt K a) H1))
theorem pi_seq{tg l:Expr}{tl:TE}(hl:PE X l tl):PI X tg l (iSeq X.K tl):=by
 intro pins s σ H R I h
 refine thn (hl pins s σ H _ I h) λv s1 ⟨x,H1,I1,r1,q1⟩=>?_
 obtain⟨a,e,q⟩:=q1
 subst e
 cases r1
 rcases q with ⟨⟨xs,hq⟩,q⟩ | ⟨⟨xs,hq⟩,q⟩
 ·obtain⟨its,rv,p,hz⟩:=I1.list hq
  refine wpAny_pyIter_list p.isList ?_
  refine⟨s1.heap.objs.size,[s1.heap.objs.size],_,_,H1,rfl,I1.kept (t':=s1.toks) λb o e=>Heap.get?_push_of_some _ e,turn_list a _,⟨_,Heap.get?_push_size _ rfl,rfl,rfl⟩,λb hb=>?_,q⟩
  have e:b=s1.heap.objs.size:=by simpa using hb
  subst e
  exact I1.fpOk (Nat.le_refl _) (I1.hok.fresh (Nat.le_refl _))
 ·obtain⟨its,rv,p,hz⟩:=I1.tuple hq
  refine wpAny_pyIter_tuple (show s1.heap.IsTuple a its.toArray from p) ?_
  refine⟨s1.heap.objs.size,[s1.heap.objs.size],_,_,H1,rfl,I1.kept (t':=s1.toks) λb o e=>Heap.get?_push_of_some _ e,turn_tuple a _,⟨_,Heap.get?_push_size _ rfl,rfl,rfl⟩,λb hb=>?_,q⟩
  have e:b=s1.heap.objs.size:=by simpa using hb
  subst e
  exact I1.fpOk (Nat.le_refl _) (I1.hok.fresh (Nat.le_refl _))
def Ch(O R0:List Addr)(l:Addr):Prop:=l∈O/\l∉R0
theorem EI.noCh(E:EI K Hr R0 P0 H0 O H σ δ){b:Addr}{o:HO}(n:¬P0 b)(h:H0 b=some o):¬Ch O R0 b:=λ⟨z1,z2⟩=>by
 rcases E.om b z1 with q | q | q
 ·exact z2 q
 ·exact n q
 ·rw[h] at q;cases q
theorem EI.inner(E:EI K Hr R0 P0 H0 O H σ δ):EI K Hr R0 (Ch O R0) H O H σ δ :=
 ⟨E.ev,E.omr,λb o _ h=>h,λl hl=>(Classical.em (l∈R0)).elim .inl λn=>.inr (.inl ⟨hl,n⟩),E.nr1,E.sub⟩
theorem EI.outer{O1:List Addr}{H1:Hp}{σ1:St}{δ1:DS}(E:EI K Hr R0 P0 H0 O H σ δ)(E1:EI K Hr R0 (Ch O R0) H O1 H1 σ1 δ1):EI K Hr R0 P0 H0 O1 H1 σ1 δ1:=by
 refine⟨E1.ev,E1.omr,λb o n h=>E1.keep b o (E.noCh n h) (E.keep b o n h),λl hl=>?_,E1.nr1,E1.sub⟩
 rcases E1.om l hl with q | q | q
 ·exact .inl q
 ·exact E.om l q.1
 ·refine .inr ?_
  by_cases hp:P0 l
  ·exact .inl hp
  ·cases e:H0 l with
   | none=>exact .inr rfl
   | some o =>
    rw[E.keep l o hp e] at q
    cases q
theorem Fin.outer{Dn:Ends}(E:EI K Hr R0 P0 H0 O H σ δ){o:Out}(h:Fin K Hr R0 P0 H0 Dn o):Fin K Hr R0 (Ch O R0) H Dn o:=by
 cases o with
 | nx δ1=>exact λO1 σ1 H1 E1=>h O1 σ1 H1 (E.outer E1)
 | bk δ1=>exact λO1 σ1 H1 E1=>h O1 σ1 H1 (E.outer E1)
 | ct δ1=>exact λO1 σ1 H1 E1=>h O1 σ1 H1 (E.outer E1)
 | rt d=>exact λv H1 kp r=>h v H1 (λb o n q=>kp b o (E.noCh n q) (E.keep b o n q)) r
theorem EI.to{O1:List Addr}{H1:Hp}{σ1:St}{δ1:DS}(E:EI K Hr R0 P0 H0 O H σ δ)(E1:EI K Hr R0 (Ch O R0) H O1 H1 σ1 δ1):To O O1 H H1:=by
 have nt:∀{b:Addr} {o:HO},(∀xs,o≠.lst xs)->(∀xs,o≠.dK xs)->(∀C dx fs,o≠.ins C dx fs)->H b=some o->¬Ch O R0 b:=λ{b o} ho ho2 ho3 h z=>by
  rcases E.ev.oo b z.1 with ⟨ys,hl⟩ | ⟨ys,hl⟩ | ⟨C,dx,fs,hl⟩
  ·rw[h] at hl
   exact ho _ (Option.some.inj hl)
  ·rw[h] at hl
   exact ho2 _ (Option.some.inj hl)
  ·rw[h] at hl
   exact ho3 _ _ _ (Option.some.inj hl)
 have kp:∀{b:Addr} {o:HO},b∉O->Rd H b o->b∉O1/\Rd H1 b o:=λ{b o} n h=>by
  refine⟨λz=>?_,?_⟩
  ·rcases E1.om b z with q | q | q
   ·exact n (E.sub b q)
   ·exact n q.1
   ·rcases h with h | ⟨u,h⟩
    ·rw[h] at q;cases q
    ·rw[h] at q;cases q
  ·rcases h with h | ⟨u,h⟩
   ·exact .inl (E1.keep _ _ (λz=>n z.1) h)
   ·exact .inr ⟨u,E1.keep _ _ (λz=>n z.1) h⟩
 refine⟨λb xs h=>?_,λb xs n h=>kp n h,λb xs n h=>kp n h,λb C dx fs n h=>⟨(kp n (.inl h)).1,E1.keep _ _ (λz=>n z.1) h⟩⟩
 ·rcases h with h | ⟨u,h⟩
  ·exact .inl (E1.keep _ _ (nt (λ_ z=>by cases z) (λ_ z=>by cases z) (λ_ _ _ z=>by cases z) h) h)
  ·exact .inr ⟨u,E1.keep _ _ (nt (λ_ z=>by cases z) (λ_ z=>by cases z) (λ_ _ _ z=>by cases z) h) h⟩
theorem gS{ds:List D}{i:Nat}{d:D}(h:ds[i]?=some d):ds.drop i=d::ds.drop (i+1):=by
 obtain⟨hl,e⟩:=List.getElem?_eq_some_iff.mp h
 rw[List.drop_eq_getElem_cons hl,e]
def b6(lo:Int)(n:Nat):List D:=(List.range n).map λ(i:Nat)=>PyData.int (lo+(i:Int))
def b62(j:Int):Bool:=decide (-4611686018427387904<=j/\j<4611686018427387904)
def gZ:List D->Option (List D)
 | [.int j]=>if b62 j=true then some (b6 0 j.toNat) else none
 | _=>none
def rng2:List D->Option (List D)
 | [.int i,.int j]=>if (b62 i&&b62 j)=true then some (b6 i (j-i).toNat) else none
 | _=>none
theorem b62_of{j:Int}(h:b62 j=true) : -(2 ^ 62)<=j/\j<2 ^ 62:=by
 have e62:(2:Int) ^ 62=4611686018427387904:=by decide
 rw[e62]
 exact of_decide_eq_true h
end
def spD(K:PySem.W.Frag)(n:Nat)(F:List D->M D):Sp:=λvs H Q _=>∃O ds,vs.length=n/\(∀l∈O,Mu H l)/\Reps K O H vs ds/\ok (λ_=>False) (F ds) (λd=>∀v H',aG H H'->Rep K O H' v d->Q v H')
structure Def(P:Program)(w:World)(K:PySem.W.Frag)(mg:Str->Option Value)(base:Heap)(k:Nat)(x:Str)(n:Nat)(F:List D->M D):Prop where
 ex:∃(f:Addr) (fd:FuncData) (ps:List Str),FnOk P w K mg base CX0 k f fd ps (spD K n F)/\mg x=some (.ref f)/\PySem.W.keepIn K (.ref f)=true/\fU K fd ps []
def cf(F:List D->M D)(fa:DS->M (List D)):DS->M D:=λδ=>(fa δ).thn F
section
variable{X:Cx}{G:XD->Hp->Prop}{a b c e:Expr}{es b7:List Expr}{f g h:DS->M D}{fb gb:DS->M Bool}{fa:DS->M (List D)}{pos:Pos}
theorem ok_false{α:Type}{G:XD->Prop}{r:M α}{k:α->Prop}(h:ok (λ_=>False) r k):ok G r k:=by
 match r,h with
 | some (.ok a),h=>exact h
def noX{α:Type}(r:M α):M α:=match r with
 | some (.error _)=>none
 | r=>r
theorem ok_noX{α:Type}{G:XD->Prop}{r:M α}{k:α->Prop}(h:ok G (noX r) k):ok (λ_=>False) r k:=by
 match r,h with
 | some (.ok a),h=>exact h
theorem cq{k n:Nat}{x:Str}{p:Pos}{F:List D->M D}(h:Def X.prog X.w X.K X.mg X.base k x n F)(hr:Room k X.A)(hg:Gl X x)(hn:(e::es).length=n)(ha:PDA X G (e::es) fa)
  (hdb:(x==("__debug__" : Str))=false:=by decide) (he:starEach (e::es) X.env=(false,eval e X.env)::starEach es X.env:=by rfl) (hpl:(backTo pos (starEach es X.env)).any (·.1)=false:=by rfl) :
  PD X G (.Call (.Name x p) (e::es) [] pos) (cf (λds=>noX (F ds)) fa):=by
 obtain⟨f,fd,ps,F1,hm,hk,hb⟩:=h.ex
 obtain⟨hl,t,pa,ha⟩:=ha
 refine⟨_,pe_call F1 hr hg hm hk hb .nil pass0 pa hdb he hpl,λδ O σ H Q E k=>?_⟩
 have k1:=ay k
 refine ha δ O σ H _ E ?_
 cases e1:fa δ with
 | none=>rw[e1] at k1;exact k1.elim
 | some r =>
  rw[e1] at k1
  cases r with
  | error x=>exact k1
  | ok ds =>
   refine λvs H1 s1 rs=>?_
   refine⟨O,ds,?_,(E.same s1).oo,?_,al (ok_noX k1) λd z v H2 s2 r=>z v H2 (s1.trans s2) r⟩
   ·rw[List.append_nil,rs.length,hl δ ds e1]
    exact hn
   ·rw[List.append_nil]
    exact rs
end
def ik(n:Nat)(ds:List D):DS:=ds.map Sl.vl++List.replicate (n-ds.length) Sl.un
def endD(o:Out):M D:=match o with
 | .rt d=>M.ret d
 | .nx _=>M.ret .none
 | _=>none
def run(n:Nat)(g:DS->M Out)(ds:List D):M D:=(g (ik n ds)).thn endD
section
variable{P:Program}{w:World}{K:PySem.W.Frag}{mg:Str->Option Value}{base:Heap}
theorem start_no{n i:Nat}{ds:List D}{s:Sl}(h1:(ik n ds)[i]?=some s)(ho:s.own):False:=by
 unfold ik at h1
 by_cases hi:i<ds.length
 ·rw[List.getElem?_append_left (by simpa using hi),List.getElem?_map] at h1
  cases e:ds[i]? with
  | none=>rw[e] at h1;cases h1
  | some d=>rw[e] at h1;cases h1;exact ho
 ·rw[List.getElem?_append_right (by simpa using hi),List.getElem?_replicate] at h1
  split at h1
  ·cases h1;exact ho
  ·cases h1
theorem ev_start{O:List Addr}{H:Hp}{vs:List V}{ds:List D}(N:List Str)(oo:∀l∈O,Mu H l)(r:Reps K O H vs ds):Ev K H O H (L2.fN N vs) (ik N.length ds):=by
 have get:∀(i:Nat) (s:Sl),(ik N.length ds)[i]?=some s->(∃d,ds[i]?=some d/\s=.vl d)\/s=.un:=λi s h=>by
  unfold ik at h
  by_cases hi:i<ds.length
  ·rw[List.getElem?_append_left (by simpa using hi),List.getElem?_map] at h
   cases e:ds[i]? with
   | none=>rw[e] at h;cases h
   | some d=>rw[e] at h;cases h;exact .inl ⟨d,rfl,rfl⟩
  ·rw[List.getElem?_append_right (by simpa using hi),List.getElem?_replicate] at h
   split at h
   ·cases h;exact .inr rfl
   ·cases h
 refine⟨aG.refl H,oo,?_,λi s h=>?_,λi j l es fs hij h1 h2 h3=>?_⟩
 ·unfold L2.fN ik
  simp [r.length]
 ·rcases get i s h with ⟨d,hd,rfl⟩ | rfl
  ·obtain⟨v,hv,rd⟩:=r.get hd
   refine⟨v,?_,rd⟩
   unfold L2.fN
   have hi:i<vs.length:=(List.getElem?_eq_some_iff.mp hv).1
   rw[List.getElem?_append_left (by simpa using hi),List.getElem?_map,hv]
   rfl
  ·trivial
 ·rcases get i _ h1 with ⟨d,_,z⟩ | z<;>cases z
theorem fY{x qual:Str}{st:Stmt}{f:Addr}{fd:FuncData}{N ps:List Str}{k:Nat}{g:DS->M Out}(F0:Fun K x qual st f fd)(S:FnScope N ps (aj st))
  (hbody:∀(cdv:Value) (A:Around) (outer:List Env) (s:Shared) (H:Hp) (E:XK),Room k (A.deeper (envOfC qual (aj st) s.heap.objs.size f cdv)) ->
   PDSs (cxOf CX0 P w K mg base N qual (aj st) f cdv A outer s H E).nox (λ_ _=>False) (aI st) g):FnOk P w K mg base CX0 (k+1) f fd ps (spD K ps.length (run N.length g)):=by
 refine F0.ok S (λvs H Q E h=>?_) (λcdv A outer s H vs Q E hr h=>?_)
 ·obtain⟨O,ds,hl,_⟩:=h
  exact hl
 ·obtain⟨O,ds,hl,oo,r,q⟩:=h
  obtain⟨t,p,hB⟩:=hbody cdv A outer s H E hr
  refine⟨t,p,hB O (λ_=>False) H (ik N.length ds) O (L2.fN N vs) H _ ⟨ev_start N oo r,λl hl=>.inl hl,λb o _ h=>h,λl hl=>.inl hl,λi es l h1 ho h2=>?_,λl hl=>hl⟩ (al (ok_false (ay q)) λo z=>?_)⟩
  ·exact(start_no h1 ho).elim
  ·cases o with
   | rt d=>exact λv H' kp r=>z v H' (λb o h=>kp b o (λw=>w) h) r
   | nx δ=>exact λO' σ' H' E'=>z .non H' (λb o h=>E'.keep b o (λw=>w) h) .non
   | bk δ=>exact z.elim
   | ct δ=>exact z.elim
theorem def_of{x qual:Str}{st:Stmt}{f:Addr}{fd:FuncData}{N ps:List Str}{k:Nat}{g:DS->M Out}(F0:Fun K x qual st f fd)(S:FnScope N ps (aj st))(hm:mg x=some (.ref f))(hb:fU K fd ps [])
  (hbody:∀(cdv:Value) (A:Around) (outer:List Env) (s:Shared) (H:Hp) (E:XK),Room k (A.deeper (envOfC qual (aj st) s.heap.objs.size f cdv)) ->
   PDSs (cxOf CX0 P w K mg base N qual (aj st) f cdv A outer s H E).nox (λ_ _=>False) (aI st) g):Def P w K mg base (k+1) x ps.length (run N.length g) :=
 ⟨f,fd,ps,fY F0 S hbody,hm,F0.kp,hb⟩
def spLaw(K:PySem.W.Frag):Sp:=λvs H Q _=>∃(a:Addr) (ns:List Int),vs=[.ref a]/\SqL K H a (ns.map V.int)/\ns.length<=63/\∀H',Q (.bl true) H'
theorem law_sp{F:List D->M D}(hF:∀ns:List Int,ns.length<=63->F [.list (ns.map PyData.int)]=M.ret (.bool true))(vs:List V)(H:Hp)(Q:VK)(E:XK)(h:spLaw K vs H Q E):spD K 1 F vs H Q E:=by
 obtain⟨a,ns,rfl,hS,hl,k⟩:=h
 refine⟨[],[.list (ns.map PyData.int)],rfl,(λl z=>nomatch z),.cons ?_ .nil,?_⟩
 ·rcases hS with hS | hS
  ·exact .lst hS (λz=>nomatch z) (Reps.ints ns)
  ·exact .lstK hS (Reps.ints ns)
 ·rw[hF ns hl]
  intro v H' s r
  rw[r.bool_inv]
  exact k H'
theorem walk{l:PySem.W.OpenLaw}{q:Program}{loose:List Str}{XP:(Str->Option Value)->Heap->Prop}{YP:World->Heap->Prop}{d:DefRec}{K:Params->PySem.W.Frag}{k:Nat}{F:List D->M D}{x:Str}(hn:l.most=some 63)(hdf:d.params.defaults=[])
  (hF:∀ns:List Int,ns.length<=63->F [.list (ns.map PyData.int)]=M.ret (.bool true)) (hr:Room k callerA)
  (hY:∀(w:World) (h:Heap),YP w h->(K w.params).In h)
  (T:∀(w:World) (mg:Str->Option Value) (fa:Addr) (h:Heap),(K w.params).In h->h.Ns mainGlobals mg->mg d.name=some (.ref fa) ->
   ∃fd:FuncData,(∀(s:Shared) (u:Value),BindsTo s fd ⟨[u],[]⟩ [(x,u)])/\∀base:Heap,(K w.params).In base->base.Ns mainGlobals mg->FnOk l.prog w (K w.params) mg base CX0 k fa fd [x] (spD (K w.params) 1 F)) :
  PySem.W.WalkO q loose XP YP l.row.toRowW d [] (λf vs=>PySem.call f vs) :=
 L2.walk_of (n:=63) (k:=k) (x:=x) (CX:=λ_=>CX0) (sp:=λw=>spD (K w.params) 1 F) hn (by decide) hdf hr hY T (λw H a ns hl _ hS=>law_sp hF _ _ _ _ ⟨a,ns,rfl,hS,hl,λ_=>rfl⟩) λ_ _ _ _ _ z=>z
end
end DL
namespace DL
open PySem PySem.Spec L2
section
variable{δ δ':DS}{f g:DS->M D}{fb gb:DS->M Bool}{fa:DS->M (List D)}{gs gt g1 g2:DS->M Out}{d x y:D}{b b1 b2:Bool}{ds xs:List D}{i j:Int}{r:M Out}{o:Out}
theorem ac{n:Nat}(h:δ[n]?=some (.vl d)):ad n δ=M.ret d:=by unfold ad;rw[h]
theorem ar:dC d δ=M.ret d:=rfl
theorem ak{h:D->D->Option D}(h1:f δ=M.ret x)(h2:g δ=M.ret y)(h3:h x y=some d):d2 h f g δ=M.ret d:=by
 unfold d2;rw[h1,aQ,h2,aQ,h3];rfl
theorem ci{h:D->Option D}(h1:f δ=M.ret x)(h3:h x=some d):d1 h f δ=M.ret d:=by
 unfold d1;rw[h1,aQ,h3];rfl
theorem eY:cO (.int i) (.int j)=some (.int (i+j)):=rfl
theorem o_sub:oSub (.int i) (.int j)=some (.int (i-j)):=rfl
theorem o_mul(h:bMul i j=true):oMul (.int i) (.int j)=some (.int (i*j)):=if_pos h
theorem o_div(h:bDiv j=true):oDiv (.int i) (.int j)=some (.int (i / j)):=if_pos h
theorem gM(h:0<j):im (.int i) (.int j)=some (.int (i % j)):=if_pos (decide_eq_true h)
theorem o_lt:oLt (.int i) (.int j)=some (.bool (decide (i<j))):=rfl
theorem o_gt:oGt (.int i) (.int j)=some (.bool (decide (j<i))):=rfl
theorem o_ge:oGe (.int i) (.int j)=some (.bool (decide (j<=i))):=rfl
theorem o_pow9:oPow (.int 10) (.int 9)=some (.int 1000000000):=rfl
theorem o_max:oMax [.int i,.int j]=some (.int (max i j)):=rfl
theorem o_min:oMin [.int i,.int j]=some (.int (min i j)):=rfl
theorem o_lenL:fg [.list ds]=some (.int ds.length):=rfl
theorem o_lenT:fg [.tuple ds]=some (.int ds.length):=rfl
theorem o_eq:oEq (.int i) (.int j)=some (.bool (decide (i=j))):=by
 show some (PyData.bool (i==j))=_
 rw[Bool.beq_eq_decide_eq]
theorem o_ne:oNe (.int i) (.int j)=some (.bool (!decide (i=j))):=by
 show some (PyData.bool (!(i==j)))=_
 rw[Bool.beq_eq_decide_eq]
theorem bMul_l(h1 : -18446744073709551616<i)(h2:i<18446744073709551616):bMul i j=true:=decide_eq_true (.inl ⟨h1,h2⟩)
theorem bMul_r(h1 : -18446744073709551616<j)(h2:j<18446744073709551616):bMul i j=true:=decide_eq_true (.inr ⟨h1,h2⟩)
theorem bDiv_of(h1:0<j)(h2:j<1267650600228229401496703205376):bDiv j=true:=decide_eq_true ⟨h1,h2⟩
theorem bj(h:f δ=M.ret (.bool b)):dB f δ=M.ret b:=by unfold dB;rw[h];rfl
theorem ev_not(h:fb δ=M.ret b):dNot fb δ=M.ret (!b):=by unfold dNot;rw[h];rfl
theorem ev_and(h1:fb δ=M.ret b1)(h2:gb δ=M.ret b2):dAnd fb gb δ=M.ret (b1&&b2):=by
 unfold dAnd;rw[h1,aQ,h2];cases b1<;>rfl
theorem fL(h1:fb δ=M.ret false)(h2:gb δ=M.ret b):dOr fb gb δ=M.ret b:=by unfold dOr;rw[h1,aQ,if_neg Bool.false_ne_true];exact h2
theorem ev_and_f(h1:fb δ=M.ret false):dAnd fb gb δ=M.ret false:=by unfold dAnd;rw[h1];rfl
theorem ev_and_t(h1:fb δ=M.ret true)(h2:gb δ=M.ret b):dAnd fb gb δ=M.ret b:=by unfold dAnd;rw[h1,aQ,if_pos rfl];exact h2
theorem ev_notV(h:f δ=M.ret (.bool b)):dNotV f δ=M.ret (.bool (!b)):=by unfold dNotV;rw[bj h];rfl
theorem ev_andV_t(h1:f δ=M.ret (.bool true))(h2:g δ=M.ret d):dAndV f g δ=M.ret d:=by unfold dAndV;rw[bj h1,aQ,if_pos rfl];exact h2
theorem ev_is{T:String}(h:f δ=M.ret d)(hi:noIns d=true:=by rfl):dIs T f δ=M.ret (.bool (isD T d)):=by unfold dIs;rw[h,aQ,if_pos hi]
theorem ao:aw δ=M.ret []:=rfl
theorem af(h1:f δ=M.ret x)(h2:fa δ=M.ret xs):ag f fa δ=M.ret (x::xs):=by unfold ag;rw[h1,aQ,h2];rfl
theorem du(h:fa δ=M.ret ds)(hz:aL ds.length=true):gG fa δ=M.ret (.tuple ds):=by unfold gG;rw[h,aQ,if_pos hz]
theorem ev_lst(h:fa δ=M.ret ds)(hz:aL ds.length=true):dLst fa δ=M.ret (.list ds):=by unfold dLst;rw[h,aQ,if_pos hz]
theorem el{h:List D->Option D}(h1:fa δ=M.ret ds)(h2:h ds=some d):dCB h fa δ=M.ret d:=by unfold dCB;rw[h1,aQ,h2];rfl
theorem cP{F:List D->M D}(h1:fa δ=M.ret ds)(h2:F ds=M.ret d):cf (λds=>noX (F ds)) fa δ=M.ret d:=by
 unfold cf;rw[h1,aQ,h2];rfl
theorem ev_part(h:f δ=M.ret (.int i)):dPart f δ=M.ret (some i):=by unfold dPart;rw[h];rfl
theorem ev_nopart:dNoPart δ=M.ret none:=rfl
theorem ev_if(h1:fb δ=M.ret b){r:M D}(h2:(if b=true then f δ else g δ)=r):dIf fb f g δ=r:=by unfold dIf;rw[h1];exact h2
theorem aT(h1:gs δ=M.ret (.nx δ'))(h2:gt δ'=r):bq gs gt δ=r:=by unfold bq;rw[h1];exact h2
theorem ev_seqR(h1:gs δ=M.ret (.rt d)):bq gs gt δ=M.ret (.rt d):=by unfold bq;rw[h1];rfl
theorem ev_seqIf(h1:fb δ=M.ret b)(h2:(if b=true then bq g1 gt δ else bq g2 gt δ)=r):bq (gIf fb g1 g2) gt δ=r:=by
 unfold bq gIf;rw[h1,aQ];unfold bq at h2;cases b<;>exact h2
theorem iu(h1:fb δ=M.ret b)(h2:(if b=true then g1 δ else g2 δ)=r):gIf fb g1 g2 δ=r:=by unfold gIf;rw[h1];exact h2
theorem ev_seqN(h:gt δ=r):bq fQ gt δ=r:=h
theorem bo{n:Nat}(h:f δ=M.ret d):cx f (tgN n) δ=M.ret (.nx (δ.set n (.vl d))):=by unfold cx;rw[h];rfl
theorem dv(h:f δ=M.ret d):eL f δ=M.ret (.rt d):=by unfold eL;rw[h];rfl
theorem ck{n:Nat}(h:gs (ik n ds)=M.ret (.rt d)):run n gs ds=M.ret d:=by unfold run;rw[h];rfl
theorem ite_t{α:Type}{p:Prop}[Decidable p]{A B r:α}(h:p)(k:A=r):(if decide p=true then A else B)=r:=by rw[if_pos (decide_eq_true h)];exact k
theorem ite_f{α:Type}{p:Prop}[Decidable p]{A B r:α}(h:¬p)(k:B=r):(if decide p=true then A else B)=r:=by rw[if_neg (by rw[decide_eq_false h];exact Bool.false_ne_true)];exact k
theorem fP{α:Type}{A B r:α}{b:Bool}(h:b=true)(k:A=r):(if b=true then A else B)=r:=by rw[if_pos h];exact k
theorem gg{α:Type}{A B r:α}{b:Bool}(h:b=false)(k:B=r):(if b=true then A else B)=r:=by rw[h,if_neg Bool.false_ne_true];exact k
theorem forD_inv{body:D->DS->M Out}(P:DS->Prop):∀(ds:List D) (δ:DS),P δ->(∀d∈ds,∀δ,P δ->∃δ',body d δ=M.ret (.nx δ')/\P δ')->∃δ',forD body ds δ=M.ret (.nx δ')/\P δ'
 | [],δ,p,_=>⟨δ,rfl,p⟩
 | d::ds,δ,p,h=>by
  obtain⟨δ1,h1,p1⟩:=h d List.mem_cons_self δ p
  obtain⟨δ2,h2,p2⟩:=forD_inv P ds δ1 p1 λe he=>h e (List.mem_cons_of_mem _ he)
  refine⟨δ2,?_,p2⟩
  show(body d δ).thn _=_
  rw[h1]
  exact h2
theorem ie{t:D->DS->Option DS}(h1:t d δ=some δ')(h2:gs δ'=r):e8 t gs d δ=r:=by unfold e8;rw[h1];exact h2
end
end DL
namespace L2
open PySem PySem.Spec PyProof.Rows
section
variable{X:Cx}
end
end L2
namespace DL
open PySem PySem.Spec PyProof.Rows L2
def tD(K:PySem.W.Frag)(G:XD->Hp->Prop)(f:DS->M D):TE:=λσ H Q=>∃Hr δ O,Ev K Hr O H σ δ/\ok (GS G Hr) (f δ) (λd=>∀v H',aG H H'->Rep K O H' v d->Q v H')
theorem PD.can{X:Cx}{G:XD->Hp->Prop}{e:Expr}{f:DS->M D}(h:PD X G e f):PE X e (tD X.K G f):=by
 obtain⟨t,p,h⟩:=h
 intro pins s σ H Q I hw
 obtain⟨Hr,δ,O,E,k⟩:=hw
 exact p pins s σ H Q I (h δ O σ H Q E k)
section
variable{K:PySem.W.Frag}{G:XD->Prop}{f:DS->M D}
def Kp(l:Addr)(H H':Hp):Prop:=∀b o,b≠l->H b=some o->H' b=some o
theorem Kp.to{O:List Addr}{H H':Hp}{l:Addr}(k:Kp l H H')(hl:H l=none):To O (l::O) H H':=by
 have rd:∀{b:Addr} {o:HO},Rd H b o->Rd H' b o:=λ{b o} h=>by
  have hb:=Rd.ne_new h hl
  rcases h with h | ⟨u,h⟩
  ·exact .inl (k _ _ hb h)
  ·exact .inr ⟨u,k _ _ hb h⟩
 have no:∀{b:Addr} {o:HO},b∉O->Rd H b o->b∉l::O:=λ{b o} n h z=>by
  rcases List.mem_cons.mp z with z | z
  ·exact Rd.ne_new h hl z
  ·exact n z
 exact⟨λb xs h=>rd h,λb xs n h=>⟨no n h,rd h⟩,λb xs n h=>⟨no n h,rd h⟩,λb C dx fs n h=>⟨no n (.inl h),k _ _ (aK h hl) h⟩⟩
theorem Kp.same{H H':Hp}{l:Addr}(k:Kp l H H')(hl:H l=none):aG H H':=λb o e=>k b o (aK e hl) e
end
section
variable{X:Cx}{G:XD->Hp->Prop}{fi f:DS->M D}
end
section
variable{δ:DS}{fi f:DS->M D}{x y:D}{ds ys:List D}
end
end DL
namespace L2
open PySem PySem.Spec PyProof.Rows
section
variable{X:Cx}
end
end L2
namespace DL
open PySem PySem.Spec PyProof.Rows L2
def slotAt(δ:DS)(j:Nat):Sl:=match δ[j]? with
 | some (.vl d)=>.vl d
 | _=>.un
section
variable{K:PySem.W.Frag}{G:XD->Prop}{f:DS->M D}
end
section
variable{X:Cx}{G:XD->Hp->Prop}{fi f:DS->M D}
end
section
variable{δ:DS}{fi f:DS->M D}{x:D}{ds ys:List D}{js:List Nat}
end
end DL
namespace DL
open PySem PySem.Spec PyProof.Rows L2
section
variable{X:Cx}{G:XD->Hp->Prop}{a b c e:Expr}{f:DS->M D}{pos pos':Pos}{sts:List Stmt}{gs:DS->M Out}
variable{K:PySem.W.Frag}{Hr:Hp}{R0:List Addr}{P0:Addr->Prop}{H0 H H':Hp}{O:List Addr}{σ:St}{δ:DS}
theorem SlOk.to{O':List Addr}{o:Option (Option V)}{s:Sl}(t:To O O' H H')(hd:∀l kvs,l∈O->H l=some (.dK kvs)->l∈O'/\H' l=some (.dK kvs))(hs:∀l xs,l∈O->H l=some (.lst xs)->o=some (some (.ref l))->(∃ds,s=.ow ds)->l∈O'/\H' l=some (.lst xs))(h:SlOk K O H o s):SlOk K O' H' o s:=by
 cases s with
 | un=>trivial
 | ex a=>exact h
 | vl d =>
  obtain⟨v,h1,r⟩:=h
  exact⟨v,h1,r.to t⟩
 | ow ds =>
  obtain⟨l,xs,h1,h2,h3,r⟩:=h
  obtain⟨q1,q2⟩:=hs l xs h2 h3 h1 ⟨ds,rfl⟩
  exact⟨l,xs,h1,q1,q2,r.to t⟩
 | od es =>
  obtain⟨l,kvs,h1,h2,h3,hk,r⟩:=h
  obtain⟨q1,q2⟩:=hd l kvs h2 h3
  exact⟨l,kvs,h1,q1,q2,hk,r.to t⟩
theorem hd_new{l:Addr}{o:HO}(hl:H l=none):∀a kvs,a∈O->H a=some (.dK kvs)->a∈l::O/\upd H l o a=some (.dK kvs):=λa kvs h1 h2=>⟨List.mem_cons_of_mem _ h1,by rw[upd_ne (aK h2 hl)];exact h2⟩
theorem hd_set{l:Addr}{xs:List V}{o:HO}(hl:H l=some (.lst xs)):∀a kvs,a∈O->H a=some (.dK kvs)->a∈O/\upd H l o a=some (.dK kvs):=λa kvs h1 h2=>⟨h1,by rw[upd_ne (ne_of h2 hl (by intro z;cases z))];exact h2⟩
theorem EI.app{i:Nat}{l:Addr}{xs:List V}{ds:List D}{v:V}{d:D}(E:EI K Hr R0 P0 H0 O H σ δ)(hd:δ[i]?=some (.ow ds))(hσ:σ[i]?=some (some (.ref l)))(hl:H l=some (.lst xs))(rx:Reps K O H xs ds)(r:Rep K O H v d) :
  EI K Hr R0 P0 H0 O (upd H l (.lst (xs++[v]))) σ (δ.set i (.ow (ds++[d]))):=by
 obtain⟨l',xs',q1,lO,q3,_⟩:=E.ev.at_ i _ hd
 rw[hσ] at q1
 cases q1
 have tO:To O O H (upd H l (.lst (xs++[v]))):=To.set hl lO
 refine⟨⟨λb o h=>?_,λa ha=>?_,by rw[List.length_set];exact E.ev.len,λj s h=>?_,λj k a es es' hjk h1 h2 h3=>?_⟩,E.omr,λb o n h=>?_,E.om,λj es a h1 ho h2=>?_,E.sub⟩
 ·have q:=E.ev.root b o h
  have hne:b≠l:=λz=>by
   subst z
   rcases E.omr b lO with w | w
   ·exact E.nr i ds b hd hσ w
   ·rw[h] at w;cases w
  rw[upd_ne hne]
  exact q
 ·by_cases hb:a=l
  ·rw[hb];exact .lst aP
  ·exact(E.ev.oo a ha).upd_ne hb
 ·rw[bX] at h
  by_cases hij:i=j
  ·rw[if_pos hij] at h
   split at h
   ·cases h
    rw[<-hij,hσ]
    exact⟨l,_,rfl,lO,aP,(rx.to tO).append (.cons (r.to tO) .nil)⟩
   ·cases h
  ·rw[if_neg hij] at h
   refine(E.ev.at_ j s h).to tO (hd_set hl) λa ys h1 h2 h3 h4=>⟨h1,?_⟩
   obtain⟨es,rfl⟩:=h4
   have hne:a≠l:=λz=>by
    subst z
    exact E.ev.dis i j a ds es hij hd h hσ h3
   rw[upd_ne hne]
   exact h2
 ·have old:∀(j:Nat) (es:List D),(δ.set i (.ow (ds++[d])))[j]?=some (.ow es)->∃es',δ[j]?=some (.ow es'):=λj es h=>by
   rw[bX] at h
   by_cases hij:i=j
   ·rw[<-hij];exact⟨ds,hd⟩
   ·rw[if_neg hij] at h;exact⟨es,h⟩
  obtain⟨e1,h1⟩:=old j es h1
  obtain⟨e2,h2⟩:=old k es' h2
  exact E.ev.dis j k a e1 e2 hjk h1 h2 h3
 ·have q:=E.keep b o n h
  have hne:b≠l:=λz=>by
   subst z
   rcases E.om b lO with w | w | w
   ·exact E.nr i ds b hd hσ w
   ·exact n w
   ·rw[h] at w;cases w
  rw[upd_ne hne]
  exact q
 ·rw[bX] at h1
  by_cases hij:i=j
  ·exact E.nr i ds a hd (by rw[hij];exact h2)
  ·rw[if_neg hij] at h1
   exact E.nr1 j es a h1 ho h2
def gApp(i:Nat)(f:DS->M D):DS->M Out:=λδ=>match δ[i]? with
 | some (.ow ds)=>(f δ).thn λd=>if aL (ds.length+1) then M.ret (.nx (δ.set i (.ow (ds++[d])))) else none
 | _=>none
theorem small_lt{n:Nat}(h:aL (n+1)=true):n<sizeLine:=by
 have:=bE h
 omega
theorem pd_app{i:Nat}{x:Str}{xp apos cpos:Pos}(hv:PE X (.Name x xp) (tVar i))(he:PD X G e f)
  (hst:starEach [e] X.env=(false,eval e X.env)::starEach [] X.env:=by rfl)
  (hbase:attributeBase (.Name x xp) "append" X.env (eval (.Name x xp) X.env)=eval (.Name x xp) X.env:=by rfl)
  (hfew:((backTo cpos (starEach [e] X.env)).all (λx=>!x.1)&&(backToKw cpos (keywordEach [] X.env)).all (λx=>x.1.isSome)
   && decide ([e].length+([]:List Keyword).length+(if ([]:List Keyword).isEmpty then 0 else 1)<30))=true:=by rfl)
  (hline:(apos.endLine==cpos.line)=true:=by rfl) (hplain:(backTo cpos (starEach [] X.env)).any (·.1)=false:=by rfl)
  (hs:swapsWith (.Call (.Attribute (.Name x xp) "append" apos) [e] [] cpos) none pos.line X.env=pure false:=by rfl) :
  PDS X G (.Expr (.Call (.Attribute (.Name x xp) "append" apos) [e] [] cpos) pos) (gApp i f):=by
 obtain⟨t,p,he⟩:=he
 refine⟨_,ps_expr (pe_bm PySem.F.plainAttrs_list PySem.F.slot_list_append PySem.F.type_list_append mt_append hv (gp p pa_nil hst) hbase hfew hline hst hplain) hs,λR0 P0 H0 δ O σ H Dn E k=>?_⟩
 unfold gApp at k
 split at k
 ·rename_i ds hd
  obtain⟨l,xs,q1,q2,q3,q4⟩:=E.ev.at_ i _ hd
  refine⟨.ref l,q1,.inl ⟨rfl,xs,.inl (.inl q3)⟩,?_⟩
  refine he δ O σ H _ E.ev (al (ay k) λd z v H1 s1 r=>?_)
  by_cases hz:aL (ds.length+1)=true
  ·rw[if_pos hz] at z
   refine⟨l,xs,v,rfl,rfl,s1 _ _ q3,by rw[q4.length];exact small_lt hz,?_⟩
   exact z O σ _ ((E.same s1).app hd q1 (s1 _ _ q3) (q4.same s1) r)
  ·rw[if_neg hz] at z
   exact z.elim
 ·exact k.elim
def gRetO(i:Nat):DS->M Out:=λδ=>match δ[i]? with
 | some (.ow ds)=>M.ret (.rt (.list ds))
 | _=>none
theorem pd_retO{i:Nat}(he:PE X e (tVar i)):PDS X G (.Return (some e) pos) (gRetO i):=by
 refine⟨_,ps_ret he,λR0 P0 H0 δ O σ H Dn E k=>?_⟩
 unfold gRetO at k
 split at k
 ·rename_i ds hd
  obtain⟨l,xs,q1,q2,q3,q4⟩:=E.ev.at_ i _ hd
  exact⟨.ref l,q1,k _ H E.keep (.lst (.inl q3) (E.nr i ds l hd q1) (q4.to (.less E.sub)))⟩
 ·exact k.elim
def frz(i:Nat)(δ:DS):DS:=match δ[i]? with
 | some (.ow ds)=>δ.set i (.vl (.list ds))
 | _=>δ
theorem EI.frz{i:Nat}(E:EI K Hr R0 P0 H0 O H σ δ):∃O',EI K Hr R0 P0 H0 O' H σ (DL.frz i δ):=by
 unfold DL.frz
 split
 ·rename_i ds hd
  obtain⟨l,xs,q1,q2,q3,q4⟩:=E.ev.at_ i _ hd
  have nr:=E.nr i ds l hd q1
  refine⟨O.filter (λa=>decide (a≠l)),⟨E.ev.root,λa ha=>E.ev.oo a (List.mem_filter.mp ha).1,by rw[List.length_set];exact E.ev.len,λj s h=>?_,λj k a es es' hjk h1 h2 h3=>?_⟩,λa ha=>E.omr a (List.mem_filter.mp ha).1,E.keep,λa ha=>E.om a (List.mem_filter.mp ha).1,λj es a h1 ho h2=>?_,λa ha=>?_⟩
  ·have tl:To O (O.filter (λa=>decide (a≠l))) H H:=To.less λb hb=>(List.mem_filter.mp hb).1
   rw[bX] at h
   by_cases hij:i=j
   ·rw[if_pos hij] at h
    split at h
    ·cases h
     rw[<-hij,q1]
     exact⟨.ref l,rfl,.lst (.inl q3) (λz=>absurd rfl (of_decide_eq_true (List.mem_filter.mp z).2)) (q4.to tl)⟩
    ·cases h
   ·rw[if_neg hij] at h
    refine(E.ev.at_ j s h).to tl (λa kvs h1 h2=>⟨List.mem_filter.mpr ⟨h1,decide_eq_true (ne_of h2 q3 (by intro z;cases z))⟩,h2⟩) λa ys h1 h2 h3 h4=>⟨List.mem_filter.mpr ⟨h1,decide_eq_true λz=>?_⟩,h2⟩
    obtain⟨es,rfl⟩:=h4
    subst z
    exact E.ev.dis i j a ds es hij hd h q1 h3
  ·have old:∀(j:Nat) (es:List D),(δ.set i (.vl (.list ds)))[j]?=some (.ow es)->δ[j]?=some (.ow es):=λj es h=>by
    rw[bX] at h
    by_cases hij:i=j
    ·rw[if_pos hij] at h
     split at h<;>cases h
    ·rw[if_neg hij] at h;exact h
   exact E.ev.dis j k a es es' hjk (old j es h1) (old k es' h2) h3
  ·rw[bX] at h1
   by_cases hij:i=j
   ·rw[if_pos hij] at h1
    split at h1
    ·cases h1;exact ho.elim
    ·cases h1
   ·rw[if_neg hij] at h1
    exact E.nr1 j es a h1 ho h2
  ·exact List.mem_filter.mpr ⟨E.sub a ha,decide_eq_true λz=>nr (z▸ha)⟩
 ·exact⟨O,E⟩
def gFrz(i:Nat)(g:DS->M Out):DS->M Out:=λδ=>g (frz i δ)
theorem pds_frz(i:Nat)(h:PDSs X G sts gs):PDSs X G sts (gFrz i gs):=by
 obtain⟨t,p,h⟩:=h
 refine⟨t,p,λR0 P0 H0 δ O σ H Dn E k=>?_⟩
 obtain⟨O',E'⟩:=E.frz (i:=i)
 exact h R0 P0 H0 (frz i δ) O' σ H Dn E' k
end
def gP:List D->Option (List Int)
 | []=>some []
 | .int i::r=>(gP r).map (i :: ·)
 | _=>none
theorem intsOf_get:∀{ds:List D} {ns:List Int},gP ds=some ns->ds=ns.map PyData.int
 | [],ns,h=>by cases h;rfl
 | .int i::r,ns,h=>by
  have h:(gP r).map (i :: ·)=some ns:=h
  cases e:gP r with
  | none=>rw[e] at h;cases h
  | some cs=>rw[e] at h;cases h;rw[intsOf_get e];rfl
theorem reps_ints{K:PySem.W.Frag}{O:List Addr}{H:Hp}:∀{ns:List Int} {vs:List V},Reps K O H vs (ns.map PyData.int)->vs=ns.map V.int
 | [],_,.nil=>rfl
 | b::bs,_,.cons r rs=>by rw[r.int_inv,reps_ints rs];rfl
theorem de{names:List (Str×NameKind)}{cl:List (Str×Addr)}(h:names.all (λy=>!(y.2==.cell||y.2==.free)||(cl.lookup y.1).isSome)=true):∀y∈names,(y.2=.cell\/y.2=.free)->∃c,cl.lookup y.1=some c:=λy hy hk=>by
 have q:=List.all_eq_true.mp h y hy
 have k:(y.2==NameKind.cell||y.2==NameKind.free)=true:=by
  rcases hk with e | e<;>rw[e]<;>rfl
 rw[k] at q
 exact Option.isSome_iff_exists.mp (by simpa using q)
section
variable{X:Cx}{scope:Scope}{cl:List (Str×Addr)}
theorem fm:∀p∈([]:List (Nat×Str)),X.N[p.1]?=some p.2/\X.env.kindOf p.2=some .cell/\(compEnvC scope cl 0 X.env).kindOf p.2=some .cell/\∃c,cl.lookup p.2=some c:=λp hp=>nomatch hp
theorem fK{j:Nat}{y:Str}{fr:List (Nat×Str)}(h1:X.N[j]?=some y)(h2:X.env.kindOf y=some .cell)(h3:(compEnvC scope cl 0 X.env).kindOf y=some .cell)(h4:∃c,cl.lookup y=some c)
  (hr:∀p∈fr,X.N[p.1]?=some p.2/\X.env.kindOf p.2=some .cell/\(compEnvC scope cl 0 X.env).kindOf p.2=some .cell/\∃c,cl.lookup p.2=some c) :
  ∀p∈(j,y)::fr,X.N[p.1]?=some p.2/\X.env.kindOf p.2=some .cell/\(compEnvC scope cl 0 X.env).kindOf p.2=some .cell/\∃c,cl.lookup p.2=some c:=λp hp=>by
 rcases List.mem_cons.mp hp with rfl | hp
 ·exact⟨h1,h2,h3,h4⟩
 ·exact hr p hp
end
section
variable{δ δ':DS}{f:DS->M D}{d:D}{ds:List D}{r:M Out}{g:DS->M Out}
theorem ev_app{i:Nat}(h:δ[i]?=some (.ow ds))(h1:f δ=M.ret d)(hz:aL (ds.length+1)=true):gApp i f δ=M.ret (.nx (δ.set i (.ow (ds++[d])))):=by
 unfold gApp;rw[h,h1];show(if aL (ds.length+1)=true then _ else _)=_;rw[if_pos hz]
theorem ev_frz{i:Nat}(h:g (frz i δ)=r):gFrz i g δ=r:=h
theorem ix_nat{ds:List D}{i:Int}{d:D}(h0:0<=i)(h:ds[i.toNat]?=some d):oIx (.list ds) (.int i)=some d:=by
 have e:=L2.atI_nat h
 rw[Int.toNat_of_nonneg h0] at e
 exact e
theorem aF{n:Nat}(h:n<=16000000):aL n=true:=decide_eq_true h
end
end DL
namespace XF
open PySem PySem.Spec PyProof.Rows
section
variable{M:Model}{A:Around}{E:Value->Shared->Prop}{s:Shared}
end
end XF
namespace L2
open PySem PySem.Spec PyProof.Rows
section
variable{P:Program}{w:World}{K:PySem.W.Frag}{mg:Str->Option Value}{base:Heap}{N:List Str}{qual:Str}{scope:Scope}{f:Addr}{cdv:Value}{A:Around}{outer:List Env}{s0:Shared}{H0:Hp}{E:XK}
end
section
variable{X:Cx}
end
end L2
namespace DL
open PySem PySem.Spec PyProof.Rows L2
section
variable{X:Cx}{G:XD->Hp->Prop}{e:Expr}{es:List Expr}{fa:DS->M (List D)}{pos:Pos}
end
section
variable{P:Program}{w:World}{K:PySem.W.Frag}{mg:Str->Option Value}{base:Heap}
end
end DL
namespace L2
open PySem PySem.Spec PyProof.Rows
section
variable{X:Cx}
abbrev Cx.held(X:Cx)(pn:List (Addr×Obj))(e:Addr):Cx:={ X with A:=X.A.mark (some (.ref e)),calm:=false,pn:=pn,xe:=λ_ _=>False }
end
end L2
namespace L2
open PySem PySem.Spec PyProof.Rows
section
variable{X:Cx}
def Ends.gone(D:Ends)(i:Nat):Ends:=⟨λσ H=>D.nx (σ.set i none) H,D.rt,λσ H=>D.bk (σ.set i none) H,λσ H=>D.ct (σ.set i none) H⟩
end
end L2
namespace DL
open PySem PySem.Spec PyProof.Rows L2
section
variable{K:PySem.W.Frag}{Hr:Hp}{R0:List Addr}{P0:Addr->Prop}{H0 H H':Hp}{O O':List Addr}{σ:St}{δ:DS}
def Sl.noOw:Sl->Sl
 | .ow _=>.un
 | .od _=>.un
 | s=>s
def noOw(δ:DS):DS:=δ.map Sl.noOw
def Out.gone(i:Nat):Out->Out
 | .nx δ=>.nx (δ.set i .un)
 | .rt d=>.rt d
 | .bk δ=>.bk (δ.set i .un)
 | .ct δ=>.ct (δ.set i .un)
def exS(N i:Nat)(a:Addr):DS:=(List.replicate N Sl.un).set i (.ex a)
open Classical in
noncomputable def trySuite(N i:Nat)(gs:Addr->DS->M Out):M Out :=
 if h:∃r,∀a,(noX (gs a (exS N i a))).thn (λo=>M.ret (o.gone i))=r then choose h else none
open Classical in
noncomputable def gTry(x:Str)(N i:Nat)(gb:DS->M Out)(gs:Addr->DS->M Out):DS->M Out:=λδ=>match gb (noOw δ) with
 | none=>none
 | some (.ok o)=>some (.ok o)
 | some (.error y)=>if y.cls=x then trySuite N i gs else none
end
section
variable{X:Cx}{G:XD->Hp->Prop}
end
end DL
namespace L2
open PySem PySem.Spec PySem.W PySem.Calls PyProof.Rows
open PySem.Builtin.ObjectAttr PySem.Builtin PySem.Builtin.Getset_descriptor
section
variable{prog:Program}{w:World}{A:Around}{E:Value->Shared->Prop}{K:Frag}{x D:Addr}{h:Heap}{g:Array GenState}{d:Drawn}{t:Nat}{os:OsState}
end
end L2
namespace DL
open PySem PySem.Spec PyProof.Rows L2
section
variable{X:Cx}{G:XD->Hp->Prop}{pos:Pos}
end
end DL
namespace DL
open PySem PySem.Spec PyProof.Rows L2
section
variable{X:Cx}
def one? : D->Bool
 | .bool _=>true
 | .none=>true
 | _=>false
def sameOne:D->D->Bool
 | .bool a,.bool b=>a==b
 | .none,.none=>true
 | _,_=>false
def oIs(x y:D):Option D:=if one? y then some (.bool (sameOne x y)) else none
def io(x y:D):Option D:=if one? y then some (.bool (!sameOne x y)) else none
theorem op_isB:OpR X (compareOp .Is) (λx y H Q=>∃b,y=.bl b/\Q (.bl (decide (x=.bl b))) H):=by
 intro pins s σ H x y v u Q I rx ry h
 obtain⟨b,rfl,q⟩:=h
 cases (show u=Value.bool b from ry)
 have fin:∀c:Bool,decide (x=V.bl b)=c->EP X pins σ Q (.bool c) s:=λc e=>⟨.bl _,H,I,rfl,e▸q⟩
 cases x with
 | non=>cases (show v=Value.none from rx);exact wpAny_pure (fin _ (by simp))
 | bl c=>cases (show v=Value.bool c from rx);exact wpAny_pure (fin _ (by cases b<;>cases c<;>rfl))
 | int i=>obtain⟨t,z⟩:=(show ∃t,v=Value.int i t from rx);cases z;exact wpAny_pure (fin _ (by simp))
 | str i=>obtain⟨t,z⟩:=(show ∃t,v=Value.str i t from rx);cases z;exact wpAny_pure (fin _ (by simp))
 | byt i=>obtain⟨t,z⟩:=(show ∃t,v=Value.bytes i t from rx);cases z;exact wpAny_pure (fin _ (by simp))
 | flt i=>obtain⟨t,z⟩:=(show ∃t,v=Value.float i t from rx);cases z;exact wpAny_pure (fin _ (by simp))
 | ref p=>cases (show v=Value.ref p from rx);exact wpAny_pure (fin _ (by simp))
 | ty p=>cases (show v=Value.type p from rx);exact wpAny_pure (fin _ (by simp))
theorem op_notB:OpR X (compareOp .IsNot) (λx y H Q=>∃b,y=.bl b/\Q (.bl (!decide (x=.bl b))) H):=by
 intro pins s σ H x y v u Q I rx ry h
 obtain⟨b,rfl,q⟩:=h
 cases (show u=Value.bool b from ry)
 have fin:∀c:Bool,decide (x=V.bl b)=c->EP X pins σ Q (.bool (!c)) s:=λc e=>⟨.bl _,H,I,rfl,e▸q⟩
 cases x with
 | non=>cases (show v=Value.none from rx);exact wpAny_pure (fin false (by simp))
 | bl c=>cases (show v=Value.bool c from rx);exact wpAny_pure (fin (Value.bool c==Value.bool b) (by cases b<;>cases c<;>rfl))
 | int i=>obtain⟨t,z⟩:=(show ∃t,v=Value.int i t from rx);cases z;exact wpAny_pure (fin false (by simp))
 | str i=>obtain⟨t,z⟩:=(show ∃t,v=Value.str i t from rx);cases z;exact wpAny_pure (fin false (by simp))
 | byt i=>obtain⟨t,z⟩:=(show ∃t,v=Value.bytes i t from rx);cases z;exact wpAny_pure (fin false (by simp))
 | flt i=>obtain⟨t,z⟩:=(show ∃t,v=Value.float i t from rx);cases z;exact wpAny_pure (fin false (by simp))
 | ref p=>cases (show v=Value.ref p from rx);exact wpAny_pure (fin false (by simp))
 | ty p=>cases (show v=Value.type p from rx);exact wpAny_pure (fin false (by simp))
theorem sameOne_bl{K:PySem.W.Frag}{O:List Addr}{H:Hp}{v u:V}{x y:D}(rv:Rep K O H v x)(ru:Rep K O H u y)(h1:one? y=true):(∃b,u=.bl b/\decide (v=.bl b)=sameOne x y)\/(u=.non/\decide (v=.non)=sameOne x y):=by
 cases ru with
 | non=>refine .inr ⟨rfl,?_⟩;cases rv<;>simp [sameOne]
 | bl d=>refine .inl ⟨d,rfl,?_⟩;cases rv<;>simp [sameOne]<;>exact decide_eq_decide.mpr Iff.rfl
 | _=>cases h1
theorem dop_is:DOp X (compareOp .Is) oIs:=by
 refine⟨_,op_isB.or op_isN,λO H x y d v u Q oo rx ry e k=>?_⟩
 unfold oIs at e
 by_cases h1:one? y=true
 ·rw[if_pos h1] at e
  cases e
  rcases sameOne_bl rx ry h1 with ⟨b,h2,h3⟩ | ⟨h2,h3⟩
  ·exact .inl ⟨b,h2,h3▸k _ _ (λ_ _ h=>h) (h3▸.bl _)⟩
  ·exact .inr ⟨h2,h3▸k _ _ (λ_ _ h=>h) (h3▸.bl _)⟩
 ·rw[if_neg h1] at e;cases e
theorem dop_isnot:DOp X (compareOp .IsNot) io:=by
 refine⟨_,op_notB.or op_notN,λO H x y d v u Q oo rx ry e k=>?_⟩
 unfold io at e
 by_cases h1:one? y=true
 ·rw[if_pos h1] at e
  cases e
  rcases sameOne_bl rx ry h1 with ⟨b,h2,h3⟩ | ⟨h2,h3⟩
  ·exact .inl ⟨b,h2,h3▸k _ _ (λ_ _ h=>h) (h3▸.bl _)⟩
  ·exact .inr ⟨h2,h3▸k _ _ (λ_ _ h=>h) (h3▸.bl _)⟩
 ·rw[if_neg h1] at e;cases e
end
end DL
namespace DL
open PySem PySem.Spec PyProof.Rows L2
section
variable{X:Cx}
end
end DL
namespace DL
open PySem PySem.Spec PyProof.Rows L2
section
variable{δ:DS}{y:XD}{x:Str}{N i:Nat}{gb:DS->M Out}{gs:Addr->DS->M Out}{o:Out}
end
end DL
namespace DL
open PySem PySem.Spec PyProof.Rows L2
section
variable{X:Cx}{G:XD->Hp->Prop}{a b c e:Expr}{es:List Expr}{f:DS->M D}{fb:DS->M Bool}{fa:DS->M (List D)}{pos:Pos}{sts:List Stmt}{gs:DS->M Out}
def dU(c:DS->M Bool)(g:DS->M Out):Nat->DS->M Out
 | 0,_=>none
 | n+1,δ=>(c δ).thn λb=>if b=true then (g δ).thn λo=>match o with
   | .nx δ'=>dU c g n δ'
   | .ct δ'=>dU c g n δ'
   | .bk δ'=>M.ret (.nx δ')
   | .rt d=>M.ret (.rt d)
  else M.ret (.nx δ)
theorem iN{c:DS->M Bool}{g:DS->M Out}:∀{n:Nat} {δ:DS} {r:Except XD Out} (k:Nat),dU c g n δ=some r->dU c g (n+k) δ=some r
 | 0,_,_,_,h=>by cases h
 | n+1,δ,r,k,h=>by
  have e:n+1+k=(n+k)+1:=by omega
  rw[e]
  unfold dU at h ⊢
  match hc:c δ,h with
  | some (.ok true),h =>
   have h:M.thn (g δ) _=_:=h
   show M.thn (g δ) _=_
   match hg:g δ,h with
   | some (.ok (.nx δ')),h=>exact iN k h
   | some (.ok (.ct δ')),h=>exact iN k h
   | some (.ok (.bk δ')),h=>exact h
   | some (.ok (.rt d)),h=>exact h
   | some (.error x),h=>exact h
  | some (.ok false),h=>exact h
  | some (.error x),h=>exact h
noncomputable def dX(c:DS->M Bool)(g:DS->M Out):DS->M Out:=λδ =>
 open Classical in if h:∃n r,dU c g n δ=some r then dU c g (Classical.choose h) δ else none
theorem gWhile_some{c:DS->M Bool}{g:DS->M Out}{n:Nat}{δ:DS}{r:Except XD Out}(h:dU c g n δ=some r):dX c g δ=some r:=by
 have hx:∃n r,dU c g n δ=some r:=⟨n,r,h⟩
 unfold dX
 rw[dif_pos hx]
 obtain⟨r',hr⟩:=Classical.choose_spec hx
 have h1:=iN (Classical.choose hx) h
 have h2:=iN n hr
 rw[Nat.add_comm] at h2
 rw[h2] at h1
 rw[hr,h1]
theorem gWhile_inv{c:DS->M Bool}{g:DS->M Out}{δ:DS}{r:Except XD Out}(h:dX c g δ=some r):∃n,dU c g n δ=some r:=by
 unfold dX at h
 split at h
 ·exact⟨_,h⟩
 ·cases h
theorem pd_while{body:List Stmt}(hp:PassesOwn (model X.prog X.w) X.A X.env X.xe)(hc:PDT X G c fb)(hb:PDSs X G body gs):PDS X G (.While c body [] pos) (dX fb gs):=by
 obtain⟨tc,pc,hc⟩:=hc
 obtain⟨tb,pb,hb⟩:=hb
 refine⟨_,ps_while hp pc pb,λ{Hr} R0 P0 H0 δ O σ H Dn E k=>?_⟩
 obtain⟨n,hn⟩:∃n,ok (GS G Hr) (dU fb gs n δ) (Fin X.K Hr R0 P0 H0 Dn):=by
  cases e:dX fb gs δ with
  | none=>rw[e] at k;exact k.elim
  | some r =>
   obtain⟨n,hn⟩:=gWhile_inv e
   rw[e] at k
   exact⟨n,by rw[hn];exact k⟩
 refine⟨λm σ H=>∃δ O,EI X.K Hr R0 P0 H0 O H σ δ/\ok (GS G Hr) (dU fb gs m δ) (Fin X.K Hr R0 P0 H0 Dn),⟨n,δ,O,E,hn⟩,λm σ H hw=>?_⟩
 obtain⟨δ,O,E,k⟩:=hw
 cases m with
 | zero=>exact k.elim
 | succ m =>
  unfold dU at k
  refine hc δ O σ H _ E.ev (al (ay k) λb z H1 s1=>?_)
  cases b with
  | false=>exact z O σ H1 (E.same s1)
  | true =>
   have z:ok (GS G Hr) (M.thn (gs δ) _) _:=z
   refine⟨λσ' H'=>∃δ O,EI X.K Hr R0 P0 H0 O H' σ' δ/\ok (GS G Hr) (dU fb gs m δ) (Fin X.K Hr R0 P0 H0 Dn),λσ' H' hN=>⟨m,Nat.lt_succ_self m,hN⟩,?_⟩
   refine hb R0 P0 H0 δ O σ H1 _ (E.same s1) (al (ay z) λo q=>?_)
   cases o with
   | nx δ'=>exact λO' σ' H' E'=>⟨δ',O',E',q⟩
   | ct δ'=>exact λO' σ' H' E'=>⟨δ',O',E',q⟩
   | bk δ'=>exact q
   | rt d=>exact q
end
section
variable{X:Cx}
end
section
variable{δ δ':DS}{f:DS->M D}{fb:DS->M Bool}{fa:DS->M (List D)}{gs gt g1 g2:DS->M Out}{d x y:D}{b:Bool}{ds:List D}{r:M Out}{o:Out}
theorem i0{r:Except XD Out}(h1:fb δ=M.ret true)(h2:gs δ=M.ret (.nx δ'))(h3:dX fb gs δ'=some r):dX fb gs δ=some r:=by
 obtain⟨n,hn⟩:=gWhile_inv h3
 refine gWhile_some (n:=n+1) ?_
 unfold dU
 rw[h1,aQ,if_pos rfl,h2,aQ]
 exact hn
theorem ev_while_f(h1:fb δ=M.ret false):dX fb gs δ=M.ret (.nx δ):=by
 refine gWhile_some (n:=1) ?_
 unfold dU
 rw[h1,aQ,if_neg Bool.false_ne_true]
 rfl
theorem ev_pass(h1:fb δ=M.ret b)(hb:b=false)(h2:gt δ=r):bq (gIf fb g1 fQ) gt δ=r:=by
 subst hb
 unfold bq gIf;rw[h1,aQ,if_neg Bool.false_ne_true];exact h2
theorem ev_pass1(h1:fb δ=M.ret b)(hb:b=false):gIf fb g1 fQ δ=M.ret (.nx δ):=by
 subst hb
 unfold gIf;rw[h1,aQ,if_neg Bool.false_ne_true];rfl
theorem o_addL{xs ys:List D}(h:aL (xs.length+ys.length)=true):cO (.list xs) (.list ys)=some (.list (xs++ys)):=by
 show(if aL (xs.length+ys.length)=true then _ else _)=_
 rw[if_pos h]
end
end DL
namespace L2
open PySem PySem.Spec PyProof.Rows
section
variable{X:Cx}
theorem Inv.turnNew{pins:List (Addr×Obj)}{σ:St}{H:Hp}{s:Shared}{h':Heap}{t':Nat}{ch:List Addr}{a:Addr}{o:HO}(I:Inv X pins σ H s)(hf:∀b∈ch,FpOk X pins H b)
  (k:∀b u,b∉ch->s.heap.get? b=some u->h'.get? b=some u) (hp:s.heap.objs.size<=a) (new:fR X.prog X.w (upd H a o) h' a o):Inv X pins σ (upd H a o) { s with heap:=h',toks:=t' }:=by
 have hn:=I.hok.fresh hp
 have nc:∀{b:Addr} {u:HO},H b=some u->b∉ch:=λe z=>by rw[(hf _ z).1] at e;cases e
 refine I.call (g':=s.gens) (d':=s.drawn) (ch:=ch) ⟨λb u q _ _ hc=>k b u hc q,λb u q _ _ hc=>⟨u.slots,k b u hc q⟩,λb u q n _=>?_,λb u q hc=>⟨u,k b u hc q⟩,λb xs q=>?_,λb u xs q=>?_,λb ps q=>⟨#[],?_⟩⟩ (λb u e=>?_) I.bare λb hb=>?_
 ·rw[upd_ne (Nat.ne_of_lt (Nat.lt_of_lt_of_le (Heap.lt_size q) hp))];exact n
 ·rw[upd_ne (aK q hn)];exact q
 ·rw[upd_ne (aK q hn)];exact q
 ·rw[upd_ne (aK q hn),q];simp
 ·by_cases hb:b=a
  ·subst hb;rw[aP] at e;cases e;exact new
  ·rw[upd_ne hb] at e
   refine(I.hok b u e).stay (λc v hc q=>k c v ?_ q) (λc q=>by rw[upd_ne (aK q hn)];exact q) λc xs q=>by rw[upd_ne (aK q hn)];exact q
   rcases hc with rfl | hc
   ·exact nc e
   ·exact nc hc
 ·obtain⟨_,f1,_,f3,f4,f5⟩:=hf b hb
  exact⟨f3,f1,f4,f5⟩
theorem Inv.turnAll{pins:List (Addr×Obj)}{σ:St}{H:Hp}{s:Shared}{h':Heap}{t':Nat}{ch:List Addr}(I:Inv X pins σ H s)(hf:∀b∈ch,FpOk X pins H b)
  (k:∀b u,b∉ch->s.heap.get? b=some u->h'.get? b=some u):Inv X pins σ H { s with heap:=h',toks:=t' }:=by
 have nc:∀{b:Addr} {u:HO},H b=some u->b∉ch:=λe z=>by rw[(hf _ z).1] at e;cases e
 refine I.call (g':=s.gens) (d':=s.drawn) (ch:=ch) ⟨λb u q _ _ hc=>k b u hc q,λb u q _ _ hc=>⟨u.slots,k b u hc q⟩,λb u q n _=>n,λb u q hc=>⟨u,k b u hc q⟩,λb xs q=>q,λb u xs q=>q,λb ps q=>⟨#[],by rw[q];simp⟩⟩ (λb u e=>?_) I.bare λb hb=>?_
 ·refine(I.hok b u e).stay (λc v hc q=>k c v ?_ q) (λc q=>q) λc xs q=>q
  rcases hc with rfl | hc
  ·exact nc e
  ·exact nc hc
 ·obtain⟨_,f1,_,f3,f4,f5⟩:=hf b hb
  exact⟨f3,f1,f4,f5⟩
end
def Ite(K:PySem.W.Frag)(a:Addr):It :=
  ⟨λi H=>∃xs x,SqL K H a xs/\xs[i]?=some x,
   λi H v H'=>∃T,v=.ref T/\H T=none/\∀xs x,SqL K H a xs->xs[i]?=some x->H'=upd H T (.tup [.int i,x]),
   λi H=>∃xs,SqL K H a xs/\xs.length<=i⟩
def Its(x:Str):It:=⟨λi _=>i<x.length,λi H v H'=>H'=H/\∃c,x.cps[i]?=some c/\v=.str ⟨#[c]⟩,λi _=>x.length<=i⟩
theorem cls_ne{h:Heap}{a b:Addr}{o u:Obj}(e:h.get? a=some o)(e':h.get? b=some u)(d:o.cls≠u.cls):a≠b:=λz=>by
 subst z
 rw[e] at e'
 cases e'
 exact d rfl
theorem ty_ne{a b:String}(h:a≠b):Value.type a≠Value.type b:=λz=>h (Value.type.inj z)
theorem turn_enum{P:Program}{w:World}{K:PySem.W.Frag}{elts:List Expr}{x1:Nat}{tpos:Pos}(a e it:Addr)(n1:e≠it) :
  Turn P w K (.Tuple elts x1 tpos) (Ite K a) [e,it] e (λi h=>(∃old,IsEnum h e it ((i:Nat):Int) old)/\h.IsListIter it a i) where
 mem:=by simp
 obj:=λi h st c hc=>by
  obtain⟨⟨old,he⟩,⟨o1,e1,c1,d1⟩⟩:=st
  simp only[List.mem_cons,List.not_mem_nil,or_false] at hc
  rcases hc with rfl | rfl
  ·exact⟨_,he,λv z=>by simp at z⟩
  ·exact⟨_,e1,λv z=>by rw[d1] at z;cases z⟩
 keep:=λi h h' st k=>by
  obtain⟨⟨old,he⟩,h1⟩:=st
  exact⟨⟨old,k e (by simp) _ he⟩,h1.at λo e=>k it (by simp) o e⟩
 item:=by
  intro X hP hw hK hc i pins s σ H E I hf st hg
  subst hP hw hK
  obtain⟨⟨old,he⟩,h1⟩:=st
  obtain⟨xs,x,hq,hx⟩:=hg
  obtain⟨its,rv,p,_⟩:=I.list hq
  obtain⟨ux,hux,rx⟩:=rv.get hx
  obtain⟨o1,e1,c1,d1⟩:=id h1
  have fr:H s.heap.objs.size=none:=I.hok.fresh (Nat.le_refl _)
  have ne:∀{c:Addr} {o:Obj},s.heap.get? c=some o->s.heap.objs.size≠c:=λe=>Nat.ne_of_gt (Heap.lt_size e)
  obtain⟨oa,ea,ca,da⟩:=id p.isList
  have ne1:a≠e:=cls_ne ea he (by rw[ca];exact ty_ne (by decide))
  have ne2:a≠it:=cls_ne ea e1 (by rw[ca,c1];exact ty_ne (by decide))
  refine wpAny_pyNext_enum_item he h1 p.isList (x:=ux) (by simpa using hux) n1 λh' e' h1' T' sz k=>?_
  refine⟨_,rfl,wpAny_letOwnedTupleGo_enum e' λh2 he2 sb=>?_⟩
  have k2:∀c o,c∉[e,it]->s.heap.get? c=some o->h2.get? c=some o:=λc o hc q=>by
   simp only[List.mem_cons,List.not_mem_nil,or_false,not_or] at hc
   exact sb.extBut _ _ hc.1 (k c o hc.1 hc.2 q)
  have T2:h2.get? s.heap.objs.size=some { cls:=.type "tuple",data:=.seq #[.int i s.toks,ux] }:=sb.extBut _ _ (ne he) T'
  have I1:Inv X pins σ (upd H s.heap.objs.size (.tup [.int i,x])) { s with heap:=h2,toks:=s.toks+1 }:=by
   refine I.turnNew hf k2 (Nat.le_refl _) ⟨by show 2<=_;rw[sizeLine_eq];omega,[.int i s.toks,ux],.cons ⟨_,rfl⟩ (.cons rx .nil),?_⟩
   exact⟨_,T2,rfl,0,rfl⟩
  refine⟨.ref s.heap.objs.size,_,I1,rfl,⟨_,rfl,fr,λxs' x' q1 q3=>?_⟩,⟨⟨ux,he2⟩,h1'.extBut sb.extBut n1.symm⟩,λc hc=>?_⟩
  ·rw[I.list_inj q1 hq] at q3
   rw[hx] at q3
   cases q3
   rfl
  ·have hn:c≠s.heap.objs.size:=by
    simp only[List.mem_cons,List.not_mem_nil,or_false] at hc
    rcases hc with rfl | rfl
    ·exact(ne he).symm
    ·exact(ne e1).symm
   rw[upd_ne hn]
   exact(hf c hc).1
 done:=by
  intro X hP hw hK hc i pins s σ H E I hf st hg
  subst hP hw hK
  obtain⟨⟨old,he⟩,h1⟩:=st
  obtain⟨xs,hq,hx⟩:=hg
  obtain⟨its,rv,p,_⟩:=I.list hq
  have hl:=rv.length
  refine wpAny_pyNext_enum_end (I.ok.hd hc) he h1 p.isList (by simp;omega) λh' k=>⟨rfl,?_⟩
  refine I.turnAll (t':=s.toks) hf λc o hc e=>?_
  simp only[List.mem_cons,List.not_mem_nil,or_false,not_or] at hc
  exact k c o hc.2 e
 self:=λ_ _ _ _ _ st h=>by
  obtain⟨⟨old,he⟩,_⟩:=st
  exact wpAny_pyIter_enum he h
section
variable{X:Cx}{elts:List Expr}{x1:Nat}{tpos:Pos}
def iEnum(K:PySem.W.Frag)(ta:TA):TI:=λσ H R=>ta σ H λvs H1=>∃a,vs=[.ref a]/\(∃xs,SqL K H1 a xs)/\R (Ite K a) H1
def iStr(tl:TE):TI:=λσ H R=>tl σ H λx H1=>∃z,x=.str z/\R (Its z) H1
theorem pi_enum{a:Expr}{ta:TA}{p pos:Pos}(hg:Gl X "enumerate")(hm:X.mg "enumerate" = none)(ha:PA X [a] ta)(hs:starEach [a] X.env=[(false,eval a X.env)]:=by rfl) :
  PI X (.Tuple elts x1 tpos) (.Call (.Name "enumerate" p) [a] [] pos) (iEnum X.K ta):=by
 intro pins s σ H R I h
 refine Call_ (ld_blt I hg hm boot_enumerate (PyProof.Rows.callWith_type1 (thn (ha pos pins s σ H _ I h) λus s1 ⟨vs,H1,I1,r1,q1⟩=>?_) hs rfl))
 obtain⟨l1,e,⟨xs,hx⟩,q⟩:=q1
 subst e
 cases r1 with
 | cons r rr =>
  cases rr
  cases r
  obtain⟨its,rv,pl,_⟩:=I1.list hx
  refine call_enumerate_list pl.isList λh' he h1 sz k=>wpAny_pyIter_enum he ?_
  refine⟨s1.heap.objs.size+1,[s1.heap.objs.size+1,s1.heap.objs.size],_,_,H1,rfl,I1.kept (t':=s1.toks) k,
   turn_enum l1 (s1.heap.objs.size+1) s1.heap.objs.size (by show(_:Nat)≠_;omega),⟨⟨_,he⟩,h1⟩,λc hc=>?_,q⟩
  have hc':s1.heap.objs.size<=c:=by
   simp only[List.mem_cons,List.not_mem_nil,or_false] at hc
   rcases hc with rfl | rfl<;>first | exact Nat.le_add_right _ _ | exact Nat.le_refl _
  exact I1.fpOk hc' (I1.hok.fresh hc')
theorem turn_str_ascii{P:Program}{w:World}{K:PySem.W.Frag}{tg:Expr}(it:Addr)(x:Str)(t:Tok):Turn P w K tg (Its x) [it] it (λi h=>h.IsStrIter it "str_ascii_iterator" x t i) where
 mem:=by simp
 obj:=λi h st b hb=>by
  have e:b=it:=by simpa using hb
  subst e
  obtain⟨o,e,c,d⟩:=st
  exact⟨o,e,λv z=>by rw[d] at z;cases z⟩
 keep:=λi h h' st k=>let ⟨o,ho,r⟩:=st;⟨o,k it (by simp) o ho,r⟩
 item:=by
  intro X hP hw hK hc i pins s σ H E I hf st hg
  subst hP hw hK
  obtain⟨f0,f1,f2,f3,f4,f5⟩:=hf it (by simp)
  have hg:i<x.cps.size:=hg
  refine wpAny_pyNext_ascii_item st (c:=x.cps[i]) (by simp [hg]) λh' st' sb=>?_
  have I1:Inv X pins σ H { s with heap:=h',toks:=s.toks+1 }:=I.turned (λb o hb e=>(sb.2 b hb).trans e) f0 f1 f3 f4 f5
  obtain⟨o,e,c1,d1⟩:=id st'
  exact⟨_,rfl,go_of (s:={ s with heap:=h',toks:=s.toks+1 }) e c1 d1 (by decide) ⟨.str ⟨#[x.cps[i]]⟩,H,I1,⟨_,rfl⟩,⟨rfl,x.cps[i],by simp [hg],rfl⟩,st',λb hb=>(hf b hb).1⟩⟩
 done:=by
  intro X hP hw hK hc i pins s σ H E I hf st hg
  subst hP hw hK
  obtain⟨f0,f1,f2,f3,f4,f5⟩:=hf it (by simp)
  have hg:x.cps.size<=i:=hg
  exact wpAny_pyNext_ascii_end (I.ok.hd hc) st (by simp;omega) λh' eb=>⟨rfl,I.turned (t':=s.toks) (λb o hb e=>eb b o hb e) f0 f1 f3 f4 f5⟩
 self:=λ_ _ _ _ _ st h=>wpAny_pyIter_striter_ascii st h
theorem turn_str_wide{P:Program}{w:World}{K:PySem.W.Frag}{tg:Expr}(it:Addr)(x:Str)(t:Tok):Turn P w K tg (Its x) [it] it (λi h=>h.IsStrIter it "str_iterator" x t i) where
 mem:=by simp
 obj:=λi h st b hb=>by
  have e:b=it:=by simpa using hb
  subst e
  obtain⟨o,e,c,d⟩:=st
  exact⟨o,e,λv z=>by rw[d] at z;cases z⟩
 keep:=λi h h' st k=>let ⟨o,ho,r⟩:=st;⟨o,k it (by simp) o ho,r⟩
 item:=by
  intro X hP hw hK hc i pins s σ H E I hf st hg
  subst hP hw hK
  obtain⟨f0,f1,f2,f3,f4,f5⟩:=hf it (by simp)
  have hg:i<x.cps.size:=hg
  refine wpAny_pyNext_wide_item st (c:=x.cps[i]) (by simp [hg]) λh' st' sb=>?_
  have I1:Inv X pins σ H { s with heap:=h',toks:=s.toks+1 }:=I.turned (λb o hb e=>(sb.2 b hb).trans e) f0 f1 f3 f4 f5
  obtain⟨o,e,c1,d1⟩:=id st'
  exact⟨_,rfl,go_of (s:={ s with heap:=h',toks:=s.toks+1 }) e c1 d1 (by decide) ⟨.str ⟨#[x.cps[i]]⟩,H,I1,⟨_,rfl⟩,⟨rfl,x.cps[i],by simp [hg],rfl⟩,st',λb hb=>(hf b hb).1⟩⟩
 done:=by
  intro X hP hw hK hc i pins s σ H E I hf st hg
  subst hP hw hK
  obtain⟨f0,f1,f2,f3,f4,f5⟩:=hf it (by simp)
  have hg:x.cps.size<=i:=hg
  exact wpAny_pyNext_wide_end (I.ok.hd hc) st (by simp;omega) λh' eb=>⟨rfl,I.turned (t':=s.toks) (λb o hb e=>eb b o hb e) f0 f1 f3 f4 f5⟩
 self:=λ_ _ _ _ _ st h=>wpAny_pyIter_striter_wide st h
theorem pi_str{l:Expr}{tl:TE}{tg:Expr}(hl:PE X l tl):PI X tg l (iStr tl):=by
 intro pins s σ H R I h
 refine thn (hl pins s σ H _ I h) λv s1 ⟨x,H1,I1,r1,q1⟩=>?_
 obtain⟨z,e,q⟩:=q1
 subst e
 obtain⟨t,rfl⟩:=r1
 have fp:∀b∈[s1.heap.objs.size],FpOk X pins H1 b:=λb hb=>by
  have e:b=s1.heap.objs.size:=by simpa using hb
  subst e
  exact I1.fpOk (Nat.le_refl _) (I1.hok.fresh (Nat.le_refl _))
 cases ha:z.cps.all (· < 128)
 ·exact wpAny_pyIter_wide ha ⟨s1.heap.objs.size,[s1.heap.objs.size],_,_,H1,rfl,I1.kept (t':=s1.toks) λb o e=>Heap.get?_push_of_some _ e,turn_str_wide _ z t,⟨_,Heap.get?_push_size _ rfl,rfl,rfl⟩,fp,q⟩
 ·exact wpAny_pyIter_ascii ha ⟨s1.heap.objs.size,[s1.heap.objs.size],_,_,H1,rfl,I1.kept (t':=s1.toks) λb o e=>Heap.get?_push_of_some _ e,turn_str_ascii _ z t,⟨_,Heap.get?_push_size _ rfl,rfl,rfl⟩,fp,q⟩
end
end L2
namespace L2
open PySem PySem.Spec PyProof.Rows
def aJ(X:Cx)(scope:Scope)(cl:List (Str×Addr))(fr:List (Nat×Str))(tn:List Str)(C:Addr)(s3:Shared)(H3:Hp)(fp:List Addr):Cx where
 prog:=X.prog
 w:=X.w
 K:=X.K
 mg:=X.mg
 base:=X.base
 A:=X.A
 N:=tn++fr.map (·.2)
 s₀:=s3
 H₀:=H3
 env:=compEnvC scope cl C X.env
 outer:=X.stack
 stack:=X.stack
 ex:=fp
 fn:=λ_=>false
 calm:=X.calm
 pn:=[]
 xe:=λ_ _=>False
def compSt(n:Nat)(fr:List (Nat×Str))(σ:St):St:=List.replicate n none++fr.map λp=>(σ[p.1]?).join
def tCompG(n:Nat)(fr:List (Nat×Str))(wi:TI)(g:TG)(tc:TT)(te:TE):TE:=λσ H Q=>wi σ H λJ H1=>∀l,H1 l=none->∃W:Nat->Nat->St->List V->Hp->Prop,(∃m,W 0 m (compSt n fr σ) [] (upd H1 l (.lst []))) /\
 ∀i m τ xs H2,W i m τ xs H2->H2 l=some (.lst xs)/\((J.stop i H2/\Q (.ref l) H2)\/(J.go i H2/\xs.length<sizeLine/\∀x H3,J.yld i H2 x H3->g x τ H3 λτ' H4=>tc τ' H4 λb H5=>if b=true then te τ' H5 λv H6=>H6 l=some (.lst xs)/\∃m',m'<m/\W (i+1) m' τ' (xs++[v]) (upd H6 l (.lst (xs++[v]))) else ∃m',m'<m/\W (i+1) m' τ' xs H5))
section
variable{X:Cx}
theorem compG_ok{cl:List (Str×Addr)}{fr:List (Nat×Str)}{scope:Scope}{tn:List Str}{C:Addr}{s3:Shared}{H3:Hp}{fp:List Addr}{pins:List (Addr×Obj)}{σ:St}(I:Inv X pins σ H3 s3)(hkind:scope.kind=.function)(hsub:∀y c,cl.lookup y=some c->X.env.cells.lookup y=some c)(hhas:∀y∈(relabel scope X.env).names,(y.2=.cell\/y.2=.free)->∃c,cl.lookup y.1=some c)
  (hC:s3.heap.objs.size<=C) (hf:∀b∈fp,FpOk X pins H3 b/\∃o,s3.heap.get? b=some o) (hfs:∀b∈fp,b∉frs X.stack) (hbase:∀b∈fp,X.base.get? b=none):(aJ X scope cl fr tn C s3 H3 fp).Ok where
 mod:=I.ok.mod
 kind:=hkind
 glob:=I.ok.glob
 blt:=I.ok.blt
 above:=hC
 inj:=λy z c h1 h2=>I.ok.inj y z c (hsub y c h1) (hsub z c h2)
 has:=λy h=>by
  rcases h with h | h
  ·exact hhas _ (PySem.mem_of_lookup h) (.inl rfl)
  ·exact hhas _ (PySem.mem_of_lookup h) (.inr rfl)
 cab:=λy c h=>by cases h
 hd:=I.ok.hd
 frames:=I.ok.frames
 stk:=.inl rfl
 exf:=λb hb=>⟨by
  obtain⟨o,ho⟩:=(hf b hb).2
  exact Nat.ne_of_lt (Nat.lt_of_lt_of_le (Heap.lt_size ho) hC),λy c h=>(hf b hb).1.2.2.2.2.1 y c (hsub y c h)⟩
 bs:=I.bs
 bsz:=Nat.le_trans I.ok.bsz I.sz
 noex:=λb o e hb=>by
  have e1:X.base.get? b=some o:=e
  rw[hbase b hb] at e1;cases e1
 exfs:=hfs
 funs:=I.stack
 frf:=I.stkFree
theorem compG_out{cl:List (Str×Addr)}{fr:List (Nat×Str)}{scope:Scope}{tn:List Str}{C:Addr}{s3 s5:Shared}{H3 H5:Hp}{fp:List Addr}{pins pins5:List (Addr×Obj)}{σ σ5:St}{h':Heap}(I:Inv X pins σ H3 s3)(hf:∀b∈fp,FpOk X pins H3 b)(hC:s3.heap.objs.size<=C)
  (I5:Inv (aJ X scope cl fr tn C s3 H3 fp) pins5 σ5 H5 s5) (hs:Heap.SameBut C s5.heap h'):Inv X pins σ H5 { s5 with heap:=h' }:=by
 have nC:∀{b:Addr} {o:Obj},s3.heap.get? b=some o->b≠C:=λe=>Nat.ne_of_lt (Nat.lt_of_lt_of_le (Heap.lt_size e) hC)
 have u:Un (frs X.stack) fp H3 H5 s3.heap s5.heap:=I5.base
 refine I.call' (ch:=fp) I5.os ⟨λb o e n h1 h2=>?_,λb o e n h1 h2=>?_,u.free,λb o e h2=>?_,u.tups,u.frzs,u.tbls⟩ ?_ I5.bare λb hb=>?_
 ·exact(hs.2 b (nC e)).trans (u.keep b o e n h1 h2)
 ·obtain⟨sl,e1⟩:=u.slot b o e n h1 h2
  exact⟨sl,(hs.2 b (nC e)).trans e1⟩
 ·obtain⟨o',e1⟩:=u.there b o e h2
  exact⟨o',(hs.2 b (nC e)).trans e1⟩
 ·intro a o e
  have hn:H5 C=none:=I5.free
  refine(I5.hok a o e).stay (λb u hb q=>(hs.2 b ?_).trans q) (λ_ q=>q) λ_ _ q=>q
  rcases hb with rfl | hb
  ·exact aK e hn
  ·exact aK hb hn
 ·obtain⟨_,f1,_,f3,f4,f5⟩:=hf b hb
  exact⟨f3,f1,f4,f5⟩
def PTs(X:Cx)(ifs:List Expr)(t:TT):Prop :=
 ∀(pins:List (Addr×Obj)) (s:Shared) (σ:St) (H:Hp) (Q:Bool->Hp->Prop),Inv X pins σ H s->t σ H Q ->
  wpAny (model X.prog X.w) X.A (forIn ifs true λc r=>if r=true then do let ok <- isTrue c X.env (eval c X.env);pure (ForInStep.yield ok) else pure (ForInStep.yield r)) (TP X pins σ Q) X.xe s
def tYes:TT:=λ_ H Q=>Q true H
theorem pts_nil:PTs X [] tYes:=λpins s σ H Q I h=>wpAny_tests_nil ⟨H,I,h⟩
theorem pts_one{c:Expr}{t:TT}(h:PT X c t):PTs X [c] t:=λpins s σ H Q I hq=>wpAny_tests_one (h pins s σ H Q I hq)
theorem pe_compG{cl:List (Str×Addr)}{fr:List (Nat×Str)}{tn:List Str}{elt iter tg:Expr}{ifs:List Expr}{scope:Scope}{pos:Pos}{wi:TI}{g:TG}{tc:TT}{te:TE}(hc:X.calm=true)
  (hkind:scope.kind=.function) (hcell:∀y∈scope.names,y.2≠.cell) (hclos:closureFor scope X.env=pure cl) (hsub:∀y c,cl.lookup y=some c->X.env.cells.lookup y=some c)
  (hhas:∀y∈(relabel scope X.env).names,(y.2=.cell\/y.2=.free)->∃c,cl.lookup y.1=some c) (hfr:∀p∈fr,X.N[p.1]?=some p.2/\X.env.kindOf p.2=some .cell/\(compEnvC scope cl 0 X.env).kindOf p.2=some .cell/\∃c,cl.lookup p.2=some c) (hnames:∀y∈scope.names,y.2=.local->scope.names.lookup y.1=some .local)
  (hi:PI X tg iter wi) (hg:∀C s3 H3 fp,PG (aJ X scope cl fr tn C s3 H3 fp) tg g) (hcs:∀C s3 H3 fp,PTs (aJ X scope cl fr tn C s3 H3 fp) ifs tc) (he:∀C s3 H3 fp,PE (aJ X scope cl fr tn C s3 H3 fp) elt te) (hs:∀x,foldedSetIterable iter X.env x=pure x:=by intro _;rfl) :
  PE X (.ListComp elt [⟨tg,iter,ifs,0⟩] scope pos) (tCompG tn.length fr wi g tc te):=by
 intro pins s σ H Q I h
 rw[eval_ListComp]
 refine wpAny_comprehension_free (use:=none) rfl hs hclos hkind hnames (thn (hi pins s σ H _ I h) λv s1 h1=>thn h1 λitv s2 h2=>?_)
 obtain⟨it,fp,tk,J,H2,e,I2,T,st2,f2,R⟩:=h2
 subst e
 have fl:H2 s2.heap.objs.size=none:=I2.hok.fresh (Nat.le_refl _)
 obtain⟨W,⟨m0,w0⟩,turn⟩:=R s2.heap.objs.size fl
 refine wpAny_newObj_type (wpAny_newFunctionEnv hcell (by intro y hy;simp at hy) (λh4 hns hsb=>?_) hkind)
 have I3:Inv X pins σ (upd H2 s2.heap.objs.size (.lst [])) { s2 with heap:=s2.heap.push { cls:=.type "list",data:=.seq ([]:List Value).toArray } } :=
  I2.laid (t':=s2.toks) (λb o e=>Heap.get?_push_of_some _ e) (Nat.le_refl _) ⟨Nat.zero_le _,[],0,.nil,Heap.get?_push_size _ rfl⟩
 have ob:∀b∈fp,∃o,s2.heap.get? b=some o:=λb hb=>let ⟨o,ho,_⟩:=T.obj 0 _ st2 b hb;⟨o,ho⟩
 have f3:∀b∈fp,FpOk X pins (upd H2 s2.heap.objs.size (.lst [])) b:=λb hb=>by
  obtain⟨g0,g1,g2,g3,g4,g5⟩:=f2 b hb
  obtain⟨o,ho⟩:=ob b hb
  exact⟨by rw[upd_ne (Nat.ne_of_lt (Heap.lt_size ho))];exact g0,g1,g2,g3,g4,g5⟩
 generalize hs3:({ s2 with heap:=s2.heap.push { cls:=.type "list",data:=.seq ([]:List Value).toArray } }:Shared)=s3 at I3
 have heap3:s2.heap.push { cls:=.type "list",data:=.seq ([]:List Value).toArray }=s3.heap:=by rw[<-hs3]
 have old3:∀b o,s2.heap.get? b=some o->s3.heap.get? b=some o:=λb o e=>by rw[<-heap3];exact Heap.get?_push_of_some _ e
 have ok3:(aJ X scope cl fr tn s3.heap.objs.size s3 (upd H2 s2.heap.objs.size (.lst [])) fp).Ok:=by
  refine compG_ok I3 hkind hsub hhas (Nat.le_refl _) (λb hb=>⟨f3 b hb,let ⟨o,ho⟩:=ob b hb;⟨o,old3 b o ho⟩⟩) (λb hb z=>?_) λb hb=>?_
  ·obtain⟨_,g1,g2,_⟩:=f2 b hb
   rcases List.mem_cons.mp (I2.stkSub b z) with q | q
   ·exact g1 q
   ·exact g2 q
  ·obtain⟨_,_,_,g3,_⟩:=f2 b hb
   rcases g3 with q | q
   ·cases e:X.base.get? b with
    | none=>rfl
    | some o=>exact absurd q (I.ok.noex b o e)
   ·exact Heap.get?_none_of_le (Nat.le_trans I.ok.bsz q)
 have hns3:h4.Ns s3.heap.objs.size (λy=>([]:List (Str×Value)).reverse.lookup y):=by rw[<-heap3];exact hns
 have keep4:∀b o,s3.heap.get? b=some o->h4.get? b=some o:=λb o e=>by
  have e1:(s2.heap.push { cls:=.type "list",data:=.seq ([]:List Value).toArray }).get? b=some o:=by rw[heap3];exact e
  exact(hsb.2 b (Nat.ne_of_lt (Heap.lt_size e1))).trans (Heap.get?_push_of_some _ e1)
 have I4:Inv (aJ X scope cl fr tn s3.heap.objs.size s3 (upd H2 s2.heap.objs.size (.lst [])) fp) [] (compSt tn.length fr σ) (upd H2 s2.heap.objs.size (.lst [])) { s3 with heap:=h4 }:=by
  refine⟨ok3,rfl,I3.bare,Un.kept keep4,⟨_,hns3,λi y v e1 e2 e3=>?_⟩,(λy c h=>let ⟨v,oc,ho,hd⟩:=I3.cell y c (hsub y c h);⟨v,oc,keep4 _ _ ho,hd⟩),I3.hok.fresh (Nat.le_refl _),(λy c h=>I3.freeC y c (hsub y c h)),(λp hp=>nomatch hp),I3.hok.kept keep4,by simp [aJ,compSt]⟩
  have e1:(tn++fr.map (·.2))[i]?=some y:=e1
  have e2:(List.replicate tn.length none++fr.map λp=>(σ[p.1]?).join)[i]?=some (some v):=e2
  by_cases hlt:i<tn.length
  ·rw[List.getElem?_append_left (by simpa using hlt),List.getElem?_replicate] at e2
   split at e2<;>cases e2
  ·rw[List.getElem?_append_right (by omega)] at e1
   rw[List.getElem?_append_right (by simpa using hlt),List.length_replicate] at e2
   rw[List.getElem?_map] at e1 e2
   cases q:fr[i-tn.length]? with
   | none=>rw[q] at e1;cases e1
   | some p =>
    rw[q] at e1 e2
    have e1:p.2=y:=Option.some.inj e1
    have e2:(σ[p.1]?).join=some v:=Option.some.inj e2
    subst e1
    obtain⟨g1,g2,g3,c,g4⟩:=hfr p (List.mem_of_getElem? q)
    have e4:σ[p.1]?=some (some v):=by
     cases z:σ[p.1]? with
     | none=>rw[z] at e2;cases e2
     | some w'=>rw[z] at e2;exact congrArg some e2
    obtain⟨m,hn,hl⟩:=I3.loc
    obtain⟨u,ru,lk⟩:=hl p.1 p.2 v g1 e4 (.inr (.inl g2))
    refine⟨u,ru,.inr ⟨.inl g3,c,g4,?_⟩⟩
    rcases lk with ⟨k1,_⟩ | ⟨_,c',k2,k3⟩
    ·rw[g2] at k1;cases k1
    ·rw[hsub _ _ g4] at k2
     cases k2
     obtain⟨oc,ho,hd⟩:=k3
     exact⟨oc,keep4 _ _ ho,hd⟩
 have st4:tk 0 h4:=T.keep 0 _ _ st2 λb hb o e=>keep4 b o (old3 b o e)
 have loop:codeAny (model X.prog X.w) X.A (.compLoop (.ListComp elt [⟨tg,iter,ifs,0⟩] scope pos) 0 (.ref it) (.ref s2.heap.objs.size) (compEnvC scope cl s3.heap.objs.size X.env))
   (compPost (model X.prog X.w) X.A X.xe none (EP X pins σ Q) (.ref s2.heap.objs.size) s3.heap.objs.size) { s3 with heap:=h4 }:=by
  refine codeAny_loop rfl (λn s'=>∃i σ' xs H',Inv (aJ X scope cl fr tn s3.heap.objs.size s3 (upd H2 s2.heap.objs.size (.lst [])) fp) [] σ' H' s'/\tk i s'.heap/\(∀b∈fp,H' b=none)/\W i n σ' xs H') (λn s' hI=>?_) m0
   ⟨0,_,[],_,I4,st4,λb hb=>(f3 b hb).1,w0⟩
  show wpAny _ _ ((compTurn (.ListComp elt [⟨tg,iter,ifs,0⟩] scope pos) 0 (.ref it) (.ref s2.heap.objs.size) (compEnvC scope cl s3.heap.objs.size X.env)).onRaise (λx=>do noteFrame x _;theTreesLotGoes x)) _ _ s'
  refine wpAny_noted ?_
  rw[compTurn_list]
  obtain⟨i,σ5,xs,H5,I5,st5,fr5,w5⟩:=hI
  have stat:∀{H':Hp},(∀b∈fp,H' b=none)->∀b∈fp,FpOk (aJ X scope cl fr tn s3.heap.objs.size s3 (upd H2 s2.heap.objs.size (.lst [])) fp) [] H' b:=λhn b hb =>
   ⟨hn b hb,(ok3.exf b hb).1,ok3.exfs b hb,.inl hb,(ok3.exf b hb).2,λp hp=>nomatch hp⟩
  obtain⟨hl,alt⟩:=turn i n σ5 xs H5 w5
  rcases alt with ⟨stop,qn⟩ | ⟨go,hz,step⟩
  ·refine wpAny_bind (wpAny_standAt (wpAny_bind (thn (T.done (aJ X scope cl fr tn s3.heap.objs.size s3 (upd H2 s2.heap.objs.size (.lst [])) fp) rfl rfl rfl hc i [] s' σ5 H5 _ I5 (stat fr5) st5 stop) λr s6 ⟨hr,I6⟩=>?_)))
   subst hr
   refine wpAny_pure ?_
   obtain⟨m,hn6,_⟩:=I6.loc
   exact⟨m,hn6,λh' hs'=>⟨.ref s2.heap.objs.size,H5,compG_out I3 f3 (Nat.le_refl _) I6 hs',rfl,qn⟩⟩
  ·refine wpAny_bind (wpAny_standAt (wpAny_bind (thn (T.item (aJ X scope cl fr tn s3.heap.objs.size s3 (upd H2 s2.heap.objs.size (.lst [])) fp) rfl rfl rfl hc i [] s' σ5 H5 _ I5 (stat fr5) st5 go) λr s6 ⟨u,hr,h6⟩=>?_)))
   subst hr
   refine wpAny_bind (thn h6 λ_ s7 ⟨y,H7,I7,r7,y7,st7,fr7⟩=>?_)
   have I7':=I7.pinned (stat fr7) (T.obj _ _ st7)
   have hP:=hg s3.heap.objs.size s3 (upd H2 s2.heap.objs.size (.lst [])) fp _ s7 σ5 H7 y u _ I7' r7 (step y H7 y7)
   refine wpAny_bind (wpAny_mono hP (λ_ s8 ⟨σ8,H8,I8,q8⟩=>?_) (λ_ _ z=>False.elim z))
   refine wpAny_bind (wpAny_mono (hcs s3.heap.objs.size s3 (upd H2 s2.heap.objs.size (.lst [])) fp _ s8 σ8 H8 _ I8 q8) (λb s9 ⟨H9,I9,q9⟩=>?_) (λ_ _ z=>False.elim z))
   have again:∀{σ7:St} {H7:Hp} {s7':Shared} {xs':List V},Inv (aJ X scope cl fr tn s3.heap.objs.size s3 (upd H2 s2.heap.objs.size (.lst [])) fp) ([]++pinsAt fp s7.heap) σ7 H7 s7'->(∃m',m'<n/\W (i+1) m' σ7 xs' H7) ->
     ∃m,m<n/\∃i σ' xs H',Inv (aJ X scope cl fr tn s3.heap.objs.size s3 (upd H2 s2.heap.objs.size (.lst [])) fp) [] σ' H' s7'/\tk i s7'.heap/\(∀b∈fp,H' b=none)/\W i m σ' xs H':=λ{σ7 H7 s7' xs'} I7 n7=>by
    obtain⟨m',hm,w7⟩:=n7
    refine⟨m',hm,i+1,σ7,xs',H7,I7.unpinned,T.keep _ _ _ st7 λb hb o e=>(I7.pin (b,o) (List.mem_append_right _ (List.mem_append_right _ (fj hb e)))).1,λb hb=>?_,w7⟩
    obtain⟨o,e,d⟩:=T.obj _ _ st7 b hb
    exact(I7.pin (b,o) (List.mem_append_right _ (List.mem_append_right _ (fj hb e)))).2.1
   cases b with
   | false =>
    rw[if_neg Bool.false_ne_true] at q9
    exact wpAny_pure ⟨rfl,again I9 q9⟩
   | true =>
    rw[if_pos rfl] at q9
    refine wpAny_bind (wpAny_bind (wpAny_mono (he _ _ _ _ _ s9 σ8 H9 _ I9 q9) (λuv s10 ⟨v,H10,I10,r10,hl10,w10⟩=>?_) λ_ _ z=>z.elim))
    refine wpAny_bind (wpAny_mono (mt_append (X:=aJ X scope cl fr tn s3.heap.objs.size s3 (upd H2 s2.heap.objs.size (.lst [])) fp) _ s10 _ H10 (.ref s2.heap.objs.size) [v] (.ref s2.heap.objs.size) [uv] (λ_ H'=>H'=upd H10 s2.heap.objs.size (.lst (xs++[v]))) I10 rfl (.cons r10 .nil) ⟨_,xs,v,rfl,rfl,hl10,hz,rfl⟩) (λ_ s11 ⟨v11,H11,I11,r11,q11⟩=>?_) (λ_ _ z=>False.elim z))
    subst q11
    exact wpAny_pure (wpAny_pure ⟨rfl,again I11 w10⟩)
 subst hs3
 exact codeAny_compStart_list loop (T.self _ 0 _ _ _ st4 loop)
end
end L2
namespace DL
open PySem PySem.Spec PyProof.Rows L2
structure Yl(K:PySem.W.Frag)(J:It)(O:List Addr)(H1:Hp)(ds:List D):Prop where
 step:∀(O2:List Addr) (H2:Hp),To O O2 H1 H2->∀(i:Nat) (d:D),ds[i]?=some d->J.go i H2/\∀x H3,J.yld i H2 x H3->aG H2 H3/\Rep K O2 H3 x d
 stop:∀(O2:List Addr) (H2:Hp),To O O2 H1 H2->J.stop ds.length H2
def PDI(X:Cx)(G:XD->Hp->Prop)(tg iter:Expr)(fi:DS->M (List D)):Prop :=
 ∃wi,PI X tg iter wi/\∀{Hr:Hp} (δ:DS) (O:List Addr) (σ:St) (H:Hp) (R:It->Hp->Prop),Ev X.K Hr O H σ δ->ok (GS G Hr) (fi δ) (λds=>∀J H1,aG H H1->Yl X.K J O H1 ds->R J H1)->wi σ H R
section
variable{K:PySem.W.Frag}{O:List Addr}{H1:Hp}
theorem yl_list{a:Addr}{xs:List V}{ds:List D}(hk:∀(O2:List Addr) (H2:Hp),To O O2 H1 H2->SqL K H2 a xs)(rs:Reps K O H1 xs ds):Yl K (Itl K a) O H1 ds:=by
 refine⟨λO2 H2 t i d hd=>?_,λO2 H2 t=>⟨xs,hk O2 H2 t,by rw[rs.length];exact Nat.le_refl _⟩⟩
 obtain⟨v,hv,r⟩:=rs.get hd
 refine⟨⟨xs,v,hk O2 H2 t,hv⟩,λx H3 y=>?_⟩
 obtain⟨rfl,y⟩:=y
 have:=y xs (hk O2 H3 t)
 rw[hv] at this
 cases this
 exact⟨aG.refl _,r.to t⟩
theorem yl_tup{a:Addr}{xs:List V}{ds:List D}(hq:SqT K H1 a xs)(rs:Reps K O H1 xs ds):Yl K (Itt K a) O H1 ds:=by
 refine⟨λO2 H2 t i d hd=>?_,λO2 H2 t=>⟨xs,t.sqT hq,by rw[rs.length];exact Nat.le_refl _⟩⟩
 obtain⟨v,hv,r⟩:=rs.get hd
 refine⟨⟨xs,v,t.sqT hq,hv⟩,λx H3 y=>?_⟩
 obtain⟨rfl,y⟩:=y
 have:=y xs (t.sqT hq)
 rw[hv] at this
 cases this
 exact⟨aG.refl _,r.to t⟩
theorem yl_range{lo:Int}{n:Nat}:Yl K (Itr lo n) O H1 (b6 lo n):=by
 have hl:(b6 lo n).length=n:=by unfold b6;rw[List.length_map,List.length_range]
 refine⟨λO2 H2 t i d hd=>?_,λO2 H2 t=>by rw[hl];exact Nat.le_refl _⟩
 have hi:i<n:=by
  have:=(List.getElem?_eq_some_iff.mp hd).1
  omega
 refine⟨hi,λx H3 y=>?_⟩
 obtain⟨rfl,rfl⟩:=y
 unfold b6 at hd
 rw[List.getElem?_map,List.getElem?_range hi] at hd
 cases hd
 exact⟨aG.refl _,.int _⟩
theorem Rep.lstTo{v:V}{ds:List D}(r:Rep K O H1 v (.list ds)):∃a xs,v=.ref a/\SqL K H1 a xs/\(∀(O2:List Addr) (H2:Hp),To O O2 H1 H2->SqL K H2 a xs)/\Reps K O H1 xs ds:=by
 cases r with
 | lst h n rs=>exact⟨_,_,rfl,.inl h,λO2 H2 t=>.inl (t.l _ _ n h).2,rs⟩
 | lstK h rs=>exact⟨_,_,rfl,.inr h,λ_ _ _=>.inr h,rs⟩
def cb(n:Nat):List D->List D
 | []=>[]
 | x::xs=>.tuple [.int (n:Int),x]::cb (n+1) xs
theorem enumD_len(n:Nat)(xs:List D):(cb n xs).length=xs.length:=by
 induction xs generalizing n with
 | nil=>rfl
 | cons x xs ih=>show(cb (n+1) xs).length+1=_;rw[ih];rfl
theorem iK{xs:List D}{n i:Nat}{d:D}(h:(cb n xs)[i]?=some d):∃x,xs[i]?=some x/\d=.tuple [.int ((n+i:Nat):Int),x]:=by
 induction xs generalizing n i with
 | nil=>cases h
 | cons x xs ih =>
  cases i with
  | zero=>cases h;exact⟨x,rfl,rfl⟩
  | succ i =>
   obtain⟨y,hy,e⟩:=ih (n:=n+1) (i:=i) h
   have:n+1+i=n+(i+1):=by omega
   rw[this] at e
   exact⟨y,hy,e⟩
theorem yl_enum{a:Addr}{xs:List V}{ds:List D}(hk:∀(O2:List Addr) (H2:Hp),To O O2 H1 H2->SqL K H2 a xs)(rs:Reps K O H1 xs ds):Yl K (Ite K a) O H1 (cb 0 ds):=by
 refine⟨λO2 H2 t i d hd=>?_,λO2 H2 t=>⟨xs,hk O2 H2 t,?_⟩⟩
 ·obtain⟨x,hx,rfl⟩:=iK hd
  obtain⟨v,hv,r⟩:=rs.get hx
  refine⟨⟨xs,v,hk O2 H2 t,hv⟩,λz H3 q=>?_⟩
  obtain⟨T,rfl,hT,q⟩:=q
  have e:=q xs v (hk O2 H2 t) hv
  subst e
  rw[Nat.zero_add]
  exact⟨bm hT,rep_newT hT (.cons (.int _) (.cons (r.to t) .nil))⟩
 ·rw[enumD_len,rs.length]
  exact Nat.le_refl _
def signsD(z:Str):List D:=z.cps.toList.map λc=>.str ⟨#[c]⟩
theorem yl_str{z:Str}:Yl K (Its z) O H1 (signsD z):=by
 have hl:(signsD z).length=z.length:=by unfold signsD;rw[List.length_map,Array.length_toList];rfl
 refine⟨λO2 H2 t i d hd=>?_,λO2 H2 t=>by rw[hl];exact Nat.le_refl _⟩
 have hi:i<z.length:=by
  have:=(List.getElem?_eq_some_iff.mp hd).1
  omega
 refine⟨hi,λx H3 y=>?_⟩
 obtain⟨rfl,c,hc,rfl⟩:=y
 unfold signsD at hd
 rw[List.getElem?_map,Array.getElem?_toList,hc] at hd
 cases hd
 exact⟨aG.refl _,.str _⟩
end
section
variable{X:Cx}{G:XD->Hp->Prop}{tg iter a b:Expr}{f:DS->M D}{fa:DS->M (List D)}{pos p:Pos}{elts:List Expr}{x1:Nat}{tpos:Pos}
def dSeq(f:DS->M D):DS->M (List D):=λδ=>(f δ).thn λd=>M.lift (seqD d)
theorem pdi_seq(h:PD X G iter f):PDI X G tg iter (dSeq f):=by
 obtain⟨t,q,h⟩:=h
 refine⟨_,pi_seq q,λδ O σ H R E k=>?_⟩
 refine h δ O σ H _ E (al (ay k) λd z v H1 s1 r=>?_)
 obtain⟨ds,hd,z⟩:=cC z
 cases d with
 | list es =>
  cases hd
  obtain⟨a,xs,rfl,hq,hk,rs⟩:=r.lstTo
  exact⟨a,rfl,.inl ⟨⟨xs,hq⟩,z _ H1 s1 (yl_list hk rs)⟩⟩
 | tuple es =>
  cases hd
  obtain⟨a,xs,rfl,hq,rs⟩:=r.tup_inv
  exact⟨a,rfl,.inr ⟨⟨xs,hq⟩,z _ H1 s1 (yl_tup hq rs)⟩⟩
 | _=>cases hd
def dRng(rng:List D->Option (List D))(fa:DS->M (List D)):DS->M (List D):=λδ=>(fa δ).thn λds=>M.lift (rng ds)
theorem pdi_rng1(hgl:Gl X "range")(hm:X.mg "range" = none)(ha:PDA X G [a] fa)(hs1:starEach [a] X.env=[(false,eval a X.env)]:=by rfl):PDI X G tg (.Call (.Name "range" p) [a] [] pos) (dRng gZ fa):=by
 obtain⟨_,ta,pa,ha⟩:=ha
 refine⟨_,pi_range1 hgl hm pa hs1,λδ O σ H R E k=>?_⟩
 refine ha δ O σ H _ E (al (ay k) λds z vs H1 s1 rs=>?_)
 obtain⟨xs,hd,z⟩:=cC z
 unfold gZ at hd
 split at hd
 ·rename_i j
  by_cases hz:b62 j=true
  ·rw[if_pos hz] at hd
   cases hd
   obtain⟨v,rfl,r⟩:=ge rs
   obtain⟨z1,z2⟩:=b62_of hz
   exact⟨j,by rw[r.int_inv],z1,z2,z _ H1 s1 yl_range⟩
  ·rw[if_neg hz] at hd;cases hd
 ·cases hd
theorem pdi_rng2(hgl:Gl X "range")(hm:X.mg "range" = none)(ha:PDA X G [a,b] fa)(hs1:starEach [a,b] X.env=[(false,eval a X.env),(false,eval b X.env)]:=by rfl)(hs2:starEach [b] X.env=[(false,eval b X.env)]:=by rfl) :
  PDI X G tg (.Call (.Name "range" p) [a,b] [] pos) (dRng rng2 fa):=by
 obtain⟨_,ta,pa,ha⟩:=ha
 refine⟨_,pi_range2 hgl hm pa hs1 hs2,λδ O σ H R E k=>?_⟩
 refine ha δ O σ H _ E (al (ay k) λds z vs H1 s1 rs=>?_)
 obtain⟨xs,hd,z⟩:=cC z
 unfold rng2 at hd
 split at hd
 ·rename_i i j
  by_cases hz:(b62 i&&b62 j)=true
  ·rw[if_pos hz] at hd
   cases hd
   obtain⟨v,v',rfl,r,r'⟩:=reps2 rs
   obtain⟨hz1,hz2⟩:=Bool.and_eq_true_iff.mp hz
   obtain⟨z1,z2⟩:=b62_of hz1
   obtain⟨z3,z4⟩:=b62_of hz2
   exact⟨i,j,by rw[r.int_inv,r'.int_inv],⟨z1,z2,z3,z4⟩,z _ H1 s1 yl_range⟩
  ·rw[if_neg hz] at hd;cases hd
 ·cases hd
def dEnum(fa:DS->M (List D)):DS->M (List D):=λδ=>(fa δ).thn λds=>match ds with
 | [.list xs]=>M.ret (cb 0 xs)
 | _=>none
theorem pdi_enum(hgl:Gl X "enumerate")(hm:X.mg "enumerate" = none)(ha:PDA X G [a] fa)(hs1:starEach [a] X.env=[(false,eval a X.env)]:=by rfl) :
  PDI X G (.Tuple elts x1 tpos) (.Call (.Name "enumerate" p) [a] [] pos) (dEnum fa):=by
 obtain⟨_,ta,pa,ha⟩:=ha
 refine⟨_,pi_enum hgl hm pa hs1,λδ O σ H R E k=>?_⟩
 refine ha δ O σ H _ E (al (ay k) λds z vs H1 s1 rs=>?_)
 match ds,z with
 | [.list xs],z =>
  obtain⟨v,rfl,r⟩:=ge rs
  obtain⟨a1,us,rfl,hq,hk,r1⟩:=r.lstTo
  exact⟨a1,rfl,⟨us,hq⟩,z _ H1 s1 (yl_enum hk r1)⟩
def dSigns(f:DS->M D):DS->M (List D):=λδ=>(f δ).thn λd=>match d with
 | .str z=>M.ret (signsD z)
 | _=>none
theorem pdi_str(h:PD X G iter f):PDI X G tg iter (dSigns f):=by
 obtain⟨t,q,h⟩:=h
 refine⟨_,pi_str q,λδ O σ H R E k=>?_⟩
 refine h δ O σ H _ E (al (ay k) λd z v H1 s1 r=>?_)
 match d,z,r with
 | .str w,z,r=>exact⟨w,r.str_inv,z _ H1 s1 yl_str⟩
def gForI(fi:DS->M (List D))(t:D->DS->Option DS)(g:DS->M Out):DS->M Out:=λδ=>(fi δ).thn λds=>forD (e8 t g) ds δ
theorem iV{body:List Stmt}{t:D->DS->Option DS}{fi:DS->M (List D)}{gs:DS->M Out}(hp:PassesOwn (model X.prog X.w) X.A X.env X.xe)(hc:X.calm=true)(hi:PDI X G tg iter fi)(hg:PDG X tg t)(hb:PDSs X G body gs)
  (hs:∀x,foldedSetIterable iter X.env x=pure x:=by intro _;rfl):PDS X G (.For tg iter body [] pos) (gForI fi t gs):=by
 obtain⟨wi,pi,hi⟩:=hi
 obtain⟨tgt,pt,hg⟩:=hg
 obtain⟨tb,pb,hb⟩:=hb
 refine⟨_,ps_for hp hc pi pt pb hs,@λHr R0 P0 H0 δ O σ H Dn E k=>?_⟩
 refine hi δ O σ H _ E.ev (al (ay k) λds z J H1 s1 Y=>?_)
 have E1:=E.same s1
 have z1:ok (GS G Hr) (forD (e8 t gs) ds δ) (Fin X.K Hr R0 (Ch O R0) H1 Dn):=al z λo q=>Fin.outer E1 q
 refine⟨λi m σ2 H2=>m=ds.length-i/\i<=ds.length/\∃δ2 O2,EI X.K Hr R0 (Ch O R0) H1 O2 H2 σ2 δ2/\ok (GS G Hr) (forD (e8 t gs) (ds.drop i) δ2) (Fin X.K Hr R0 (Ch O R0) H1 Dn),⟨_,rfl,Nat.zero_le _,δ,O,E1.inner,z1⟩,?_⟩
 rintro i m σ2 H2 ⟨rfl,hi,δ2,O2,E2,k2⟩
 have T:=E1.to E2
 by_cases hlt:i<ds.length
 ·right
  have hd:ds[i]?=some ds[i]:=List.getElem?_eq_getElem hlt
  obtain⟨go,yl⟩:=Y.step O2 H2 T i _ hd
  refine⟨go,λσ' H'=>∃δ2 O2,EI X.K Hr R0 (Ch O R0) H1 O2 H' σ' δ2/\ok (GS G Hr) (forD (e8 t gs) (ds.drop (i+1)) δ2) (Fin X.K Hr R0 (Ch O R0) H1 Dn),λσ' H' h=>⟨_,by omega,rfl,hlt,h⟩,λx H3 y=>?_⟩
  obtain⟨s3,rx⟩:=yl x H3 y
  rw[gS hd] at k2
  have k3:=ay (show ok (GS G Hr) ((e8 t gs ds[i] δ2).thn _) _ from k2)
  obtain⟨δ3,h3,k4⟩:=cC (ay (show ok (GS G Hr) ((M.lift (t ds[i] δ2)).thn gs) _ from k3))
  refine hg R0 (Ch O R0) H1 δ2 δ3 ds[i] x O2 σ2 H3 _ (E2.same s3) rx h3 λσ4 H4 E4 _=>?_
  refine hb R0 (Ch O R0) H1 δ3 O2 σ4 H4 _ E4 (al k4 λo z=>?_)
  cases o with
  | nx δ5=>exact λO5 σ5 H5 E5=>⟨δ5,O5,E5,z⟩
  | ct δ5=>exact λO5 σ5 H5 E5=>⟨δ5,O5,E5,z⟩
  | bk δ5=>exact λO5 σ5 H5 E5=>z O5 σ5 H5 E5
  | rt d=>exact z
 ·left
  have e:i=ds.length:=by omega
  subst e
  rw[List.drop_length] at k2
  exact⟨Y.stop O2 H2 T,k2 O2 σ2 H2 E2⟩
def bZ(t:D->DS->Option DS)(c:DS->M Bool)(f:DS->M D):List D->DS->M (List D)
 | [],_=>M.ret []
 | d::ds,δ=>(M.lift (t d δ)).thn λδ'=>(c δ').thn λb=>if b=true then (f δ').thn λy=>(bZ t c f ds δ').thn λys=>M.ret (y::ys) else bZ t c f ds δ'
def er:DS->M Bool:=λ_=>M.ret true
def nX{α:Type}(f:DS->M α):DS->M α:=λδ=>noX (f δ)
def cy(n:Nat)(js:List Nat)(t:D->DS->Option DS)(fi:DS->M (List D))(c:DS->M Bool)(f:DS->M D):DS->M D:=λδ=>(fi δ).thn λds=>if aL ds.length then (bZ t (nX c) (nX f) ds (List.replicate n .un++js.map (slotAt δ))).thn λys=>M.ret (.list ys) else none
def PDTs(X:Cx)(ifs:List Expr)(f:DS->M Bool):Prop :=
 ∃t,PTs X ifs t/\∀{Hr:Hp} (δ:DS) (O:List Addr) (σ:St) (H:Hp) (Q:Bool->Hp->Prop),Ev X.K Hr O H σ δ->ok (λ_=>False) (f δ) (λb=>∀H',aG H H'->Q b H')->t σ H Q
theorem cV:PDTs X [] er:=⟨_,pts_nil,λδ O σ H Q E k=>k H (aG.refl H)⟩
theorem ok_GS0{α:Type}{Hr:Hp}{r:M α}{k:α->Prop}(h:ok (λ_=>False) r k):ok (GS (λ_ _=>False) Hr) r k:=ok_false h
theorem pdts_one{c:Expr}{fb:DS->M Bool}(h:PDT X (λ_ _=>False) c fb):PDTs X [c] fb:=by
 obtain⟨t,q,h⟩:=h
 exact⟨_,pts_one q,λδ O σ H Q E k=>h δ O σ H Q E (ok_GS0 k)⟩
end
end DL
namespace DL
open PySem PySem.Spec PyProof.Rows L2
def gD(K:PySem.W.Frag)(t:D->DS->Option DS):TG:=λv σ H Q=>∃Hr R0 P0 H0 δ δ' d O,EI K Hr R0 P0 H0 O H σ δ/\Rep K O H v d/\t d δ=some δ'/\∀σ' H',EI K Hr R0 P0 H0 O H' σ' δ'->aG H H'->Q σ' H'
theorem PDG.can{X:Cx}{e:Expr}{t:D->DS->Option DS}(h:PDG X e t):PG X e (gD X.K t):=by
 obtain⟨g,p,h⟩:=h
 intro pins s σ H v u Q I r hw
 obtain⟨Hr,R0,P0,H0,δ,δ',d,O,E,rd,ht,k⟩:=hw
 exact p pins s σ H v u Q I r (h R0 P0 H0 δ δ' d v O σ H Q E rd ht k)
def cD(K:PySem.W.Frag)(f:DS->M Bool):TT:=λσ H Q=>∃Hr δ O,Ev K Hr O H σ δ/\ok (λ_=>False) (f δ) (λb=>∀H',aG H H'->Q b H')
theorem PDTs.can{X:Cx}{ifs:List Expr}{f:DS->M Bool}(h:PDTs X ifs f):PTs X ifs (cD X.K f):=by
 obtain⟨t,p,h⟩:=h
 intro pins s σ H Q I hw
 obtain⟨Hr,δ,O,E,k⟩:=hw
 exact p pins s σ H Q I (h δ O σ H Q E k)
section
variable{K:PySem.W.Frag}{O:List Addr}{H1 H H':Hp}{l:Addr}{τ:St}{δ:DS}
abbrev EC(K:PySem.W.Frag)(O:List Addr)(H1:Hp)(l:Addr)(H:Hp)(τ:St)(δ:DS):Prop:=EI K (λ_=>none) (l::O) (λb=>b=l) H1 (l::O) H τ δ
theorem EC.put{xs ys:List V}(E:EC K O H1 l H τ δ)(hl:H l=some (.lst xs)):EC K O H1 l (upd H l (.lst ys)) τ δ:=by
 have ts:To (l::O) (l::O) H (upd H l (.lst ys)):=To.set hl List.mem_cons_self
 refine⟨⟨(λ_ _ z=>nomatch z),λa ha=>?_,E.ev.len,λi s hs=>?_,E.ev.dis⟩,E.omr,λb o n h=>?_,E.om,E.nr1,E.sub⟩
 ·by_cases e:a=l
  ·subst e;exact .lst aP
  ·exact(E.ev.oo a ha).upd_ne e
 ·have q:=E.ev.at_ i s hs
  cases s with
  | un=>trivial
  | ex a=>exact q
  | vl d =>
   obtain⟨v,h1,r⟩:=q
   exact⟨v,h1,r.to ts⟩
  | ow ds =>
   obtain⟨a,us,h1,h2,h3,r⟩:=q
   exact absurd h2 (E.nr i ds a hs h1)
  | od es =>
   obtain⟨a,us,h1,h2,h3,r⟩:=q
   exact absurd h2 (E.nr1 i _ a hs trivial h1)
 ·rw[upd_ne n]
  exact E.keep b o n h
theorem slot_of{Hr:Hp}{σ:St}{δ:DS}{fr:List (Nat×Str)}(E:Ev K Hr O H σ δ)(n:Nat)(hl:H l=none):EC K O H l (upd H l (.lst [])) (compSt n fr σ) (List.replicate n .un++(fr.map (·.1)).map (slotAt δ)):=by
 have get:∀(i:Nat) (s:Sl),(List.replicate n Sl.un++(fr.map (·.1)).map (slotAt δ))[i]?=some s->s=.un\/∃d v,s=.vl d/\(compSt n fr σ)[i]?=some (some v)/\Rep K O H v d:=λi s h=>by
  by_cases hi:i<n
  ·rw[List.getElem?_append_left (by simpa using hi),List.getElem?_replicate] at h
   split at h<;>cases h<;>exact .inl rfl
  ·rw[List.getElem?_append_right (by simpa using hi),List.length_replicate,List.getElem?_map,List.getElem?_map] at h
   cases q:fr[i-n]? with
   | none=>rw[q] at h;cases h
   | some p =>
    rw[q] at h
    have h:slotAt δ p.1=s:=Option.some.inj h
    unfold slotAt at h
    split at h
    ·rename_i d hd
     subst h
     obtain⟨v,hv,r⟩:=E.val hd
     refine .inr ⟨d,v,rfl,?_,r⟩
     unfold compSt
     rw[List.getElem?_append_right (by simpa using hi),List.length_replicate,List.getElem?_map,q]
     show some (σ[p.1]?).join=_
     rw[hv]
     rfl
    ·exact .inl h.symm
 have to:To O (l::O) H (upd H l (.lst [])):=To.own hl
 refine⟨⟨(λ_ _ z=>nomatch z),λa ha=>?_,by simp [compSt],λi s hs=>?_,λi j a ds es hij h1=>?_⟩,λa ha=>.inl ha,λb o nb h=>by rw[upd_ne nb];exact h,λa ha=>.inl ha,λi ds a h1 ho=>?_,λa ha=>ha⟩
 ·rcases List.mem_cons.mp ha with rfl | ha
  ·exact .lst aP
  ·exact(E.oo a ha).new hl
 ·rcases get i s hs with rfl | ⟨d,v,rfl,hv,r⟩
  ·trivial
  ·exact⟨v,hv,r.to to⟩
 ·rcases get i _ h1 with z | ⟨_,_,z,_⟩<;>cases z
 ·rcases get i _ h1 with z | ⟨_,_,z,_⟩<;>(cases z;exact ho.elim)
end
section
variable{X:Cx}{G:XD->Hp->Prop}{fi:DS->M (List D)}{c:DS->M Bool}{f:DS->M D}{t:D->DS->Option DS}
theorem ok_nX{α:Type}{g:XD->Prop}{f:DS->M α}{δ:DS}{k:α->Prop}(h:ok g (nX f δ) k):ok (λ_=>False) (f δ) k:=ok_noX h
theorem eu{cl:List (Str×Addr)}{fr:List (Nat×Str)}{tn:List Str}{elt iter tg:Expr}{ifs:List Expr}{scope:Scope}{pos:Pos}(hc:X.calm=true)
  (hkind:scope.kind=.function) (hcell:∀y∈scope.names,y.2≠.cell) (hclos:closureFor scope X.env=pure cl) (hsub:∀y c,cl.lookup y=some c->X.env.cells.lookup y=some c)
  (hhas:∀y∈(relabel scope X.env).names,(y.2=.cell\/y.2=.free)->∃c,cl.lookup y.1=some c) (hfr:∀p∈fr,X.N[p.1]?=some p.2/\X.env.kindOf p.2=some .cell/\(compEnvC scope cl 0 X.env).kindOf p.2=some .cell/\∃c,cl.lookup p.2=some c) (hnames:∀y∈scope.names,y.2=.local->scope.names.lookup y.1=some .local)
  (hi:PDI X G tg iter fi) (hg:∀C s3 H3 fp,PDG (aJ X scope cl fr tn C s3 H3 fp) tg t) (hcs:∀C s3 H3 fp,PDTs (aJ X scope cl fr tn C s3 H3 fp) ifs c) (he:∀C s3 H3 fp,PD (aJ X scope cl fr tn C s3 H3 fp) (λ_ _=>False) elt f) (hs:∀x,foldedSetIterable iter X.env x=pure x:=by intro _;rfl) :
  PD X G (.ListComp elt [⟨tg,iter,ifs,0⟩] scope pos) (cy tn.length (fr.map (·.1)) t fi c f):=by
 obtain⟨wi,pi,hi⟩:=hi
 refine⟨_,pe_compG (g:=gD X.K t) (tc:=cD X.K c) (te:=tD X.K (λ_ _=>False) f) hc hkind hcell hclos hsub hhas hfr hnames pi (λC s3 H3 fp=>(hg C s3 H3 fp).can) (λC s3 H3 fp=>(hcs C s3 H3 fp).can) (λC s3 H3 fp=>(he C s3 H3 fp).can) hs,@λHr δ O σ H Q E k=>?_⟩
 refine hi δ O σ H _ E (al (ay k) λds z J H1 s1 Y=>?_)
 by_cases hsz:aL ds.length=true
 case neg =>
  rw[if_neg hsz] at z
  exact z.elim
 rw[if_pos hsz] at z
 intro l hl
 have E1:=E.same s1
 have kk:=al (ay z) λys (q:∀v H',aG H H'->Rep X.K O H' v (.list ys)->Q v H') H2 (kp:Kp l H1 H2) r2=>q (.ref l) H2 (s1.trans (kp.same hl)) r2
 refine⟨λi m τ xs H2=>m=ds.length-i/\i<=ds.length/\xs.length<=i/\H2 l=some (.lst xs)/\∃δc ys,EC X.K O H1 l H2 τ δc/\Reps X.K (l::O) H2 xs ys /\
  ok (GS G Hr) (bZ t (nX c) (nX f) (ds.drop i) δc) (λb7=>∀H3,Kp l H1 H3->Rep X.K O H3 (.ref l) (.list (ys++b7))->Q (.ref l) H3),
  ⟨_,rfl,Nat.zero_le _,Nat.le_refl _,aP,_,[],slot_of E1 tn.length hl,.nil,kk⟩,?_⟩
 rintro i m τ xs H2 ⟨rfl,hi,hx,h2,δc,ys,Ec,ry,kc⟩
 have kp:Kp l H1 H2:=λb o hb e=>Ec.keep b o hb e
 refine⟨h2,?_⟩
 have T:To O (l::O) H1 H2:=kp.to hl
 by_cases hlt:i<ds.length
 ·right
  have hd:ds[i]?=some ds[i]:=List.getElem?_eq_getElem hlt
  obtain⟨go,yl⟩:=Y.step (l::O) H2 T i _ hd
  refine⟨go,Nat.lt_of_le_of_lt hx (Nat.lt_of_lt_of_le hlt (bE hsz)),λx H3 y=>?_⟩
  obtain⟨s3,rx⟩:=yl x H3 y
  rw[gS hd] at kc
  obtain⟨δ',ht,kc⟩:=cC (ay (show ok (GS G Hr) ((M.lift (t ds[i] δc)).thn _) _ from kc))
  refine⟨_,_,_,_,δc,δ',ds[i],l::O,Ec.same s3,rx,ht,λτ' H4 E4 s4=>?_⟩
  refine⟨_,δ',l::O,E4.ev,al (ok_nX (ay kc)) λb zb H5 s5=>?_⟩
  have E5:=E4.same s5
  have s25:=(s3.trans s4).trans s5
  dsimp only
  cases b with
  | false =>
   rw[if_neg Bool.false_ne_true] at zb ⊢
   exact⟨_,by omega,rfl,hlt,by omega,s25 _ _ h2,δ',ys,E5,ry.same s25,zb⟩
  | true =>
   rw[if_pos rfl] at zb ⊢
   refine⟨_,δ',l::O,E5.ev,ok_GS0 (al (ok_nX (ay zb)) λy kz v H6 s6 rv=>?_)⟩
   have h6:H6 l=some (.lst xs):=s6 _ _ (s25 _ _ h2)
   have ts:To (l::O) (l::O) H6 (upd H6 l (.lst (xs++[v]))):=To.set h6 List.mem_cons_self
   refine⟨h6,ds.length-(i+1),by omega,rfl,hlt,by rw[List.length_append];show xs.length+1<=i+1;omega,aP,δ',ys++[y],EC.put (E5.same s6) h6,(((ry.same s25).same s6).to ts).append (.cons (rv.to ts) .nil),?_⟩
   exact al (ay kz) λb7 q H7 kp7 r7=>q H7 kp7 (by rw[List.append_assoc] at r7;exact r7)
 ·left
  have e:i=ds.length:=by omega
  subst e
  rw[List.drop_length] at kc
  refine⟨Y.stop (l::O) H2 T,kc H2 kp ?_⟩
  rw[List.append_nil]
  exact .lst (.inl h2) (nin E1.oo hl) (ry.to (.less λb hb=>List.mem_cons_of_mem _ hb))
end
section
variable{δ δ':DS}{fi:DS->M (List D)}{c:DS->M Bool}{f:DS->M D}{t:D->DS->Option DS}{fa:DS->M (List D)}{g:DS->M D}{x y d:D}{ds ys xs:List D}{n:Nat}{js:List Nat}{gs gt:DS->M Out}{r:M Out}{z:Str}
theorem cH(h1:fi δ=M.ret ds)(hz:aL ds.length=true)(h3:bZ t (nX c) (nX f) ds (List.replicate n .un++js.map (slotAt δ))=M.ret ys):cy n js t fi c f δ=M.ret (.list ys):=by
 unfold cy;rw[h1,aQ,if_pos hz,h3];rfl
theorem dw(h1:t d δ=some δ')(h2:f δ'=M.ret y)(h3:bZ t (nX er) (nX f) ds δ'=M.ret ys):bZ t (nX er) (nX f) (d::ds) δ=M.ret (y::ys):=by
 show(M.lift (t d δ)).thn _=_
 rw[h1,lift_some,aQ]
 show(M.ret true).thn _=_
 rw[aQ,if_pos rfl]
 show(noX (f δ')).thn _=_
 rw[h2]
 show(bZ _ _ _ _ _).thn _=_
 rw[h3]
 rfl
theorem ev_rngS{rng:List D->Option (List D)}(h1:fa δ=M.ret xs)(h2:rng xs=some ds):dRng rng fa δ=M.ret ds:=by unfold dRng;rw[h1,aQ,h2];rfl
theorem ev_enumS(h1:fa δ=M.ret [.list xs]):dEnum fa δ=M.ret (cb 0 xs):=by unfold dEnum;rw[h1];rfl
theorem ja(h1:fi δ=M.ret ds){r:M Out}(h3:forD (e8 t gs) ds δ=r):gForI fi t gs δ=r:=by unfold gForI;rw[h1,aQ];exact h3
theorem ev_forGI(P:DS->Prop)(h1:fi δ=M.ret ds)(h0:P δ)(hs:∀d∈ds,∀δ,P δ->∃δ',e8 t gs d δ=M.ret (.nx δ')/\P δ')(hr:∀δ',P δ'->gt δ'=r):bq (gForI fi t gs) gt δ=r:=by
 obtain⟨δ',h3,p⟩:=forD_inv P ds δ h0 hs
 exact aT (ja h1 h3) (hr δ' p)
end
end DL
namespace DL
open PySem PySem.Spec PyProof.Rows L2
section
variable{X:Cx}{G:XD->Hp->Prop}{tg iter:Expr}{f:DS->M D}
theorem PI.or{w1 w2:TI}(h1:PI X tg iter w1)(h2:PI X tg iter w2):PI X tg iter (λσ H R=>w1 σ H R\/w2 σ H R):=by
 intro pins s σ H R I h
 rcases h with h | h
 ·exact h1 pins s σ H R I h
 ·exact h2 pins s σ H R I h
def anyD:D->Option (List D)
 | .list ds=>some ds
 | .tuple ds=>some ds
 | .str z=>some (signsD z)
 | _=>none
def gH(f:DS->M D):DS->M (List D):=λδ=>(f δ).thn λd=>M.lift (anyD d)
theorem dI(h:PD X G iter f):PDI X G tg iter (gH f):=by
 obtain⟨w1,p1,h1⟩:=pdi_seq (tg:=tg) h
 obtain⟨w2,p2,h2⟩:=pdi_str (tg:=tg) h
 refine⟨_,PI.or p1 p2,λδ O σ H R E k=>?_⟩
 have d1:∀d,f δ=some (.ok d)->(∀z,d≠.str z)->dSeq f δ=gH f δ:=λd e n=>by
  unfold dSeq gH
  rw[e]
  show M.lift (seqD d)=M.lift (anyD d)
  cases d with
  | str z=>exact absurd rfl (n z)
  | _=>rfl
 match e:f δ with
 | none=>unfold gH at k;rw[e] at k;exact k.elim
 | some (.error x) =>
  refine .inl (h1 δ O σ H R E ?_)
  have e1:gH f δ=dSeq f δ:=by unfold gH dSeq;rw[e];rfl
  rw[<-e1]
  exact k
 | some (.ok d) =>
  match d,e with
  | .str z,e =>
   refine .inr (h2 δ O σ H R E ?_)
   have e1:gH f δ=dSigns f δ:=by unfold gH dSigns;rw[e];rfl
   rw[<-e1]
   exact k
  | .none,e=>exact .inl (h1 δ O σ H R E (by rw[d1 _ e (λz q=>nomatch q)];exact k))
  | .bool b,e=>exact .inl (h1 δ O σ H R E (by rw[d1 _ e (λz q=>nomatch q)];exact k))
  | .int b,e=>exact .inl (h1 δ O σ H R E (by rw[d1 _ e (λz q=>nomatch q)];exact k))
  | .list b,e=>exact .inl (h1 δ O σ H R E (by rw[d1 _ e (λz q=>nomatch q)];exact k))
  | .tuple b,e=>exact .inl (h1 δ O σ H R E (by rw[d1 _ e (λz q=>nomatch q)];exact k))
  | .dict b,e=>exact .inl (h1 δ O σ H R E (by rw[d1 _ e (λz q=>nomatch q)];exact k))
theorem fv{δ:DS}{x:D}{ds:List D}(h1:f δ=M.ret x)(h2:anyD x=some ds):gH f δ=M.ret ds:=by unfold gH;rw[h1,aQ,h2];rfl
end
end DL
namespace DL
open PySem PySem.Spec PyProof.Rows L2
section
variable{X:Cx}{G:XD->Hp->Prop}{a b c e:Expr}{es:List Expr}{f:DS->M D}{fa:DS->M (List D)}{pos pos':Pos}{sts:List Stmt}{gs:DS->M Out}
variable{K:PySem.W.Frag}{Hr:Hp}{R0:List Addr}{P0:Addr->Prop}{H0 H H':Hp}{O:List Addr}{σ:St}{δ:DS}
theorem EI.newL{i:Nat}{l:Addr}{xs:List V}{ds:List D}(E:EI K Hr R0 P0 H0 O H σ δ)(hl:H l=none)(rx:Reps K O H xs ds):EI K Hr R0 P0 H0 (l::O) (upd H l (.lst xs)) (σ.set i (some (.ref l))) (δ.set i (.ow ds)):=by
 have nO:l∉O:=nin E.ev.oo hl
 have tO:To O (l::O) H (upd H l (.lst xs)):=To.own hl
 refine⟨⟨λb o h=>by have q:=E.ev.root b o h;rw[upd_ne (aK q hl)];exact q,λa ha=>?_,by rw[List.length_set,List.length_set];exact E.ev.len,λj s h=>?_,λj k a ds es hjk h1 h2 h3 h4=>?_⟩,λa ha=>?_,λb o n h=>?_,λa ha=>?_,λj ds a h1 ho h2=>?_,λa ha=>List.mem_cons_of_mem _ (E.sub a ha)⟩
 ·rcases List.mem_cons.mp ha with rfl | ha
  ·exact .lst aP
  ·exact(E.ev.oo a ha).new hl
 ·rw[bX] at h ⊢
  by_cases hij:i=j
  ·rw[if_pos hij] at h ⊢
   by_cases hz:i<δ.length
   ·rw[if_pos hz] at h
    rw[if_pos (by rw[E.ev.len];exact hz)]
    cases h
    exact⟨l,xs,rfl,List.mem_cons_self,aP,rx.to tO⟩
   ·rw[if_neg hz] at h;cases h
  ·rw[if_neg hij] at h ⊢
   exact(E.ev.at_ j s h).to tO (hd_new hl) λa xs h1 h2 _ _=>⟨List.mem_cons_of_mem _ h1,by rw[upd_ne (aK h2 hl)];exact h2⟩
 ·rw[bX] at h1 h2 h3 h4
  by_cases hij:i=j
  ·rw[if_pos hij] at h1 h3
   have ha:a=l:=by
    split at h3
    ·cases h3;rfl
    ·cases h3
   have hik:¬i=k:=λz=>hjk (hij.symm.trans z)
   rw[if_neg hik] at h2 h4
   obtain⟨l',xs,q1,q2,q3,_⟩:=E.ev.at_ k _ h2
   rw[h4] at q1
   cases q1
   rw[ha] at q2
   exact nO q2
  ·rw[if_neg hij] at h1 h3
   by_cases hik:i=k
   ·rw[if_pos hik] at h4
    have ha:a=l:=by
     split at h4
     ·cases h4;rfl
     ·cases h4
    obtain⟨l',xs,q1,q2,q3,_⟩:=E.ev.at_ j _ h1
    rw[h3] at q1
    cases q1
    rw[ha] at q2
    exact nO q2
   ·rw[if_neg hik] at h2 h4
    exact E.ev.dis j k a ds es hjk h1 h2 h3 h4
 ·rcases List.mem_cons.mp ha with rfl | ha
  ·refine .inr ?_
   cases q:Hr a with
   | none=>rfl
   | some o =>
    rw[E.ev.root a o q] at hl
    cases hl
  ·exact E.omr a ha
 ·have q:=E.keep b o n h
  rw[upd_ne (aK q hl)]
  exact q
 ·rcases List.mem_cons.mp ha with rfl | ha
  ·by_cases hp:P0 a
   ·exact .inr (.inl hp)
   ·refine .inr (.inr ?_)
    cases q:H0 a with
    | none=>rfl
    | some o =>
     rw[E.keep a o hp q] at hl
     cases hl
  ·exact E.om a ha
 ·rw[bX] at h1 h2
  by_cases hij:i=j
  ·rw[if_pos hij] at h2
   have ha:a=l:=by
    split at h2
    ·cases h2;rfl
    ·cases h2
   rw[ha]
   exact λz=>nO (E.sub l z)
  ·rw[if_neg hij] at h1 h2
   exact E.nr1 j ds a h1 ho h2
def PDN(X:Cx)(G:XD->Hp->Prop)(e:Expr)(f:DS->M (List D)):Prop :=
 ∃t,PE X e t/\∀{Hr:Hp} (δ:DS) (O:List Addr) (σ:St) (H:Hp) (Q:VK),Ev X.K Hr O H σ δ->ok (GS G Hr) (f δ) (λds=>∀l xs H1,aG H H1->H1 l=none->Reps X.K O H1 xs ds->Q (.ref l) (upd H1 l (.lst xs)))->t σ H Q
def dW(fa:DS->M (List D)):DS->M (List D):=λδ=>(fa δ).thn λds=>if aL ds.length then M.ret ds else none
theorem bW(h:PDA X G es fa):PDN X G (.List es pos) (dW fa):=by
 obtain⟨_,t,p,h⟩:=h
 refine⟨_,pe_lst p,λδ O σ H Q E k=>?_⟩
 refine h δ O σ H _ E (al (ay k) λds z vs H1 s1 rs=>?_)
 by_cases hz:aL ds.length=true
 ·rw[if_pos hz] at z
  exact⟨by rw[rs.length];exact bE hz,λp hp=>z p vs H1 s1 hp rs⟩
 ·rw[if_neg hz] at z
  exact z.elim
def nList(fa:DS->M (List D)):DS->M (List D):=λδ=>(fa δ).thn λds=>match ds with
 | [.list xs]=>M.ret xs
 | [.tuple xs]=>M.ret xs
 | _=>none
theorem pdn_list{p:Pos}{x:Str}(hx:x = "list")(hg:Gl X x)(hm:X.mg x=none)(ha:PDA X G [e] fa)(he:starEach [e] X.env=(false,eval e X.env)::starEach [] X.env:=by rfl):PDN X G (.Call (.Name x p) [e] [] pos) (nList fa):=by
 subst hx
 obtain⟨_,t,pa,ha⟩:=ha
 refine⟨_,pe_callTy call_list_of hg hm PyProof.Rows.boot_list pa (by decide) (by decide) he rfl,λδ O σ H Q E k=>?_⟩
 refine ha δ O σ H _ E (al (ay k) λds z vs H1 s1 rs=>?_)
 match ds,z with
 | [.list xs],z =>
  obtain⟨v,rfl,r⟩:=ge rs
  obtain⟨q,us,rfl,h1,rx⟩:=r.lst_inv
  exact⟨q,us,rfl,.inl h1,λl hl=>z l us H1 s1 hl rx⟩
 | [.tuple xs],z =>
  obtain⟨v,rfl,r⟩:=ge rs
  obtain⟨q,us,rfl,h1,rx⟩:=r.tup_inv
  exact⟨q,us,rfl,.inr h1,λl hl=>z l us H1 s1 hl rx⟩
def gNewL(i:Nat)(f:DS->M (List D)):DS->M Out:=λδ=>(f δ).thn λds=>M.ret (.nx (δ.set i (.ow ds)))
theorem pd_newL{i:Nat}{x:Str}{f:DS->M (List D)}(hN:X.N.Nodup)(hi:X.N[i]?=some x)(hx:Loc X.env.scope x)(he:PDN X G e f)(hs:swapsWith e (some (.Name x pos')) pos.line X.env=pure false:=by rfl)(hf:X.fn x=true\/X.env.scope.names.lookup x=some .local:=by first | exact .inl rfl | exact .inr rfl | assumption) :
  PDS X G (.Assign [.Name x pos'] e pos) (gNewL i f):=by
 obtain⟨t,p,he⟩:=he
 refine⟨_,ps_set hN hi hx p hs hf,λR0 P0 H0 δ O σ H Dn E k=>?_⟩
 exact he δ O σ H _ E.ev (al (ay k) λds z l xs H1 s1 hl rx=>z (l::O) _ _ ((E.same s1).newL hl rx))
mutual
def bM:D->Bool
 | .tuple ds=>aM ds
 | .list _=>false
 | .dict _=>false
 | _=>true
def aM:List D->Bool
 | []=>true
 | d::ds=>bM d&&aM ds
end
mutual
theorem Rep.flat{O':List Addr}:∀{v:V} {d:D},bM d=true->Rep K O H v d->Rep K O' H v d
 | _,_,_,.non=>.non
 | _,_,_,.bl b=>.bl b
 | _,_,_,.int i=>.int i
 | _,_,_,.str x=>.str x
 | _,_,h,.tup q r=>.tup q (Reps.flat (by simpa only[bM] using h) r)
 | _,_,h,.lst _ _ _=>by simp [bM] at h
 | _,_,h,.lstK _ _=>by simp [bM] at h
 | _,_,h,.dct _ _ _ _=>by simp [bM] at h
 | _,_,h,.ins _ _ _ _ _=>by simp [bM,iY] at h
theorem Reps.flat{O':List Addr}:∀{vs:List V} {ds:List D},aM ds=true->Reps K O H vs ds->Reps K O' H vs ds
 | _,_,_,.nil=>.nil
 | _,_,h,.cons r rs=>by
  simp only[aM,Bool.and_eq_true] at h
  exact .cons (Rep.flat h.1 r) (Reps.flat h.2 rs)
end
end
section
variable{δ:DS}{f:DS->M D}{fb:DS->M Bool}{fn:DS->M (List D)}{d:D}{b:Bool}{ds:List D}{fa:DS->M (List D)}{i:Nat}
theorem ev_newL(h:fn δ=M.ret ds):gNewL i fn δ=M.ret (.nx (δ.set i (.ow ds))):=by unfold gNewL;rw[h];rfl
theorem cg(h:fa δ=M.ret ds)(hz:aL ds.length=true):dW fa δ=M.ret ds:=by unfold dW;rw[h,aQ,if_pos hz]
theorem ev_nListL(h:fa δ=M.ret [.list ds]):nList fa δ=M.ret ds:=by unfold nList;rw[h];rfl
end
end DL
namespace L2
open PySem PySem.Spec PyProof.Rows
section
variable{X:Cx}
end
end L2
namespace L2
open PySem PySem.Spec PyProof.Rows
section
variable{X:Cx}
theorem op_le_str:OpR X (compareOp .LtE) (λx y H Q=>∃i j,x=.str i/\y=.str j/\Q (.bl (!decide (j.cps.toList<i.cps.toList))) H):=by
 intro pins s σ H x y v u Q I rx ry h
 obtain⟨i,j,rfl,rfl,q⟩:=h
 obtain⟨t,rfl⟩:=rx
 obtain⟨t',rfl⟩:=ry
 exact PySem.P.le_str (fin_bl I q rfl)
theorem sl_str:SlR X (λx lo hi H Q=>∃z,x=.str z/\z.length<=sizeLine/\Q (.str (Txt.slice z lo hi)) H):=by
 intro pins s σ H x v vl vu lo hi sl Q I rx hs pl pu h
 obtain⟨z,rfl,hz,q⟩:=h
 obtain⟨t,rfl⟩:=rx
 refine⟨"str",_,PySem.F.slot_str_getitem.lookup,typeIs_str _ _ _,?_⟩
 obtain⟨l,rfl,rfl⟩:∃l:Option (Int×Tok),vl=partValue l/\lo=l.map (·.1):=by
  cases pl with
  | none=>exact⟨none,rfl,rfl⟩
  | int i t=>exact⟨some (i,t),rfl,rfl⟩
 obtain⟨u,rfl,rfl⟩:∃u:Option (Int×Tok),vu=partValue u/\hi=u.map (·.1):=by
  cases pu with
  | none=>exact⟨none,rfl,rfl⟩
  | int i t=>exact⟨some (i,t),rfl,rfl⟩
 refine wpAny_getItem_str_slice (l:=l) (u:=u) (st:=none) ?_ rfl (post_val_or_str ⟨Nat.le_trans (Txt.slice_le z _ _) hz,λt' k=>⟨.str _,H,I.tok k,⟨t',rfl⟩,q⟩⟩)
 obtain⟨o,h1,h2,h3⟩:=hs
 exact⟨o,h1,h2,h3⟩
end
end L2
namespace DL
open PySem PySem.Spec PyProof.Rows L2
section
variable{X:Cx}{G:XD->Hp->Prop}{a b c e o:Expr}{es:List Expr}{f g k:DS->M D}{fa:DS->M (List D)}{pos apos cpos:Pos}
def oLeD:D->D->Option D
 | .int i,.int j=>some (.bool (decide (i<=j)))
 | .str i,.str j=>some (.bool (!decide (j.cps.toList<i.cps.toList)))
 | _,_=>none
theorem dop_leD:DOp X (compareOp .LtE) oLeD:=by
 refine⟨_,op_le.or op_le_str,λO H x y d v u Q oo rx ry e k=>?_⟩
 unfold oLeD at e
 split at e
 ·cases e
  exact .inl ⟨_,_,rx.int_inv,ry.int_inv,k _ H (aG.refl H) (.bl _)⟩
 ·cases e
  exact .inr ⟨_,_,rx.str_inv,ry.str_inv,k _ H (aG.refl H) (.bl _)⟩
 ·cases e
variable{lo hi:Option Expr}{fl fh:DS->M (Option Int)}{p2:Pos}
def oCutS(lo hi:Option Int):D->Option D
 | .str z=>if aL z.length then some (.str (Txt.slice z lo hi)) else none
 | d=>oCut lo hi d
def dCutS(f:DS->M D)(fl fh:DS->M (Option Int)):DS->M D:=λδ=>(f δ).thn λx=>(fl δ).thn λl=>(fh δ).thn λu=>M.lift (oCutS l u x)
theorem pd_cutS(he:PD X G e f)(hl:PDO X G lo fl)(hh:PDO X G hi fh):PD X G (.Subscript e (.Slice lo hi none p2) pos) (dCutS f fl fh):=by
 obtain⟨t,p,he⟩:=he
 obtain⟨tl,pl,hl⟩:=hl
 obtain⟨th,ph,hh⟩:=hh
 refine⟨_,pe_slice (sl_str.or (sl_list.or sl_tup)) p pl ph,λδ O σ H Q E k=>?_⟩
 refine he δ O σ H _ E (al (ay k) λd z v H1 s1 r=>?_)
 refine hl δ O σ H1 _ (E.same s1) (al (ay z) λl z H2 s2=>?_)
 refine hh δ O σ H2 _ (E.same (s1.trans s2)) (al (ay z) λu z H3 s3=>?_)
 obtain⟨y,hy,z⟩:=cC z
 have r3:=(r.same s2).same s3
 have s03:=(s1.trans s2).trans s3
 have E3:=E.same s03
 cases d with
 | str w =>
  have hy:(if aL w.length=true then some (PyData.str (Txt.slice w l u)) else none)=some y:=hy
  by_cases hw:aL w.length=true
  ·rw[if_pos hw] at hy
   cases hy
   exact .inl ⟨w,r3.str_inv,bE hw,z _ _ s03 (.str _)⟩
  ·rw[if_neg hw] at hy;cases hy
 | list ds =>
  cases hy
  obtain⟨a,xs,rfl,h1,rs⟩:=r3.lst_inv
  exact .inr (.inl ⟨a,xs,rfl,h1,λp hp=>z _ _ (s03.trans (bm hp)) (gL E3.oo hp (rs.cut l u))⟩)
 | tuple ds =>
  have hy:(if HT.sIx ds.length 0 l=0/\HT.sIx ds.length ds.length u=ds.length then none else some (PyData.tuple (cutD ds l u)))=some y:=hy
  by_cases hw:HT.sIx ds.length 0 l=0/\HT.sIx ds.length ds.length u=ds.length
  ·rw[if_pos hw] at hy;cases hy
  ·rw[if_neg hw] at hy
   cases hy
   obtain⟨a,xs,rfl,h1,rs⟩:=r3.tup_inv
   exact .inr (.inr ⟨a,xs,rfl,h1,by rw[rs.length];exact hw,λp hp=>z _ _ (s03.trans (bm hp)) (rep_newT hp (rs.cut l u))⟩)
 | _=>cases hy
theorem pd_globI{x:Str}{i:Int}{t:Tok}(hg:Gl X x)(hm:X.mg x=some (.int i t))(hd:(x==("__debug__" : Str))=false:=by decide):PD X G (.Name x pos) (dC (.int i)) :=
 ⟨_,pe_glob (v:=.int i) hg hm ⟨t,rfl⟩ hd,λ_ _ _ H Q _ k=>k _ H (aG.refl H) (.int i)⟩
end
end DL
namespace L2
open PySem PySem.Spec PyProof.Rows
section
variable{X:Cx}
theorem ps_compG{y:Str}{py spos:Pos}{iy:Nat}{cl:List (Str×Addr)}{fr:List (Nat×Str)}{tn:List Str}{elt iter tg:Expr}{ifs:List Expr}{scope:Scope}{pos:Pos}{wi:TI}{g:TG}{tc:TT}{te:TE}(hc:X.calm=true)
  (hkind:scope.kind=.function) (hcell:∀y∈scope.names,y.2≠.cell) (hclos:closureFor scope X.env=pure cl) (hsub:∀y c,cl.lookup y=some c->X.env.cells.lookup y=some c)
  (hhas:∀y∈(relabel scope X.env).names,(y.2=.cell\/y.2=.free)->∃c,cl.lookup y.1=some c) (hfr:∀p∈fr,X.N[p.1]?=some p.2/\X.env.kindOf p.2=some .cell/\(compEnvC scope cl 0 X.env).kindOf p.2=some .cell/\∃c,cl.lookup p.2=some c) (hnames:∀y∈scope.names,y.2=.local->scope.names.lookup y.1=some .local)
  (hi:PI X tg iter wi) (hg:∀C s3 H3 fp,PG (aJ X scope cl fr tn C s3 H3 fp) tg g) (hcs:∀C s3 H3 fp,PTs (aJ X scope cl fr tn C s3 H3 fp) ifs tc) (he:∀C s3 H3 fp,PE (aJ X scope cl fr tn C s3 H3 fp) elt te) (hs:∀x,foldedSetIterable iter X.env x=pure x:=by intro _;rfl)  (hsw:swapsWith (.ListComp elt [⟨tg,iter,ifs,0⟩] scope pos) (some (.Name y py)) spos.line X.env=pure true:=by rfl)
  (hN:X.N.Nodup) (hiy:X.N[iy]?=some y) (hly:Loc X.env.scope y) (hfy:X.fn y=true\/X.env.scope.names.lookup y=some .local:=by first | exact .inl rfl | exact .inr rfl | assumption) :
  PS X (.Assign [.Name y py] (.ListComp elt [⟨tg,iter,ifs,0⟩] scope pos) spos) (λDn σ H=>tCompG tn.length fr wi g tc te σ H λv H1=>Dn.nx (σ.set iy (some v)) H1):=by
 intro pins s σ H Dn I h
 rw[exec_Assign_Name_used _ _ _ _ hsw]
 refine wpAny_bind (wpAny_standAt (wpAny_bind ?_))
 show wpAny _ X.A (do let _ <- comprehension (.ListComp elt [⟨tg,iter,ifs,0⟩] scope pos) scope X.env _ (newList []) false (eval iter X.env) (some (assign (.Name y py) X.env))) _ _ s
 refine wpAny_bind (wpAny_mono (wpAny_comprehension_free (use:=some (assign (.Name y py) X.env)) (Q:=λ_ s'=>SP X pins Dn .next s') rfl hs hclos hkind hnames (thn (hi pins s σ H _ I h) λv s1 h1=>thn h1 λitv s2 h2=>?_)) (λ_ s' hq=>wpAny_pure (wpAny_pure hq)) λ_ _ e=>e)
 obtain⟨it,fp,tk,J,H2,e,I2,T,st2,f2,R⟩:=h2
 subst e
 have fl:H2 s2.heap.objs.size=none:=I2.hok.fresh (Nat.le_refl _)
 obtain⟨W,⟨m0,w0⟩,turn⟩:=R s2.heap.objs.size fl
 refine wpAny_newObj_type (wpAny_newFunctionEnv hcell (by intro y hy;simp at hy) (λh4 hns hsb=>?_) hkind)
 have I3:Inv X pins σ (upd H2 s2.heap.objs.size (.lst [])) { s2 with heap:=s2.heap.push { cls:=.type "list",data:=.seq ([]:List Value).toArray } } :=
  I2.laid (t':=s2.toks) (λb o e=>Heap.get?_push_of_some _ e) (Nat.le_refl _) ⟨Nat.zero_le _,[],0,.nil,Heap.get?_push_size _ rfl⟩
 have ob:∀b∈fp,∃o,s2.heap.get? b=some o:=λb hb=>let ⟨o,ho,_⟩:=T.obj 0 _ st2 b hb;⟨o,ho⟩
 have f3:∀b∈fp,FpOk X pins (upd H2 s2.heap.objs.size (.lst [])) b:=λb hb=>by
  obtain⟨g0,g1,g2,g3,g4,g5⟩:=f2 b hb
  obtain⟨o,ho⟩:=ob b hb
  exact⟨by rw[upd_ne (Nat.ne_of_lt (Heap.lt_size ho))];exact g0,g1,g2,g3,g4,g5⟩
 generalize hs3:({ s2 with heap:=s2.heap.push { cls:=.type "list",data:=.seq ([]:List Value).toArray } }:Shared)=s3 at I3
 have heap3:s2.heap.push { cls:=.type "list",data:=.seq ([]:List Value).toArray }=s3.heap:=by rw[<-hs3]
 have old3:∀b o,s2.heap.get? b=some o->s3.heap.get? b=some o:=λb o e=>by rw[<-heap3];exact Heap.get?_push_of_some _ e
 have ok3:(aJ X scope cl fr tn s3.heap.objs.size s3 (upd H2 s2.heap.objs.size (.lst [])) fp).Ok:=by
  refine compG_ok I3 hkind hsub hhas (Nat.le_refl _) (λb hb=>⟨f3 b hb,let ⟨o,ho⟩:=ob b hb;⟨o,old3 b o ho⟩⟩) (λb hb z=>?_) λb hb=>?_
  ·obtain⟨_,g1,g2,_⟩:=f2 b hb
   rcases List.mem_cons.mp (I2.stkSub b z) with q | q
   ·exact g1 q
   ·exact g2 q
  ·obtain⟨_,_,_,g3,_⟩:=f2 b hb
   rcases g3 with q | q
   ·cases e:X.base.get? b with
    | none=>rfl
    | some o=>exact absurd q (I.ok.noex b o e)
   ·exact Heap.get?_none_of_le (Nat.le_trans I.ok.bsz q)
 have hns3:h4.Ns s3.heap.objs.size (λy=>([]:List (Str×Value)).reverse.lookup y):=by rw[<-heap3];exact hns
 have keep4:∀b o,s3.heap.get? b=some o->h4.get? b=some o:=λb o e=>by
  have e1:(s2.heap.push { cls:=.type "list",data:=.seq ([]:List Value).toArray }).get? b=some o:=by rw[heap3];exact e
  exact(hsb.2 b (Nat.ne_of_lt (Heap.lt_size e1))).trans (Heap.get?_push_of_some _ e1)
 have I4:Inv (aJ X scope cl fr tn s3.heap.objs.size s3 (upd H2 s2.heap.objs.size (.lst [])) fp) [] (compSt tn.length fr σ) (upd H2 s2.heap.objs.size (.lst [])) { s3 with heap:=h4 }:=by
  refine⟨ok3,rfl,I3.bare,Un.kept keep4,⟨_,hns3,λi y v e1 e2 e3=>?_⟩,(λy c h=>let ⟨v,oc,ho,hd⟩:=I3.cell y c (hsub y c h);⟨v,oc,keep4 _ _ ho,hd⟩),I3.hok.fresh (Nat.le_refl _),(λy c h=>I3.freeC y c (hsub y c h)),(λp hp=>nomatch hp),I3.hok.kept keep4,by simp [aJ,compSt]⟩
  have e1:(tn++fr.map (·.2))[i]?=some y:=e1
  have e2:(List.replicate tn.length none++fr.map λp=>(σ[p.1]?).join)[i]?=some (some v):=e2
  by_cases hlt:i<tn.length
  ·rw[List.getElem?_append_left (by simpa using hlt),List.getElem?_replicate] at e2
   split at e2<;>cases e2
  ·rw[List.getElem?_append_right (by omega)] at e1
   rw[List.getElem?_append_right (by simpa using hlt),List.length_replicate] at e2
   rw[List.getElem?_map] at e1 e2
   cases q:fr[i-tn.length]? with
   | none=>rw[q] at e1;cases e1
   | some p =>
    rw[q] at e1 e2
    have e1:p.2=y:=Option.some.inj e1
    have e2:(σ[p.1]?).join=some v:=Option.some.inj e2
    subst e1
    obtain⟨g1,g2,g3,c,g4⟩:=hfr p (List.mem_of_getElem? q)
    have e4:σ[p.1]?=some (some v):=by
     cases z:σ[p.1]? with
     | none=>rw[z] at e2;cases e2
     | some w'=>rw[z] at e2;exact congrArg some e2
    obtain⟨m,hn,hl⟩:=I3.loc
    obtain⟨u,ru,lk⟩:=hl p.1 p.2 v g1 e4 (.inr (.inl g2))
    refine⟨u,ru,.inr ⟨.inl g3,c,g4,?_⟩⟩
    rcases lk with ⟨k1,_⟩ | ⟨_,c',k2,k3⟩
    ·rw[g2] at k1;cases k1
    ·rw[hsub _ _ g4] at k2
     cases k2
     obtain⟨oc,ho,hd⟩:=k3
     exact⟨oc,keep4 _ _ ho,hd⟩
 have st4:tk 0 h4:=T.keep 0 _ _ st2 λb hb o e=>keep4 b o (old3 b o e)
 have loop:codeAny (model X.prog X.w) X.A (.compLoop (.ListComp elt [⟨tg,iter,ifs,0⟩] scope pos) 0 (.ref it) (.ref s2.heap.objs.size) (compEnvC scope cl s3.heap.objs.size X.env))
   (compPost (model X.prog X.w) X.A X.xe (some (assign (.Name y py) X.env)) (λ_ s'=>SP X pins Dn .next s') (.ref s2.heap.objs.size) s3.heap.objs.size) { s3 with heap:=h4 }:=by
  refine codeAny_loop rfl (λn s'=>∃i σ' xs H',Inv (aJ X scope cl fr tn s3.heap.objs.size s3 (upd H2 s2.heap.objs.size (.lst [])) fp) [] σ' H' s'/\tk i s'.heap/\(∀b∈fp,H' b=none)/\W i n σ' xs H') (λn s' hI=>?_) m0
   ⟨0,_,[],_,I4,st4,λb hb=>(f3 b hb).1,w0⟩
  show wpAny _ _ ((compTurn (.ListComp elt [⟨tg,iter,ifs,0⟩] scope pos) 0 (.ref it) (.ref s2.heap.objs.size) (compEnvC scope cl s3.heap.objs.size X.env)).onRaise (λx=>do noteFrame x _;theTreesLotGoes x)) _ _ s'
  refine wpAny_noted ?_
  rw[compTurn_list]
  obtain⟨i,σ5,xs,H5,I5,st5,fr5,w5⟩:=hI
  have stat:∀{H':Hp},(∀b∈fp,H' b=none)->∀b∈fp,FpOk (aJ X scope cl fr tn s3.heap.objs.size s3 (upd H2 s2.heap.objs.size (.lst [])) fp) [] H' b:=λhn b hb =>
   ⟨hn b hb,(ok3.exf b hb).1,ok3.exfs b hb,.inl hb,(ok3.exf b hb).2,λp hp=>nomatch hp⟩
  obtain⟨hl,alt⟩:=turn i n σ5 xs H5 w5
  rcases alt with ⟨stop,qn⟩ | ⟨go,hz,step⟩
  ·refine wpAny_bind (wpAny_standAt (wpAny_bind (thn (T.done (aJ X scope cl fr tn s3.heap.objs.size s3 (upd H2 s2.heap.objs.size (.lst [])) fp) rfl rfl rfl hc i [] s' σ5 H5 _ I5 (stat fr5) st5 stop) λr s6 ⟨hr,I6⟩=>?_)))
   subst hr
   refine wpAny_pure ?_
   obtain⟨m,hn6,_⟩:=I6.loc
   have I6':Inv X pins σ H5 s6:=compG_out I3 f3 (Nat.le_refl _) I6 (h':=s6.heap) ⟨rfl,λ_ _=>rfl⟩
   have ab:∀{b:Addr} {o:Obj},s3.heap.get? b=some o->b≠s3.heap.objs.size:=λe=>Nat.ne_of_lt (Heap.lt_size e)
   have nL:X.env.locals≠s3.heap.objs.size:=by
    obtain⟨_,⟨o,_,_,ho,_⟩,_⟩:=I3.loc
    exact ab ho
   have nC:∀z c,X.env.cells.lookup z=some c->c≠s3.heap.objs.size:=λz c e=>by
    obtain⟨w',oc,ho,_⟩:=I3.cell z c e
    exact ab ho
   show wpAny _ X.A (assign (.Name y py) X.env (.ref s2.heap.objs.size)) _ _ s6
   refine wpAny_assign_Name (store_ok2 (v:=.ref s2.heap.objs.size) I6' hN hiy hly rfl (λs7 I7 hs7=>?_) hfy)
   obtain⟨a,sb,ha⟩:=hs7
   have hna:s3.heap.objs.size≠a:=by
    rcases ha with rfl | ha
    ·exact nL.symm
    ·exact(nC _ _ ha).symm
   refine⟨m,hn6.sameBut sb hna,λh' hs'=>⟨σ.set iy (some (.ref s2.heap.objs.size)),H5,?_,qn⟩⟩
   have hfr:H5 s3.heap.objs.size=none:=I6.free
   exact I7.turned (t':=s7.toks) (λb o hb e=>(hs'.2 b hb).trans e) hfr nL.symm (.inr (Nat.le_trans I3.ok.above (Nat.le_of_lt I3.lt))) nC λp hp=>ab (I3.pin p hp).1
  ·refine wpAny_bind (wpAny_standAt (wpAny_bind (thn (T.item (aJ X scope cl fr tn s3.heap.objs.size s3 (upd H2 s2.heap.objs.size (.lst [])) fp) rfl rfl rfl hc i [] s' σ5 H5 _ I5 (stat fr5) st5 go) λr s6 ⟨u,hr,h6⟩=>?_)))
   subst hr
   refine wpAny_bind (thn h6 λ_ s7 ⟨y,H7,I7,r7,y7,st7,fr7⟩=>?_)
   have I7':=I7.pinned (stat fr7) (T.obj _ _ st7)
   have hP:=hg s3.heap.objs.size s3 (upd H2 s2.heap.objs.size (.lst [])) fp _ s7 σ5 H7 y u _ I7' r7 (step y H7 y7)
   refine wpAny_bind (wpAny_mono hP (λ_ s8 ⟨σ8,H8,I8,q8⟩=>?_) (λ_ _ z=>False.elim z))
   refine wpAny_bind (wpAny_mono (hcs s3.heap.objs.size s3 (upd H2 s2.heap.objs.size (.lst [])) fp _ s8 σ8 H8 _ I8 q8) (λb s9 ⟨H9,I9,q9⟩=>?_) (λ_ _ z=>False.elim z))
   have again:∀{σ7:St} {H7:Hp} {s7':Shared} {xs':List V},Inv (aJ X scope cl fr tn s3.heap.objs.size s3 (upd H2 s2.heap.objs.size (.lst [])) fp) ([]++pinsAt fp s7.heap) σ7 H7 s7'->(∃m',m'<n/\W (i+1) m' σ7 xs' H7) ->
     ∃m,m<n/\∃i σ' xs H',Inv (aJ X scope cl fr tn s3.heap.objs.size s3 (upd H2 s2.heap.objs.size (.lst [])) fp) [] σ' H' s7'/\tk i s7'.heap/\(∀b∈fp,H' b=none)/\W i m σ' xs H':=λ{σ7 H7 s7' xs'} I7 n7=>by
    obtain⟨m',hm,w7⟩:=n7
    refine⟨m',hm,i+1,σ7,xs',H7,I7.unpinned,T.keep _ _ _ st7 λb hb o e=>(I7.pin (b,o) (List.mem_append_right _ (List.mem_append_right _ (fj hb e)))).1,λb hb=>?_,w7⟩
    obtain⟨o,e,d⟩:=T.obj _ _ st7 b hb
    exact(I7.pin (b,o) (List.mem_append_right _ (List.mem_append_right _ (fj hb e)))).2.1
   cases b with
   | false =>
    rw[if_neg Bool.false_ne_true] at q9
    exact wpAny_pure ⟨rfl,again I9 q9⟩
   | true =>
    rw[if_pos rfl] at q9
    refine wpAny_bind (wpAny_bind (wpAny_mono (he _ _ _ _ _ s9 σ8 H9 _ I9 q9) (λuv s10 ⟨v,H10,I10,r10,hl10,w10⟩=>?_) λ_ _ z=>z.elim))
    refine wpAny_bind (wpAny_mono (mt_append (X:=aJ X scope cl fr tn s3.heap.objs.size s3 (upd H2 s2.heap.objs.size (.lst [])) fp) _ s10 _ H10 (.ref s2.heap.objs.size) [v] (.ref s2.heap.objs.size) [uv] (λ_ H'=>H'=upd H10 s2.heap.objs.size (.lst (xs++[v]))) I10 rfl (.cons r10 .nil) ⟨_,xs,v,rfl,rfl,hl10,hz,rfl⟩) (λ_ s11 ⟨v11,H11,I11,r11,q11⟩=>?_) (λ_ _ z=>False.elim z))
    subst q11
    exact wpAny_pure (wpAny_pure ⟨rfl,again I11 w10⟩)
 subst hs3
 exact codeAny_compStart_list loop (T.self _ 0 _ _ _ st4 loop)
end
end L2
namespace DL
open PySem PySem.Spec PyProof.Rows L2
section
variable{X:Cx}{G:XD->Hp->Prop}{fi:DS->M (List D)}{c:DS->M Bool}{f:DS->M D}{t:D->DS->Option DS}
end
end DL
namespace L2
open PySem PySem.Spec PyProof.Rows
section
variable{prog:Program}{w:World}{A:Around}{E:Value->Shared->Prop}{s:Shared}
theorem args_min4(a b c d:Value):argsOk "min" ⟨[a,b,c,d],[]⟩:=by unfold argsOk;kernel_rfl
theorem call_min_args{a b:Value}{b7:List Value}{Q:Value->Shared->Prop}(hok:argsOk "min" ⟨a::b::b7,[]⟩)(hsz:sizeOk (Data.seq (a::b::b7).toArray))
  (h:wpAny (model prog w) A.in1 (pyIter (.ref s.heap.objs.size)) (λit s₂=>∃I fp wr n P St bt,it=.ref I/\Walks prog w A.in1 I fp wr n P St/\St 0 s₂.heap/\(∀b∈fp,b<s₂.heap.objs.size)/\0<n/\CmpOf prog w A.in1 .Lt P bt /\
   ∀v h' tk,P (argBest bt (n-1)) v->(∀b o,b∉wr->s₂.heap.get? b=some o->h'.get? b=some o)->Q v { s₂ with heap:=h',toks:=tk }) E
   { s with heap:=s.heap.push { cls:=.type "tuple",data:=.seq (a::b::b7).toArray } }) :
  wpAny (model prog w) A (call (.builtin "min") (a::b::b7)) Q E s:=by
 have hname:(toString "min" ++ toString ".loop" : String) = "min.loop" := by decide
 refine call_function_tree F.kind_min F.plain_min F.entry_min hok ?_
 show wpAny _ A.in1 (Builtin.Builtins.bindParams "min" ["key", "default"] 0 ⟨[],[]⟩ >>= _) _ _ s
 refine wpAny_bind (wpAny_of_eq (show Builtin.Builtins.bindParams "min" ["key", "default"] 0 ⟨[],[]⟩=pure [none,none] from rfl) ?_)
 show wpAny _ A.in1 (newTuple (a::b::b7) >>= _) _ _ s
 refine wpAny_bind (wpAny_newObj_type ?_ (hd:=hsz))
 refine wpAny_bind (wpAny_mono h (λit s₂ h₂=>?_) λ_ _ e=>e)
 obtain⟨I,fp,wr,n,P,St,bt,rfl,W,hst,hfp,hn,hcmp,hQ⟩:=h₂
 refine wpAny_bind (wpAny_newObj_type ?_)
 have hSf:s₂.heap.objs.size∉fp:=λhm=>Nat.lt_irrefl _ (hfp _ hm)
 rw[hname]
 refine wpAny_pure ⟨plainId_quiet F.plain_min_loop _,codeAny_min_loop_first W bt hcmp s₂.heap.objs.size hSf hn (W.frame _ _ _ hst λb _ o e=>Heap.get?_push_of_some _ e) (Heap.get?_push_size _ rfl) λv h' tk hP hk=>?_⟩
 exact hQ v h' tk hP λb o hbw e=>hk b o hbw (Nat.ne_of_lt (Heap.lt_size e)) (Heap.get?_push_of_some _ e)
def minL:List Int->Int
 | []=>0
 | a::r=>r.foldl min a
theorem gz:∀(r:List Int) (a:Int),r.foldl min a<=a/\(∀x∈r,r.foldl min a<=x)/\(r.foldl min a=a\/r.foldl min a∈r)
 | [],a=>⟨Int.le_refl a,(λx h=>by cases h),.inl rfl⟩
 | b::r,a=>by
  obtain⟨h1,h2,h3⟩:=gz r (min a b)
  refine⟨by show r.foldl min (min a b)<=a;omega,λx hx=>?_,?_⟩
  ·show r.foldl min (min a b)<=x
   rcases List.mem_cons.mp hx with rfl | hx
   ·omega
   ·exact h2 x hx
  ·show r.foldl min (min a b)=a\/r.foldl min (min a b)∈b::r
   rcases h3 with h3 | h3
   ·by_cases hab:a<=b
    ·exact .inl (by omega)
    ·exact .inr (List.mem_cons.mpr (.inl (by omega)))
   ·exact .inr (List.mem_cons_of_mem _ h3)
theorem minL_uniq{l:List Int}{m:Int}(hm:m∈l)(h:∀x∈l,m<=x):minL l=m:=by
 cases l with
 | nil=>cases hm
 | cons a r =>
  obtain⟨h1,h2,h3⟩:=gz r a
  have hx:minL (a::r)∈a::r:=by
   rcases h3 with h3 | h3
   ·exact List.mem_cons.mpr (.inl h3)
   ·exact List.mem_cons_of_mem _ h3
  have q1:=h _ hx
  have q2:minL (a::r)<=m:=by
   rcases List.mem_cons.mp hm with rfl | hm
   ·exact h1
   ·exact h2 m hm
  omega
theorem iP:∀{is:List Int} {vs:List Value},aU (is.map V.int) vs->∃ts:List (Int×Tok),ts.map (·.1)=is/\vs=ts.map λp=>.int p.1 p.2
 | [],_,h=>by cases h;exact⟨[],rfl,rfl⟩
 | i::is,_,h=>by
  cases h with
  | cons r rs =>
   obtain⟨t,rfl⟩:=r
   obtain⟨ts,e,rfl⟩:=iP rs
   exact⟨(i,t)::ts,by rw[List.map_cons,e],rfl⟩
theorem best_is{ts:List (Int×Tok)}{v:Value}(hne:0<ts.length)(h:(intItems ts.toArray)[argBest (λi j=>decide (numAt ts.toArray i<numAt ts.toArray j)) (ts.length-1)]?=some v):∃t,v=.int (minL (ts.map (·.1))) t:=by
 obtain⟨k1,k2⟩:=argBest_lt (numAt ts.toArray) (ts.length-1)
 obtain⟨t,rfl⟩:=intItems_at h
 refine⟨t,?_⟩
 have at_:∀j (hj:j<ts.length),numAt ts.toArray j=(ts[j]).1:=λj hj=>by
  unfold numAt
  simp [hj]
 congr 1
 refine(minL_uniq ?_ ?_).symm
 ·rw[at_ _ (by omega)]
  exact List.mem_map_of_mem (List.getElem_mem _)
 ·intro x hx
  obtain⟨p,hp,rfl⟩:=List.mem_map.mp hx
  obtain⟨j,hj,rfl⟩:=List.mem_iff_getElem.mp hp
  have:=k2 j (by omega)
  rw[at_ j hj] at this
  exact this
end
section
variable{X:Cx}
theorem call_minL(hc:X.calm=true):fS X (.builtin "min") (λxs H Q=>∃(p:Addr) (is:List Int),xs=[.ref p]/\SqL X.K H p (is.map V.int)/\is≠[]/\Q (.int (minL is)) H):=by
 intro pins s σ H xs us Q I r h
 obtain⟨l,is,rfl,hq,hne,q⟩:=h
 obtain⟨u,rfl,rx⟩:=vals1 r
 cases rx
 obtain⟨its,rv,pl,hz⟩:=I.list hq
 obtain⟨ts,e,rfl⟩:=iP rv
 have hl:s.heap.IsList l (intItems ts.toArray):=by
  have:=pl.isList
  have e2:intItems ts.toArray=(ts.map λp=>Value.int p.1 p.2).toArray:=by unfold intItems;simp
  rw[e2]
  exact this
 have hpos:0<ts.length:=by
  cases ts with
  | nil=>exact absurd e.symm hne
  | cons=>exact Nat.succ_pos _
 refine min_intList (I.ok.hd hc) hl (by simpa using hpos) λv h' tk hv hk=>?_
 obtain⟨t,rfl⟩:=best_is hpos (by simpa using hv)
 rw[e]
 exact⟨.int (minL is),H,I.kept hk,⟨t,rfl⟩,q⟩
theorem call_min4(hc:X.calm=true):fS X (.builtin "min") (λxs H Q=>∃a b c d:Int,xs=[.int a,.int b,.int c,.int d]/\Q (.int (minL [a,b,c,d])) H):=by
 intro pins s σ H xs us Q I r h
 obtain⟨a,b,c,d,rfl,q⟩:=h
 obtain⟨ts,e,rfl⟩:=iP (is:=[a,b,c,d]) r
 match ts,e with
 | [p1,p2,p3,p4],e =>
  have hT:(s.heap.push { cls:=.type "tuple",data:=.seq #[.int p1.1 p1.2,.int p2.1 p2.2,.int p3.1 p3.2,.int p4.1 p4.2] }).IsTuple s.heap.objs.size (intItems #[p1,p2,p3,p4]):=⟨_,Heap.get?_push_size _ rfl,rfl,0,by simp [intItems]⟩
  show wpAny _ _ (call (.builtin "min") [.int p1.1 p1.2,.int p2.1 p2.2,.int p3.1 p3.2,.int p4.1 p4.2]) _ _ _
  refine call_min_args (args_min4 _ _ _ _) (show 4<=sizeLine by rw[sizeLine_eq];decide) (wpAny_pyIter_tuple hT ?_)
  have hsz:(s.heap.push { cls:=.type "tuple",data:=.seq #[.int p1.1 p1.2,.int p2.1 p2.2,.int p3.1 p3.2,.int p4.1 p4.2] }).objs.size=s.heap.objs.size+1:=Heap.size_push ..
  refine⟨_,[_,s.heap.objs.size],[_],_,_,_,_,rfl,Walks.tuple (A:=X.A.in1) (I.ok.hd hc) _ s.heap.objs.size (by rw[hsz];exact Nat.ne_of_lt (Nat.lt_succ_self _)) (intItems #[p1,p2,p3,p4]),
   ⟨⟨_,Heap.get?_push_size _ rfl,rfl,rfl⟩,hT.push _⟩,λd hd=>?_,by simp [intItems],CmpOf.ints_lt (numAt #[p1,p2,p3,p4]) (λ_ _=>intItems_at),λv h' tk hP hk=>?_⟩
  ·show d<((s.heap.push _).push _).objs.size
   rw[Heap.size_push,hsz]
   rcases List.mem_cons.mp hd with rfl | hd
   ·rw[hsz];exact Nat.lt_succ_self _
   ·rcases List.mem_cons.mp hd with rfl | hd
    ·exact Nat.lt_succ_of_lt (Nat.lt_succ_self _)
    ·cases hd
  ·have hold:∀d o,s.heap.get? d=some o->h'.get? d=some o:=λd o e=>by
    refine hk d o (λhm=>?_) (Heap.get?_push_of_some _ (Heap.get?_push_of_some _ e))
    rcases List.mem_cons.mp hm with e1 | hm
    ·have:=Heap.lt_size e;rw[e1,hsz] at this;exact Nat.lt_irrefl _ (Nat.lt_of_succ_lt this)
    ·cases hm
   obtain⟨t,rfl⟩:=best_is (ts:=[p1,p2,p3,p4]) (Nat.succ_pos _) (by
    have hz:(intItems #[p1,p2,p3,p4]).size-1=3:=by simp [intItems]
    rw[hz] at hP
    exact hP)
   rw[e]
   exact⟨.int (minL [a,b,c,d]),H,I.kept hold,⟨t,rfl⟩,q⟩
end
end L2
namespace DL
open PySem PySem.Spec PyProof.Rows L2
section
variable{X:Cx}
def oMinM:List D->Option D
 | [.int a,.int b,.int c,.int d]=>some (.int (minL [a,b,c,d]))
 | [.list ds]=>match gP ds with
  | some []=>none
  | some is=>some (.int (minL is))
  | none=>none
 | _=>none
theorem dcall_minM(hc:X.calm=true):DCall X (.builtin "min") oMinM:=by
 refine⟨_,(call_min4 hc).or (call_minL hc),λO H ds d vs Q oo rs e k=>?_⟩
 unfold oMinM at e
 split at e
 ·rename_i a b c d
  cases e
  have:=reps_ints (ns:=[a,b,c,d]) rs
  exact .inl ⟨a,b,c,d,this,k _ H (aG.refl H) (.int _)⟩
 ·rename_i es
  split at e
  ·cases e
  ·rename_i is hne he
   cases e
   obtain⟨v,rfl,r⟩:=ge rs
   obtain⟨p,xs,rfl,h1,rx⟩:=r.lst_inv
   rw[intsOf_get he] at rx
   rw[reps_ints rx] at h1
   exact .inr ⟨p,is,rfl,h1,λz=>hne (by rw[z] at he;exact z▸rfl),k _ H (aG.refl H) (.int _)⟩
  ·cases e
 ·cases e
end
end DL
namespace L2
open PySem PySem.Spec PyProof.Rows
section
variable{X:Cx}
end
end L2
namespace DL
open PySem PySem.Spec PyProof.Rows L2
section
variable{X:Cx}
end
end DL
namespace L2
open PySem PySem.Spec PyProof.Rows
section
variable{X:Cx}
end
end L2
namespace DL
open PySem PySem.Spec PyProof.Rows L2
section
variable{X:Cx}
theorem sub_nil{cells:List (Str×Addr)}:∀y c,([]:List (Str×Addr)).lookup y=some c->cells.lookup y=some c:=λ_ _ h=>by cases h
theorem sub_one{n:Str}{a:Addr}{cells:List (Str×Addr)}(h:cells.lookup n=some a):∀y c,[(n,a)].lookup y=some c->cells.lookup y=some c:=λy c q=>by
 unfold List.lookup at q
 split at q
 ·rename_i e
  have e:y=n:=eq_of_beq e
  cases q
  rw[e]
  exact h
 ·cases q
end
end DL
namespace DL
open PySem PySem.Spec PyProof.Rows L2
def NewOf(K:PySem.W.Frag)(H:Hp)(k:V->Hp->Prop)(d:D):Prop:=∃ds,d=.list ds/\aM ds=true/\∀l xs H',aG H H'->H l=none->H' l=some (.lst xs)->Reps K [] H' xs ds->k (.ref l) H'
def PDF(X:Cx)(G:XD->Hp->Prop)(e:Expr)(f:DS->M D):Prop :=
 ∃t,PE X e t/\∀{Hr:Hp} (δ:DS) (O:List Addr) (σ:St) (H:Hp) (Q:VK),Ev X.K Hr O H σ δ->ok (GS G Hr) (f δ) (NewOf X.K H Q)->t σ H Q
def FinF(K:PySem.W.Frag)(Hr:Hp)(R0:List Addr)(H0:Hp)(Dn:Ends):Out->Prop
 | .rt d=>NewOf K H0 Dn.rt d
 | _=>False
def PDSsF(X:Cx)(G:XD->Hp->Prop)(st:List Stmt)(g:DS->M Out):Prop :=
 ∃t,PSs X st t/\∀{Hr:Hp} (R0:List Addr) (H0:Hp) (δ:DS) (O:List Addr) (σ:St) (H:Hp) (Dn:Ends),EI X.K Hr R0 (λ_=>False) H0 O H σ δ->ok (GS G Hr) (g δ) (FinF X.K Hr R0 H0 Dn)->t Dn σ H
section
variable{X:Cx}{G:XD->Hp->Prop}{e:Expr}{es:List Expr}{f:DS->M D}{fa:DS->M (List D)}{gt:DS->M Out}{sts:List Stmt}{pos:Pos}
theorem pdf_compG{c:DS->M Bool}{fi:DS->M (List D)}{t:D->DS->Option DS}{cl:List (Str×Addr)}{fr:List (Nat×Str)}{tn:List Str}{elt iter tg:Expr}{ifs:List Expr}{scope:Scope}{pos:Pos}(hc:X.calm=true)
  (hkind:scope.kind=.function) (hcell:∀y∈scope.names,y.2≠.cell) (hclos:closureFor scope X.env=pure cl) (hsub:∀y c,cl.lookup y=some c->X.env.cells.lookup y=some c)
  (hhas:∀y∈(relabel scope X.env).names,(y.2=.cell\/y.2=.free)->∃c,cl.lookup y.1=some c) (hfr:∀p∈fr,X.N[p.1]?=some p.2/\X.env.kindOf p.2=some .cell/\(compEnvC scope cl 0 X.env).kindOf p.2=some .cell/\∃c,cl.lookup p.2=some c) (hnames:∀y∈scope.names,y.2=.local->scope.names.lookup y.1=some .local)
  (hi:PDI X G tg iter fi) (hg:∀C s3 H3 fp,PDG (aJ X scope cl fr tn C s3 H3 fp) tg t) (hcs:∀C s3 H3 fp,PDTs (aJ X scope cl fr tn C s3 H3 fp) ifs c) (he:∀C s3 H3 fp,PD (aJ X scope cl fr tn C s3 H3 fp) (λ_ _=>False) elt f) (hs:∀x,foldedSetIterable iter X.env x=pure x:=by intro _;rfl) :
  PDF X G (.ListComp elt [⟨tg,iter,ifs,0⟩] scope pos) (cy tn.length (fr.map (·.1)) t fi c f):=by
 obtain⟨wi,pi,hi⟩:=hi
 refine⟨_,pe_compG (g:=gD X.K t) (tc:=cD X.K c) (te:=tD X.K (λ_ _=>False) f) hc hkind hcell hclos hsub hhas hfr hnames pi (λC s3 H3 fp=>(hg C s3 H3 fp).can) (λC s3 H3 fp=>(hcs C s3 H3 fp).can) (λC s3 H3 fp=>(he C s3 H3 fp).can) hs,@λHr δ O σ H Q E k=>?_⟩
 refine hi δ O σ H _ E (al (ay k) λds z J H1 s1 Y=>?_)
 by_cases hsz:aL ds.length=true
 case neg =>
  rw[if_neg hsz] at z
  exact z.elim
 rw[if_pos hsz] at z
 intro l hl
 have E1:=E.same s1
 have hl0:H l=none:=by
  cases q:H l with
  | none=>rfl
  | some o=>rw[s1 l o q] at hl;cases hl
 have kk:=al (ay z) λys (q:NewOf X.K H Q (.list ys))=>(show aM ys=true/\∀xs H2,Kp l H1 H2->H2 l=some (.lst xs)->Reps X.K [] H2 xs ys->Q (.ref l) H2 from by
  obtain⟨ds',e,hf,q⟩:=q
  cases e
  exact⟨hf,λxs H2 kp h2 rx=>q l xs H2 (s1.trans (kp.same hl)) hl0 h2 rx⟩)
 refine⟨λi m τ xs H2=>m=ds.length-i/\i<=ds.length/\xs.length<=i/\H2 l=some (.lst xs)/\∃δc ys,EC X.K O H1 l H2 τ δc/\Reps X.K (l::O) H2 xs ys /\
  ok (GS G Hr) (bZ t (nX c) (nX f) (ds.drop i) δc) (λb7=>aM (ys++b7)=true/\∀xs H3,Kp l H1 H3->H3 l=some (.lst xs)->Reps X.K [] H3 xs (ys++b7)->Q (.ref l) H3),
  ⟨_,rfl,Nat.zero_le _,Nat.le_refl _,aP,_,[],slot_of E1 tn.length hl,.nil,kk⟩,?_⟩
 rintro i m τ xs H2 ⟨rfl,hi,hx,h2,δc,ys,Ec,ry,kc⟩
 have kp:Kp l H1 H2:=λb o hb e=>Ec.keep b o hb e
 refine⟨h2,?_⟩
 have T:To O (l::O) H1 H2:=kp.to hl
 by_cases hlt:i<ds.length
 ·right
  have hd:ds[i]?=some ds[i]:=List.getElem?_eq_getElem hlt
  obtain⟨go,yl⟩:=Y.step (l::O) H2 T i _ hd
  refine⟨go,Nat.lt_of_le_of_lt hx (Nat.lt_of_lt_of_le hlt (bE hsz)),λx H3 y=>?_⟩
  obtain⟨s3,rx⟩:=yl x H3 y
  rw[gS hd] at kc
  obtain⟨δ',ht,kc⟩:=cC (ay (show ok (GS G Hr) ((M.lift (t ds[i] δc)).thn _) _ from kc))
  refine⟨_,_,_,_,δc,δ',ds[i],l::O,Ec.same s3,rx,ht,λτ' H4 E4 s4=>?_⟩
  refine⟨_,δ',l::O,E4.ev,al (ok_nX (ay kc)) λb zb H5 s5=>?_⟩
  have E5:=E4.same s5
  have s25:=(s3.trans s4).trans s5
  dsimp only
  cases b with
  | false =>
   rw[if_neg Bool.false_ne_true] at zb ⊢
   exact⟨_,by omega,rfl,hlt,by omega,s25 _ _ h2,δ',ys,E5,ry.same s25,zb⟩
  | true =>
   rw[if_pos rfl] at zb ⊢
   refine⟨_,δ',l::O,E5.ev,ok_GS0 (al (ok_nX (ay zb)) λy kz v H6 s6 rv=>?_)⟩
   have h6:H6 l=some (.lst xs):=s6 _ _ (s25 _ _ h2)
   have ts:To (l::O) (l::O) H6 (upd H6 l (.lst (xs++[v]))):=To.set h6 List.mem_cons_self
   refine⟨h6,ds.length-(i+1),by omega,rfl,hlt,by rw[List.length_append];show xs.length+1<=i+1;omega,aP,δ',ys++[y],EC.put (E5.same s6) h6,(((ry.same s25).same s6).to ts).append (.cons (rv.to ts) .nil),?_⟩
   exact al (ay kz) λb7 q=>⟨by rw[List.append_assoc];exact q.1,λxs7 H7 kp7 h7 r7=>q.2 xs7 H7 kp7 h7 (by rw[List.append_assoc] at r7;exact r7)⟩
 ·left
  have e:i=ds.length:=by omega
  subst e
  rw[List.drop_length] at kc
  obtain⟨hf,kc⟩:=(show aM (ys++[])=true/\∀xs H3,Kp l H1 H3->H3 l=some (.lst xs)->Reps X.K [] H3 xs (ys++[])->Q (.ref l) H3 from kc)
  refine⟨Y.stop (l::O) H2 T,kc xs H2 kp h2 ?_⟩
  rw[List.append_nil] at hf ⊢
  exact ry.flat hf
end
def spDF(K:PySem.W.Frag)(n:Nat)(F:List D->M D):Sp:=λvs H Q _=>∃O ds,vs.length=n/\(∀l∈O,Mu H l)/\Reps K O H vs ds/\ok (λ_=>False) (F ds) (NewOf K H Q)
section
variable{X:Cx}{G:XD->Hp->Prop}{e:Expr}{es:List Expr}{f:DS->M D}{fa:DS->M (List D)}{pos:Pos}
end
section
variable{P:Program}{w:World}{K:PySem.W.Frag}{mg:Str->Option Value}{base:Heap}
theorem fn_ofDF{x qual:Str}{st:Stmt}{f:Addr}{fd:FuncData}{N ps:List Str}{k:Nat}{g:DS->M Out}(F0:Fun K x qual st f fd)(S:FnScope N ps (aj st))
  (hbody:∀(cdv:Value) (A:Around) (outer:List Env) (s:Shared) (H:Hp) (E:XK),Room k (A.deeper (envOfC qual (aj st) s.heap.objs.size f cdv)) ->
   PDSsF (cxOf CX0 P w K mg base N qual (aj st) f cdv A outer s H E).nox (λ_ _=>False) (aI st) g):FnOk P w K mg base CX0 (k+1) f fd ps (spDF K ps.length (run N.length g)):=by
 refine F0.ok S (λvs H Q E h=>?_) (λcdv A outer s H vs Q E hr h=>?_)
 ·obtain⟨O,ds,hl,_⟩:=h
  exact hl
 ·obtain⟨O,ds,hl,oo,r,q⟩:=h
  obtain⟨t,p,hB⟩:=hbody cdv A outer s H E hr
  refine⟨t,p,hB O H (ik N.length ds) O (L2.fN N vs) H _ ⟨ev_start N oo r,λl hl=>.inl hl,λb o _ h=>h,λl hl=>.inl hl,λi es l h1 ho h2=>?_,λl hl=>hl⟩ (al (ok_false (ay q)) λo z=>?_)⟩
  ·exact(start_no h1 ho).elim
  ·cases o with
   | rt d=>exact z
   | nx δ =>
    obtain⟨ds',e,_⟩:=(show NewOf K H Q .none from z)
    cases e
   | bk δ=>exact z.elim
   | ct δ=>exact z.elim
end
end DL
namespace L2
open PySem PySem.Spec PyProof.Rows
section
variable{X:Cx}
theorem preSum_take(f:Nat->Int)(l:List Int)(h:∀j,j<l.length->f j=l.getD j 0):∀n,n<=l.length->preSum f n=(l.take n).sum
 | 0,_=>by simp [preSum]
 | n+1,hn=>by
  have e:preSum f (n+1)=preSum f n+f n:=rfl
  rw[e,preSum_take f l h n (by omega),h n (by omega),List.take_succ,List.sum_append]
  have:l[n]?=some l[n]:=List.getElem?_eq_getElem (by omega)
  rw[this]
  simp [List.getD,this]
end
end L2
namespace DL
open PySem PySem.Spec PyProof.Rows L2
section
variable{X:Cx}
end
section
variable{X:Cx}{G:XD->Hp->Prop}{e:Expr}{es:List Expr}{f:DS->M D}{fa:DS->M (List D)}{gs gt:DS->M Out}{st:Stmt}{sts:List Stmt}{pos:Pos}
def gRetF(i:Nat):DS->M Out:=λδ=>match δ[i]? with
 | some (.ow ds)=>if aM ds=true then M.ret (.rt (.list ds)) else none
 | _=>none
theorem EI.sames{K:PySem.W.Frag}{Hr H0 H:Hp}{R0 O:List Addr}{σ:St}{δ:DS}(E:EI K Hr R0 (λ_=>False) H0 O H σ δ):aG H0 H:=λb o h=>E.keep b o (λw=>w) h
theorem pdsf_retO{i:Nat}(he:PE X e (tVar i)):PDSsF X G [.Return (some e) pos] (gRetF i):=by
 refine⟨_,pss_one (ps_ret he),λR0 H0 δ O σ H Dn E k=>?_⟩
 unfold gRetF at k
 split at k
 ·rename_i ds hd
  by_cases hf:aM ds=true
  ·rw[if_pos hf] at k
   obtain⟨l,xs,q1,q2,q3,q4⟩:=E.ev.at_ i _ hd
   obtain⟨ds',e1,hf',k⟩:=(show NewOf X.K H0 Dn.rt (.list ds) from k)
   cases e1
   have hl:H0 l=none:=by
    rcases E.om l q2 with h | h | h
    ·exact absurd h (E.nr i ds l hd q1)
    ·exact h.elim
    ·exact h
   exact⟨.ref l,q1,k l xs H E.sames hl q3 (q4.flat hf)⟩
  ·rw[if_neg hf] at k
   exact k.elim
 ·exact k.elim
def gSeqN(g h:DS->M Out):DS->M Out:=λδ=>(g δ).thn λo=>match o with
 | .nx δ'=>h δ'
 | _=>none
theorem pdsf_cons(h1:PDS X G st gs)(h2:PDSsF X G sts gt):PDSsF X G (st::sts) (gSeqN gs gt):=by
 obtain⟨t,p,h1⟩:=h1
 obtain⟨u,q,h2⟩:=h2
 refine⟨_,pss_cons p q,λR0 H0 δ O σ H Dn E k=>?_⟩
 refine h1 R0 _ H0 δ O σ H _ E (al (ay k) λo z=>?_)
 cases o with
 | nx δ'=>exact λO' σ' H' E'=>h2 R0 H0 δ' O' σ' H' Dn E' z
 | rt d=>exact z.elim
 | bk δ'=>exact z.elim
 | ct δ'=>exact z.elim
theorem ev_retF{i:Nat}{δ:DS}{ds:List D}(h:δ[i]?=some (.ow ds))(hf:aM ds=true):gRetF i δ=M.ret (.rt (.list ds)):=by unfold gRetF;rw[h];show(if _ then _ else _)=_;rw[if_pos hf]
mutual
theorem Rep.flatTo{K:PySem.W.Frag}{O O':List Addr}{H H':Hp}(t:∀b xs,Rd H b (.tup xs)->Rd H' b (.tup xs)):∀{v:V} {d:D},bM d=true->Rep K O H v d->Rep K O' H' v d
 | _,_,_,.non=>.non
 | _,_,_,.bl b=>.bl b
 | _,_,_,.int i=>.int i
 | _,_,_,.str x=>.str x
 | _,_,h,.tup q r=>.tup (by rcases q with q | q;exact .inl (t _ _ q);exact .inr q) (Reps.flatTo t (by simpa only[bM] using h) r)
 | _,_,h,.lst _ _ _=>by simp [bM] at h
 | _,_,h,.lstK _ _=>by simp [bM] at h
 | _,_,h,.dct _ _ _ _=>by simp [bM] at h
 | _,_,h,.ins _ _ _ _ _=>by simp [bM,iY] at h
theorem Reps.flatTo{K:PySem.W.Frag}{O O':List Addr}{H H':Hp}(t:∀b xs,Rd H b (.tup xs)->Rd H' b (.tup xs)):∀{vs:List V} {ds:List D},aM ds=true->Reps K O H vs ds->Reps K O' H' vs ds
 | _,_,_,.nil=>.nil
 | _,_,h,.cons r rs=>by
  simp only[aM,Bool.and_eq_true] at h
  exact .cons (Rep.flatTo t h.1 r) (Reps.flatTo t h.2 rs)
end
end
end DL
namespace DL
open PySem PySem.Spec PyProof.Rows L2
section
variable{X:Cx}{G:XD->Hp->Prop}{c e:Expr}{fb:DS->M Bool}{f:DS->M D}{gs gt:DS->M Out}{st1 body sts:List Stmt}{st:Stmt}{pos:Pos}
end
end DL
namespace L2
open PySem PySem.Spec PyProof.Rows
section
variable{X:Cx}
theorem get_list:PGet X (rIxL X.K):=by
 intro pins s σ H x y v u Q I rx ry h
 obtain⟨p,xs,i,z,rfl,rfl,hq,he,q⟩:=h
 cases rx
 obtain⟨t,rfl⟩:=ry
 obtain⟨its,r,pl,hz⟩:=I.list hq
 obtain⟨j,h1,h2,h3,h4,h5⟩:=atI_get he
 obtain⟨w,ew,rw'⟩:=r.get h2
 have hl:=r.length
 have hn:=line63
 have fin:EP X pins σ Q w s:=⟨z,H,I,rw',q⟩
 by_cases h0:0<=i
 ·have hj:i.toNat=j:=by
   rw[seqIndex_of h0 h5] at h1
   exact Option.some.inj h1
  exact wpAny_getItem_list pl.isList h0 (by omega) (by rw[hj];simpa using ew) fin
 ·have hj:(i+(its.toArray.size:Int)).toNat=j:=by
   rw[seqIndex_neg (by omega) h4] at h1
   rw[List.size_toArray,<-hl]
   exact Option.some.inj h1
  exact wpAny_getItem_list_neg pl.isList (by omega) (by rw[List.size_toArray]<;>omega) (by omega) (by rw[hj];simpa using ew) fin
end
end L2
namespace DL
open PySem PySem.Spec PyProof.Rows L2
section
variable{X:Cx}{G:XD->Hp->Prop}{a b c e ix:Expr}{es:List Expr}{f g fi:DS->M D}{fa:DS->M (List D)}{fn:DS->M (List D)}{pos tpos:Pos}
def iC(fn:DS->M (List D)):DS->M D:=λδ=>(fn δ).thn λds=>M.ret (.list ds)
theorem e9(h:PDN X G e fn):PD X G e (iC fn):=by
 obtain⟨t,p,h⟩:=h
 refine⟨t,p,λδ O σ H Q E k=>?_⟩
 refine h δ O σ H Q E (al (ay k) λds z l xs H1 s1 hl rx=>?_)
 exact z (.ref l) _ (s1.trans (bm hl)) (gL (E.same s1).oo hl rx)
theorem ft{δ:DS}{ds:List D}(h:fn δ=M.ret ds):iC fn δ=M.ret (.list ds):=by unfold iC;rw[h];rfl
def nCat(f g:DS->M D):DS->M (List D):=λδ=>(f δ).thn λx=>(g δ).thn λy=>match x,y with
 | .list xs,.list ys=>if aL (xs.length+ys.length) then M.ret (xs++ys) else none
 | _,_=>none
theorem gn(ha:PD X G a f)(hb:PD X G b g):PDN X G (.BinOp a .Add b pos) (nCat f g):=by
 obtain⟨ta,pa,ha⟩:=ha
 obtain⟨tb,pb,hb⟩:=hb
 refine⟨_,pe_op op_catS pa pb,λδ O σ H Q E k=>?_⟩
 refine ha δ O σ H _ E (al (ay k) λx z v H1 s1 rx=>?_)
 refine hb δ O σ H1 _ (E.same s1) (al (ay z) λy z u H2 s2 ry=>?_)
 match x,y,z,rx,ry with
 | .list xs,.list ys,z,rx,ry =>
  obtain⟨p,vs,rfl,h1,r1⟩:=(rx.same s2).lst_inv
  obtain⟨q,ws,rfl,h2,r2⟩:=ry.lst_inv
  by_cases hz:aL (xs.length+ys.length)=true
  ·have z:ok _ (if aL (xs.length+ys.length)=true then M.ret (xs++ys) else none) _:=z
   rw[if_pos hz] at z
   exact⟨p,q,vs,ws,rfl,rfl,h1,h2,by rw[r1.length,r2.length];exact bE hz,λl hl=>z l _ H2 (s1.trans s2) hl (r1.append r2)⟩
  ·have z:ok _ (if aL (xs.length+ys.length)=true then M.ret (xs++ys) else none) _:=z
   rw[if_neg hz] at z
   exact z.elim
theorem gA{δ:DS}{xs ys:List D}(h1:f δ=M.ret (.list xs))(h2:g δ=M.ret (.list ys))(hz:aL (xs.length+ys.length)=true):nCat f g δ=M.ret (xs++ys):=by
 unfold nCat;rw[h1,aQ,h2];show(if _ then _ else _)=_;rw[if_pos hz]
theorem Reps.rep{K:PySem.W.Frag}{O:List Addr}{H:Hp}{xs:List V}{ds:List D}(h:Reps K O H xs ds):∀k:Nat,Reps K O H (List.replicate k xs).flatten (List.replicate k ds).flatten
 | 0=>.nil
 | k+1=>by
  rw[List.replicate_succ,List.replicate_succ,List.flatten_cons,List.flatten_cons]
  exact h.append (Reps.rep h k)
def nRep(fn:DS->M (List D))(g:DS->M D):DS->M (List D):=λδ=>(fn δ).thn λds=>(g δ).thn λy=>match y with
 | .int k=>if aL (ds.length*k.toNat)&&decide (-(2 ^ 63)<=k/\k<2 ^ 63) then M.ret (List.replicate k.toNat ds).flatten else none
 | _=>none
theorem pdn_rep(ha:PDN X G a fn)(hb:PD X G b g):PDN X G (.BinOp a .Mult b pos) (nRep fn g):=by
 obtain⟨ta,pa,ha⟩:=ha
 obtain⟨tb,pb,hb⟩:=hb
 refine⟨_,pe_op op_rep pa pb,λδ O σ H Q E k=>?_⟩
 refine ha δ O σ H _ E (al (ay k) λds z l xs H1 s1 hl rx=>?_)
 have s2:aG H1 (upd H1 l (.lst xs)):=bm hl
 refine hb δ O σ _ _ (E.same (s1.trans s2)) (al (ay z) λy z u H2 s3 ry=>?_)
 match y,z,ry with
 | .int n,z,ry =>
  rw[ry.int_inv]
  by_cases hz:(aL (ds.length*n.toNat)&&decide (-(2 ^ 63)<=n/\n<2 ^ 63))=true
  ·have z:ok _ (if (aL (ds.length*n.toNat)&&decide (-(2 ^ 63)<=n/\n<2 ^ 63))=true then M.ret (List.replicate n.toNat ds).flatten else none) _:=z
   rw[if_pos hz] at z
   simp only[Bool.and_eq_true,decide_eq_true_eq] at hz
   exact⟨l,n,xs,rfl,rfl,s3 _ _ aP,hz.2.1,hz.2.2,by rw[rx.length];exact bE hz.1,λp hp=>z p _ H2 ((s1.trans s2).trans s3) hp (((rx.same s2).same s3).rep _)⟩
  ·have z:ok _ (if (aL (ds.length*n.toNat)&&decide (-(2 ^ 63)<=n/\n<2 ^ 63))=true then M.ret (List.replicate n.toNat ds).flatten else none) _:=z
   rw[if_neg hz] at z
   exact z.elim
theorem flat_rep(d:D)(k:Nat):(List.replicate k [d]).flatten=List.replicate k d:=by
 induction k with
 | zero=>rfl
 | succ k ih=>rw[List.replicate_succ,List.flatten_cons,ih,List.replicate_succ];rfl
theorem ev_nRep{δ:DS}{d:D}{k:Int}(h1:fn δ=M.ret [d])(h2:g δ=M.ret (.int k))(h0:0<=k)(hk:k<=1000000):nRep fn g δ=M.ret (List.replicate k.toNat d):=by
 unfold nRep;rw[h1,aQ,h2]
 show(if _ then _ else _)=_
 rw[if_pos,flat_rep]
 simp only[Bool.and_eq_true,decide_eq_true_eq]
 exact⟨aF (by show 1*k.toNat<=_;omega),by omega,by omega⟩
end
end DL
namespace L2
open PySem PySem.Spec PyProof.Rows
theorem call_sumG{X:Cx}(hc:X.calm=true):fS X (.builtin "sum") (λxs H Q=>∃(p:Addr) (is:List Int),xs=[.ref p]/\SqL X.K H p (is.map V.int)/\Q (.int is.sum) H):=by
 intro pins s σ H xs us Q I r h
 obtain⟨l,is,rfl,hq,q⟩:=h
 obtain⟨u,rfl,rx⟩:=vals1 r
 cases rx
 obtain⟨its,rv,pl,hz⟩:=I.list hq
 obtain⟨ts,e,rfl⟩:=iP rv
 have hl:s.heap.IsList l (intItems ts.toArray):=by
  have:=pl.isList
  have e2:intItems ts.toArray=(ts.map λp=>Value.int p.1 p.2).toArray:=by unfold intItems;simp
  rw[e2]
  exact this
 have hlen:ts.length=is.length:=by rw[<-e,List.length_map]
 have hat:∀j,j<is.length->numAt ts.toArray j=is.getD j 0:=λj hj=>by
  unfold numAt
  rw[<-e]
  have:j<ts.length:=by omega
  simp [this]
 have hll:l<s.heap.objs.size:=by
  obtain⟨o,ho,_⟩:=hl
  exact Heap.lt_size ho
 refine call_sum_walkG (wpAny_pyIter_list hl ?_)
 refine⟨_,[_,l],[_],_,_,_,numAt ts.toArray,rfl,Walks.list (A:=X.A.in1) (I.ok.hd hc) _ l (Nat.ne_of_lt hll) (intItems ts.toArray),⟨⟨_,Heap.get?_push_size _ rfl,rfl,rfl⟩,hl.push _⟩,λd hd=>?_,λi v hv=>intItems_at hv,λh' tk t' hk=>?_⟩
 ·show d<(s.heap.push _).objs.size
  rw[Heap.size_push]
  rcases List.mem_cons.mp hd with rfl | hd
  ·exact Nat.lt_succ_self _
  ·rcases List.mem_cons.mp hd with rfl | hd
   ·exact Nat.lt_succ_of_lt hll
   ·cases hd
 ·have hold:∀d o,s.heap.get? d=some o->h'.get? d=some o:=λd o e=>by
   refine hk d o (λhm=>?_) (Heap.get?_push_of_some _ e)
   rcases List.mem_cons.mp hm with e1 | hm
   ·have:=Heap.lt_size e;rw[e1] at this;exact Nat.lt_irrefl _ this
   ·cases hm
  have hs:(intItems ts.toArray).size=is.length:=by unfold intItems;simp [hlen]
  rw[hs,preSum_take _ is hat _ (Nat.le_refl _),List.take_length]
  exact⟨.int is.sum,H,I.kept hold,⟨t',rfl⟩,q⟩
end L2
namespace DL
open PySem PySem.Spec PyProof.Rows L2
section
variable{X:Cx}
def oSumG:List D->Option D
 | [.list ds]=>(gP ds).map λis=>.int is.sum
 | _=>none
theorem dcall_sumG(hc:X.calm=true):DCall X (.builtin "sum") oSumG:=by
 refine⟨_,call_sumG hc,λO H ds d vs Q oo rs e k=>?_⟩
 unfold oSumG at e
 split at e
 ·rename_i es
  cases he:gP es with
  | none=>rw[he] at e;cases e
  | some is =>
   rw[he] at e
   cases e
   obtain⟨v,rfl,r⟩:=ge rs
   obtain⟨p,xs,rfl,h1,rx⟩:=r.lst_inv
   rw[intsOf_get he] at rx
   rw[reps_ints rx] at h1
   exact⟨p,is,rfl,h1,k _ H (aG.refl H) (.int _)⟩
 ·cases e
end
end DL
namespace L2
open PySem PySem.Spec PyProof.Rows
theorem rv_nolen:typeLookup (.type "list_reverseiterator") "__len__" = pure none:=by
 rw[typeLookup_type,builtinLookup_eq_fast]
 kernel_rfl
theorem rv_hint:typeLookup (.type "list_reverseiterator") "__length_hint__" = pure (some (.builtin "list_reverseiterator.__length_hint__")):=by
 rw[typeLookup_type,builtinLookup_eq_fast]
 kernel_rfl
section
variable{pr:Program}{wo:World}{Ar:Around}{Er:Value->Shared->Prop}{st:Shared}
abbrev emptyL(c:Nat):Obj:={ cls:=.type "list",data:=.seq #[] c }
abbrev RvP(xs:Array Value):Nat->Value->Prop:=λi v=>xs[xs.size-1-i]?=some v
theorem take_rev{R:Result->Shared->Prop}{T l:Addr}{xs:Array Value}{res:Value}{c0:Nat}{S:Addr}(hh:Ar.handled=none)(hit:st.heap.IsRevIter T l ((xs.size:Int)-1))(hl:st.heap.IsList l xs)
  (hne:l≠T) (hz:xs.size<=sizeLine) (hS:st.heap.get? S=some (emptyL c0)) (hST:S≠T) (hSl:S≠l)
  (k:∀h2 tk ys c,(∀b o,b≠S->b≠T->st.heap.get? b=some o->h2.get? b=some o)->h2.get? S=some { cls:=.type "list",dict:=none,data:=.seq ys c,slots:=#[] }->ItemsOf (RvP xs) ys xs.size ->
   R (.ok (.ret res)) { st with heap:=h2,toks:=tk }) :
  wpAny (model pr wo) Ar.in1 (Builtin.List.listExtendWith (.ref S) (.ref T) res) (λfin s'=>match fin with | .done f=>R (.ok f) s' | .again c'=>c'.quiet=true/\codeAny (model pr wo) Ar c' R s') (λe s'=>R (.error e) s') st:=by
 have W:=(Walks.listRev (prog:=pr) (w:=wo) (A:=Ar.in1) hh T l hne xs).toS
 have hT:st.TypeIs (.ref T) "list_reverseiterator" := hit.typeIs
 have hSf:S∉[T,l]:=λhm=>by
  rcases List.mem_cons.mp hm with q | hm
  ·exact hST q
  ·exact hSl (List.mem_singleton.mp hm)
 have hs0:((0:Nat)<=xs.size/\st.heap.IsRevIter T l ((xs.size:Int)-1-((0:Nat):Int))/\st.heap.IsList l xs):=⟨Nat.zero_le _,by simpa using hit,hl⟩
 unfold Builtin.List.listExtendWith
 refine wpAny_bind (wpAny_typeOf hT ?_)
 have q1:Builtin.List.listSameRef (.ref S) (.ref T)=false:=by
  simp [Builtin.List.listSameRef,hST]
 rw[if_neg (by rw[q1];decide)]
 refine wpAny_bind (wpAny_pyIter_revIter hit ?_)
 refine wpAny_bind (wpAny_holding ?_)
 unfold Builtin.List.listLengthHint
 refine wpAny_bind (wpAny_specialOf hT rv_nolen ?_)
 show wpAny _ _ (specialOf (Value.ref T) (Str.ofString "__length_hint__") >>= _) _ _ _
 refine wpAny_bind (wpAny_specialOf hT rv_hint ?_)
 generalize hid:("list_reverseiterator.__length_hint__" : String)=nm
 (fail_if_success (clear hid nm))
 wp_delta
 rw[show splitId nm=some ("list_reverseiterator", "__length_hint__") from by subst hid;decide +kernel]
 subst hid
 refine wpAny_bind (wpAny_isInstance (b:=true) hT (by rw[isSubtype_type];kernel_rfl) ?_)
 refine wpAny_pure ?_
 rw[if_neg (by decide)]
 refine wpAny_pure ⟨plainId_quiet F.plain_extend_loop _,?_⟩
 refine codeAny_extend_loopS W hz S hSf res xs.size 0 _ #[] c0 rfl (Nat.zero_le _) hs0 hS (ItemsOf.nil _) λs2 ys c mv h2 hy=>?_
 rw[Moved.eq_with mv]
 refine k s2.heap s2.toks ys c (λb o b1 b2 e=>mv.heap b o (λhm=>?_) e) h2 hy
 rcases List.mem_cons.mp hm with q | hm
 ·exact b1 q
 ·exact b2 (List.mem_singleton.mp hm)
theorem call_list_rev{Q:Value->Shared->Prop}{T l:Addr}{xs:Array Value}(hh:Ar.handled=none)(hit:st.heap.IsRevIter T l ((xs.size:Int)-1))(hl:st.heap.IsList l xs)(hne:l≠T)(hz:xs.size<=sizeLine)
  (k:∀h2 tk ys c,(∀b o,b≠T->st.heap.get? b=some o->h2.get? b=some o)->h2.get? st.heap.objs.size=some { cls:=.type "list",dict:=none,data:=.seq ys c,slots:=#[] }->ItemsOf (RvP xs) ys xs.size ->
   Q (.ref st.heap.objs.size) { st with heap:=h2,toks:=tk }) :
  wpAny (model pr wo) Ar (call (.type "list") [.ref T]) Q Er st:=by
 have hTl:T<st.heap.objs.size:=let ⟨_,ho,_⟩:=hit;Heap.lt_size ho
 have hll:l<st.heap.objs.size:=let ⟨_,ho,_⟩:=hl;Heap.lt_size ho
 refine callType_codes (Q₁:=λob s1=>ob=.ref st.heap.objs.size/\s1={ st with heap:=st.heap.push (emptyL 0) }) F.called_list (F.typeCall_list_1 _) F.entry_list_init (code_list_new _ ⟨rfl,rfl⟩) ?_
 rintro ob s1 ⟨rfl,rfl⟩
 have hS:(st.heap.push (emptyL 0)).get? st.heap.objs.size=some (emptyL 0):=Heap.get?_push_size _ rfl
 refine⟨⟨_,hS,rfl⟩,F.args_list_init_2 _ _,?_⟩
 show wpAny _ _ (Builtin.List.listItems (.ref st.heap.objs.size) >>= λold=>Builtin.List.listUpdate (.ref st.heap.objs.size) (λ_=>#[]) >>= λ_=>letGo old.toList.reverse >>= λ_=>Builtin.List.listExtendWith (.ref st.heap.objs.size) (.ref T) .none) _ _ _
 refine wpAny_bind ?_
 unfold Builtin.List.listItems
 refine wpAny_bind (wpAny_seqItems hS rfl (wpAny_pure ?_))
 refine wpAny_bind (m:=updateSeq st.heap.objs.size (λ_=>#[])) (wpAny_updateSeq hS rfl ?_)
 have hS2:=Heap.get?_update_self (Obj.mapSeq (λ_=>(#[]:Array Value))) hS rfl
 have keep:∀b o,b≠st.heap.objs.size->st.heap.get? b=some o->((st.heap.push (emptyL 0)).update st.heap.objs.size (Obj.mapSeq (λ_=>(#[]:Array Value)))).get? b=some o:=λb o hb e =>
  (Heap.get?_update_other _ _ (Ne.symm hb)).trans (Heap.get?_push_of_some _ e)
 refine wpAny_bind (wpAny_letGo ?_)
 refine take_rev (Ar:=Ar.in1) (xs:=xs) (l:=l) hh (let ⟨o,ho,q⟩:=hit;⟨o,keep _ _ (Nat.ne_of_lt hTl) ho,q⟩) (let ⟨o,ho,q⟩:=hl;⟨o,keep _ _ (Nat.ne_of_lt hll) ho,q⟩) hne hz hS2 (Nat.ne_of_gt hTl) (Nat.ne_of_gt hll) ?_
 intro h2 tk ys c kp e2 hy
 exact⟨rfl,k h2 tk ys c (λb o b2 e=>kp b o (Nat.ne_of_lt (Heap.lt_size e)) b2 (keep b o (Nat.ne_of_lt (Heap.lt_size e)) e)) e2 hy⟩
end
section
variable{X:Cx}{x y:Str}{p p' pos pos':Pos}{e:Expr}{t:TA}{id T U:String}{r:List V->Hp->VK->Prop}
def CallR2(X:Cx)(g f:Value)(r:List V->Hp->VK->Prop):Prop :=
 ∀(pins:List (Addr×Obj)) (s:Shared) (σ:St) (H:Hp) (xs:List V) (us:List Value) (Q:VK),Inv X pins σ H s->aU xs us->r xs H Q ->
  wpAny (model X.prog X.w) X.A (call f us) (λv s1=>wpAny (model X.prog X.w) X.A (call g [v]) (EP X pins σ Q) X.xe s1) X.xe s
theorem pe_twoTy(hc:CallR2 X (.type U) (.type T) r)(hg:Gl X x)(hm:X.mg x=none)(hv:bootBuiltins x=some (.type U))(hg2:Gl X y)(hm2:X.mg y=none)(hv2:bootBuiltins y=some (.type T))(ha:PA X [e] t)
  (hn:x ≠ "__name__") (hdb:(x==("__debug__" : Str))=false) (hn2:y ≠ "__name__") (hdb2:(y==("__debug__" : Str))=false) (he:starEach [e] X.env=(false,eval e X.env)::starEach [] X.env) :
  PE X (.Call (.Name x p) [.Call (.Name y p') [e] [] pos'] [] pos) (tCB r t):=by
 intro pins s σ H Q I h
 refine wpAny_Call_Name_kw (ld_blt I hg hm hv ?_ hn hdb)
 refine PyProof.Rows.callWith_type1 ?_ rfl rfl
 show wpAny _ _ (spliced ((false,eval (.Call (.Name y p') [e] [] pos') X.env)::backTo pos (starEach [] X.env))) _ _ s
 refine Calls.spliced_cons (wpAny_Call_Name_kw (ld_blt I hg2 hm2 hv2 ?_ hn2 hdb2))
 exact PyProof.Rows.callWith_type1 (thn (ha pos' pins s σ H _ I h) λus s1 ⟨vs,H1,I1,r1,q1⟩=>thn (hc pins s1 σ H1 vs us Q I1 r1 q1) λv s2 h2=>Calls.spliced_nil h2) he rfl
theorem call_listrev(hc:X.calm=true):CallR2 X (.type "list") (.type "reversed") (λxs H Q=>∃(p:Addr) (ys:List V),xs=[.ref p]/\SqL X.K H p ys/\∀l,H l=none->Q (.ref l) (upd H l (.lst ys.reverse))):=by
 intro pins s σ H xs us Q I r h
 obtain⟨l,ys,rfl,hq,q⟩:=h
 obtain⟨u,rfl,rx⟩:=vals1 r
 cases rx
 obtain⟨its,rv,pl,hz⟩:=I.list hq
 have hlen:=rv.length
 have hll:l<s.heap.objs.size:=let ⟨_,ho,_⟩:=pl.isList;Heap.lt_size ho
 refine call_reversed_list pl.isList ?_
 refine call_list_rev (l:=l) (xs:=its.toArray) (I.ok.hd hc) ⟨_,Heap.get?_push_size _ rfl,rfl,rfl⟩ (pl.isList.push _) (Nat.ne_of_lt hll) (by simp only[List.size_toArray];omega) λh2 tk acc c kp e2 hy=>?_
 have kp2:∀b o,s.heap.get? b=some o->h2.get? b=some o:=λb o e=>kp b o (Nat.ne_of_lt (Heap.lt_size e)) (Heap.get?_push_of_some _ e)
 have ea:acc=its.reverse.toArray:=by
  apply Array.ext
  ·rw[hy.1];simp
  ·intro i h1 h3
   have:=hy.2 i acc[i] (Array.getElem?_eq_getElem h1)
   simp only[RvP,List.size_toArray,List.getElem?_toArray] at this
   have hi:i<its.length:=by simpa using h3
   rw[List.getElem?_eq_getElem (by omega)] at this
   simp only[List.getElem_toArray,List.getElem_reverse]
   exact(Option.some.inj this).symm
 refine⟨.ref (s.heap.push (revObj l ((its.toArray.size:Int)-1))).objs.size,_,I.laid (t':=tk) kp2 (by rw[Heap.size_push];exact Nat.le_succ _) (show fR X.prog X.w _ h2 _ (.lst ys.reverse) from⟨by rw[List.length_reverse];exact hz,its.reverse,c,rv.reverse,by rw[ea] at e2;exact e2⟩),rfl,q _ (I.hok.fresh (by rw[Heap.size_push];exact Nat.le_succ _))⟩
end
end L2
namespace DL
open PySem PySem.Spec PyProof.Rows L2
section
variable{X:Cx}{G:XD->Hp->Prop}{e:Expr}{fa:DS->M (List D)}{pos pos' p p':Pos}{x y:Str}{id T U:String}
def DCall2(X:Cx)(g f:Value)(h:List D->Option D):Prop :=
 ∃r,CallR2 X g f r/\∀(O:List Addr) (H:Hp) (ds:List D) (d:D) (vs:List V) (Q:VK),(∀l∈O,Mu H l)->Reps X.K O H vs ds->h ds=some d->(∀v' H',aG H H'->Rep X.K O H' v' d->Q v' H')->r vs H Q
theorem pd_twoTy{h:List D->Option D}(hc:DCall2 X (.type U) (.type T) h)(hg:Gl X x)(hm:X.mg x=none)(hv:bootBuiltins x=some (.type U))(hg2:Gl X y)(hm2:X.mg y=none)(hv2:bootBuiltins y=some (.type T))(ha:PDA X G [e] fa)
  (hn:x ≠ "__name__" := by decide) (hdb:(x==("__debug__" : Str))=false:=by decide) (hn2:y ≠ "__name__" := by decide) (hdb2:(y==("__debug__" : Str))=false:=by decide) (he:starEach [e] X.env=(false,eval e X.env)::starEach [] X.env:=by rfl) :
  PD X G (.Call (.Name x p) [.Call (.Name y p') [e] [] pos'] [] pos) (dCB h fa):=by
 obtain⟨r,hr,hc⟩:=hc
 obtain⟨_,t,pa,ha⟩:=ha
 refine⟨_,pe_twoTy hr hg hm hv hg2 hm2 hv2 pa hn hdb hn2 hdb2 he,λδ O σ H Q E k=>?_⟩
 refine ha δ O σ H _ E (al (ay k) λds z vs H1 s1 rs=>?_)
 obtain⟨d,hd,z⟩:=cC z
 exact hc O H1 ds d vs Q (E.same s1).oo rs hd λv' H2 s2 r2=>z v' H2 (s1.trans s2) r2
def oListRev:List D->Option D
 | [.list ds]=>some (.list ds.reverse)
 | _=>none
theorem reps_rev{K:PySem.W.Frag}{O:List Addr}{H:Hp}:∀{vs:List V} {ds:List D},Reps K O H vs ds->Reps K O H vs.reverse ds.reverse
 | _,_,.nil=>.nil
 | _,_,.cons r t=>by
  rw[List.reverse_cons,List.reverse_cons]
  exact(reps_rev t).append (.cons r .nil)
theorem dtwo_listrev(hc:X.calm=true):DCall2 X (.type "list") (.type "reversed") oListRev:=by
 refine⟨_,call_listrev hc,λO H ds d vs Q oo rs e k=>?_⟩
 unfold oListRev at e
 split at e
 ·cases e
  obtain⟨v,rfl,r⟩:=ge rs
  obtain⟨p,xs,rfl,h1,rx⟩:=r.lst_inv
  exact⟨p,xs,rfl,h1,λl hl=>k _ _ (bm hl) (gL oo hl (reps_rev rx))⟩
 ·cases e
end
end DL
namespace L2
open PySem PySem.Spec PyProof.Rows
section
variable{κ:Type}[DecidableEq κ]
end
section
variable{P:Program}{w:World}{H:Hp}{h:Heap}{a:Addr}
end
section
variable{X:Cx}{pins:List (Addr×Obj)}{σ:St}{H:Hp}{s:Shared}{a:Addr}{y v:V}{u r:Value}{o:Option V}{A:Around}{E:Value->Shared->Prop}
end
section
variable{X:Cx}{pins:List (Addr×Obj)}{σ:St}{H:Hp}{s:Shared}{a:Addr}{kvs:List (Key×V)}{k:Key}{u:Value}{A:Around}{E:Value->Shared->Prop}
end
section
variable{X:Cx}{o i e value:Expr}{pos pos' tpos:Pos}{td ty tv:TE}
end
section
variable{X:Cx}{pos:Pos}
end
section
variable{X:Cx}{pins:List (Addr×Obj)}{σ:St}{H:Hp}{s:Shared}{a:Addr}{y d:V}{u r:Value}{o:Option V}{A:Around}{E:Value->Shared->Prop}
end
section
variable{X:Cx}{o e f:Expr}{apos cpos:Pos}{td ty tx:TE}
end
section
variable{X:Cx}{pins:List (Addr×Obj)}{σ:St}{H:Hp}{s:Shared}{a:Addr}{kvs:List (Key×V)}{A:Around}{E:Value->Shared->Prop}
end
section
variable{X:Cx}{pins:List (Addr×Obj)}{σ:St}{H:Hp}{s:Shared}{a:Addr}{y:V}{u:Value}{A:Around}{E:Value->Shared->Prop}
end
end L2
namespace DL
open PySem PySem.Spec PyProof.Rows L2
section
variable{K:PySem.W.Frag}{O:List Addr}{H:Hp}
end
section
variable{X:Cx}{G:XD->Hp->Prop}{a b o i e:Expr}{f g:DS->M D}{pos pos' lp:Pos}
end
section
variable{K:PySem.W.Frag}{Hr:Hp}{R0:List Addr}{P0:Addr->Prop}{H0 H H':Hp}{O:List Addr}{σ:St}{δ:DS}
end
section
variable{X:Cx}{G:XD->Hp->Prop}{a b o ix e:Expr}{f g:DS->M D}{pos pos' lp tpos:Pos}
end
end DL
namespace DL
open PySem PySem.Spec PyProof.Rows L2
section
variable{X:Cx}{G:XD->Hp->Prop}{a b c o i e:Expr}{f g:DS->M D}{fb:DS->M Bool}{fn:DS->M (List D)}{gs gt:DS->M Out}{st1 sts:List Stmt}{pos pos' lp:Pos}
end
section
variable{X:Cx}{G:XD->Hp->Prop}{k v:Expr}{ks:List (Option Expr)}{vs:List Expr}{f g:DS->M D}{fp:DS->M (List (Key×D))}{pos pos' lp:Pos}
end
section
variable{P:Program}{w:World}{K:PySem.W.Frag}{mg:Str->Option Value}{base:Heap}
end
end DL
namespace L2
open PySem PySem.Spec PyProof.Rows
section
variable{X:Cx}
theorem call_absI:fS X (.builtin "abs") (λxs H Q=>∃i:Int,xs=[.int i]/\Q (.int (if i<0 then -i else i)) H):=by
 intro pins s σ H xs us Q I r h
 obtain⟨i,rfl,q⟩:=h
 obtain⟨u,rfl,t,rfl⟩:=vals1 r
 exact call_abs_int λu tk=>⟨.int _,H,I.tok tk,⟨u,rfl⟩,q⟩
end
section
variable{X:Cx}{tg:Expr}
end
end L2
namespace DL
open PySem PySem.Spec PyProof.Rows L2
section
variable{X:Cx}{G:XD->Hp->Prop}{tg a b c:Expr}{fa:DS->M (List D)}{p pos:Pos}{K:PySem.W.Frag}{O:List Addr}{H1:Hp}
def oAbs:List D->Option D
 | [.int i]=>some (.int (if i<0 then -i else i))
 | _=>none
theorem dcall_abs:DCall X (.builtin "abs") oAbs:=by
 refine⟨_,call_absI,λO H ds d vs Q oo rs e k=>?_⟩
 unfold oAbs at e
 split at e
 ·cases e
  obtain⟨v,rfl,r⟩:=ge rs
  exact⟨_,by rw[r.int_inv],k _ H (aG.refl H) (.int _)⟩
 ·cases e
end
end DL
namespace DL
open PySem PySem.Spec PyProof.Rows L2
variable{X:Cx}
section
variable{G:XD->Hp->Prop}{e:Expr}{es:List Expr}{fa:DS->M (List D)}{pos:Pos}
end
section
variable{P:Program}{w:World}{K:PySem.W.Frag}{mg:Str->Option Value}{base:Heap}
end
end DL
namespace DL
open PySem PySem.Spec PyProof.Rows L2
variable{X:Cx}{G:XD->Hp->Prop}{e o:Expr}{es:List Expr}{f g:DS->M D}{fa:DS->M (List D)}{pos apos:Pos}
def attrs(nm:Str):D->Option (List (D))
 | .dict [(.none,.tuple (.str x::r))]=>if x=nm then some r else none
 | _=>none
def fldOf(f:Str):List D->Option D
 | []=>none
 | .tuple [.str g,d]::r=>if g=f then some d else fldOf f r
 | _::_=>none
def bg(nm f:Str)(x:D):Option D:=match attrs nm x with
 | some r=>fldOf f r
 | none=>none
structure ClsN(X:Cx)(nm:Str)(C:Addr):Prop where
 at_:PySem.W.nsIn X.K mainGlobals nm=some (some (.ref C))
 cls:Cls X.K C
theorem attrs_inv{K:PySem.W.Frag}{O:List Addr}{H:Hp}{v:V}{nm:Str}{x:D}{r:List D}(rx:Rep K O H v x)(h:attrs nm x=some r):∃(a C dx:Addr) (fs:List (Str×V)) (es:List (Str×D)),v=.ref a/\r=es.map (λe=>PyData.tuple [.str e.1,e.2])/\PySem.W.nsIn K mainGlobals nm=some (some (.ref C))/\H a=some (.ins C dx fs)/\a∉O/\fs.map (·.1)=es.map (·.1)/\Reps K O H (fs.map (·.2)) (es.map (·.2)):=by
 cases rx with
 | dct h1 n hk rr =>
  rename_i a kvs es
  cases es with
  | nil=>cases h
  | cons e es =>
   obtain⟨k,y⟩:=e
   cases es with
   | nil=>cases k<;>cases h
   | cons e2 es =>
    cases k<;>cases h
 | ins hN h1 n hk rr =>
  rename_i a C dx nm2 fs es
  have h':(if nm2=nm then some (es.map λe=>PyData.tuple [.str e.1,e.2]) else none)=some r:=h
  by_cases c:nm2=nm
  ·rw[if_pos c] at h'
   exact⟨_,_,_,_,_,rfl,(Option.some.inj h').symm,c▸hN,h1,n,hk,rr⟩
  ·rw[if_neg c] at h';cases h'
 | _=>cases h
theorem fld_rep{K:PySem.W.Frag}{O:List Addr}{H:Hp}{f:Str}{d:D}:∀{fs:List (Str×V)} {es:List (Str×D)},fs.map (·.1)=es.map (·.1)->Reps K O H (fs.map (·.2)) (es.map (·.2))->fldOf f (es.map λe=>PyData.tuple [.str e.1,e.2])=some d->∃v,fs.lookup f=some v/\Rep K O H v d
 | [],[],_,_,h=>by cases h
 | [],_::_,hk,_,_=>by cases hk
 | _::_,[],hk,_,_=>by cases hk
 | (g,v)::fs,(g2,y)::es,hk,r,h=>by
  simp only[List.map_cons,List.cons.injEq] at hk
  obtain⟨rfl,hk⟩:=hk
  rw[List.map_cons,List.map_cons] at r
  cases r with
  | cons r1 rs =>
   have h:(if g=f then some y else fldOf f (es.map λe=>PyData.tuple [.str e.1,e.2]))=some d:=h
   by_cases c:g=f
   ·rw[if_pos c] at h
    cases h
    subst c
    exact⟨v,by simp [List.lookup],r1⟩
   ·rw[if_neg c] at h
    obtain⟨w,h1,h2⟩:=fld_rep hk rs h
    refine⟨w,?_,h2⟩
    have hb:(f==g)=false:=beq_eq_false_iff_ne.mpr (Ne.symm c)
    simp only[List.lookup,hb]
    exact h1
theorem aZ{nm fl:Str}{C:Addr}(c:ClsN X nm C)(n:NoAttr X.K C fl)(ho:PD X G o f)(hb:attributeBase o fl X.env (eval o X.env)=eval o X.env:=by rfl):PD X G (.Attribute o fl pos) (d1 (bg nm fl) f):=by
 obtain⟨t,p,h⟩:=ho
 refine⟨_,pe_fld p hb,λδ O σ H Q E k=>?_⟩
 refine h δ O σ H _ E (al (ay k) λx z v H1 s1 rx=>?_)
 obtain⟨d,hd,z⟩:=cC z
 unfold bg at hd
 cases ha:attrs nm x with
 | none=>rw[ha] at hd;cases hd
 | some r =>
  rw[ha] at hd
  obtain⟨a,C',dx,fs,es,rfl,rfl,hN,h1,hn,hk,rr⟩:=attrs_inv rx ha
  have:C'=C:=by
   have:=hN.symm.trans c.at_
   simp at this
   exact this
  subst this
  obtain⟨w,l1,l2⟩:=fld_rep hk rr hd
  exact⟨a,C',dx,fs,w,rfl,h1,c.cls,n,l1,z w H1 s1 l2⟩
structure DefM(P:Program)(w:World)(K:PySem.W.Frag)(mg:Str->Option Value)(base:Heap)(k:Nat)(nm m:Str)(n:Nat)(F:List D->M D):Prop where
 ex:∃(C f:Addr) (fd:FuncData) (ps:List Str),PySem.W.nsIn K mainGlobals nm=some (some (.ref C))/\Cls K C/\Meth K C m f/\FnOk P w K mg base CX0 k f fd ps (spD K n F)/\fU K fd ps []
def iJ(m:Str)(r:List D):Bool:=r.all λd=>match d with
 | .tuple [.str g,_]=>decide (g≠m)
 | _=>false
def dMe(nm m:Str)(F:List D->M D)(fo:DS->M D)(fa:DS->M (List D)):DS->M D:=λδ=>(fo δ).thn λx=>match attrs nm x with
 | some r=>if iJ m r=true then (fa δ).thn λds=>F (x::ds) else none
 | none=>none
theorem iX{m:Str}:∀{fs:List (Str×V)} {es:List (Str×D)},fs.map (·.1)=es.map (·.1)->iJ m (es.map λe=>PyData.tuple [.str e.1,e.2])=true->fs.lookup m=none
 | [],_,_,_=>rfl
 | _::_,[],hk,_=>by cases hk
 | (g,v)::fs,(g2,y)::es,hk,h=>by
  simp only[List.map_cons,List.cons.injEq] at hk
  obtain⟨rfl,hk⟩:=hk
  unfold iJ at h
  rw[List.map_cons,List.all_cons,Bool.and_eq_true] at h
  have c:g≠m:=of_decide_eq_true h.1
  have hb:(m==g)=false:=beq_eq_false_iff_ne.mpr (Ne.symm c)
  simp only[List.lookup,hb]
  exact iX hk h.2
theorem cp{pl:Sem Bool}{k n:Nat}{nm m:Str}{F:List D->M D}(h:DefM X.prog X.w X.K X.mg X.base k nm m n F)(hr:Room k X.A)(hn:(e::es).length+1=n)(ho:PD X G o f)(ha:PDA X G (e::es) fa)
  (hst:starEach (e::es) X.env=(false,eval e X.env)::starEach es X.env:=by rfl) (hpl:(backTo pos (starEach es X.env)).any (·.1)=false:=by rfl)
  (ht:eval (.Call (.Attribute o m apos) (e::es) [] pos) X.env=(do
   let ov <- eval o X.env
   standAt apos.atName
   let (f,first) <- holding [ov] (getMethod ov m pl)
   callWith pos f first (backTo pos (starEach (e::es) X.env)) (backToKw pos (keywordEach [] X.env))):=by rfl) :
  PD X G (.Call (.Attribute o m apos) (e::es) [] pos) (dMe nm m (λds=>noX (F ds)) f fa):=by
 obtain⟨C,f0,fd,ps,hN,c,hm,F1,hb⟩:=h.ex
 obtain⟨t,p,ho⟩:=ho
 obtain⟨hl,ta,pa,ha⟩:=ha
 refine⟨_,pe_meth (pl:=pl) p c hm F1 hr hb .nil pass0 pa hst hpl ht,λδ O σ H Q E k=>?_⟩
 refine ho δ O σ H _ E (al (ay k) λx z v H1 s1 rx=>?_)
 cases hat:attrs nm x with
 | none=>rw[hat] at z;exact z.elim
 | some r =>
  rw[hat] at z
  have z1:ok _ (if iJ m r=true then (fa δ).thn λds=>noX (F (x::ds)) else none) _:=z
  clear z
  by_cases hf:iJ m r=true
  ·rw[if_pos hf] at z1
   obtain⟨a,C',dx,fs,es',rfl,rfl,hN',h1,hn1,hk,rr⟩:=attrs_inv rx hat
   have hC:C'=C:=by
    have:=hN'.symm.trans hN
    simp at this
    exact this
   subst hC
   refine⟨a,dx,fs,rfl,h1,iX hk hf,?_⟩
   have k1:=ay z1
   refine ha δ O σ H1 _ (E.same s1) ?_
   cases e1:fa δ with
   | none=>rw[e1] at k1;exact k1.elim
   | some q =>
    rw[e1] at k1
    cases q with
    | error y=>exact k1
    | ok ds =>
     refine λvs H2 s2 rs=>?_
     refine⟨O,x::ds,?_,((E.same s1).same s2).oo,?_,al (ok_noX k1) λd z v H3 s3 r=>z v H3 (s1.trans (s2.trans s3)) r⟩
     ·show(vs++[]).length+1=n
      rw[List.append_nil,rs.length,hl δ ds e1]
      exact hn
     ·rw[List.append_nil]
      exact .cons (rx.same s2) rs
  ·rw[if_neg hf] at z1;exact z1.elim
theorem ev_me{nm m:Str}{F:List D->M D}{δ:DS}{x d:D}{r ds:List D}(h1:f δ=M.ret x)(h2:attrs nm x=some r)(h3:iJ m r=true)(h4:fa δ=M.ret ds)(h5:F (x::ds)=M.ret d):dMe nm m (λds=>noX (F ds)) f fa δ=M.ret d:=by
 unfold dMe
 rw[h1,aQ,h2]
 show(if iJ m r=true then (fa δ).thn λds=>noX (F (x::ds)) else none)=_
 rw[if_pos h3,h4,aQ,h5]
 rfl
end DL
namespace OI
open PySem PySem.Spec PyProof.Rows
end OI
namespace DL
open PySem PySem.Spec PyProof.Rows L2
section
variable{X:Cx}{G:XD->Hp->Prop}{C f:Addr}{x nm fl:Str}{p pos:Pos}{e:Expr}{es:List Expr}{g:DS->M D}
end
section
variable{P:Program}{w:World}{K:PySem.W.Frag}{mg:Str->Option Value}{base:Heap}
end
end DL
namespace L2
open PySem PySem.Spec PyProof.Rows
section
open AutoSeq1 (wpAny_loadPart')
end
section
variable{prog:Program}{w:World}{A:Around}{E:Value->Shared->Prop}{s:Shared}
end
end L2
namespace L2
open PySem PySem.Spec PyProof.Rows
section
variable{Mo:Model}{A:Around}{E:Value->Shared->Prop}{s:Shared}{env:Env}
end
section
variable{prog:Program}{w:World}{A:Around}{E:Value->Shared->Prop}{s:Shared}
end
section
variable{X:Cx}{elts:List Expr}{x1:Nat}{tpos:Pos}
end
end L2
namespace L2
open PySem PySem.Spec PyProof.Rows
section
variable{X:Cx}
end
end L2
namespace DL
open PySem PySem.Spec PyProof.Rows L2
section
variable{X:Cx}{G:XD->Hp->Prop}{a e:Expr}{f:DS->M D}{fa:DS->M (List D)}{p pos kp kpos tpos:Pos}{elts:List Expr}{x1:Nat}{K:PySem.W.Frag}{O:List Addr}{H1:Hp}
def truD:D->Option Bool
 | .bool b=>some b
 | .str z=>if aL z.length then some ((z.length:Int) != 0) else none
 | .list xs=>some (!xs.isEmpty)
 | _=>none
def dTr(f:DS->M D):DS->M Bool:=λδ=>(f δ).thn λd=>M.lift (truD d)
theorem pdt_tr(he:PD X G e f)(h1:∀whole,isTrue e X.env whole=(do let v <- whole;standAt e.pos;holding [v] (truthy v)):=by intro _;rfl):PDT X G e (dTr f):=by
 obtain⟨t,p,he⟩:=he
 refine⟨_,pt_truth p h1,λδ O σ H Q E k=>?_⟩
 refine he δ O σ H _ E (al (ay k) λd z v H' s r=>?_)
 obtain⟨b,hb,z⟩:=cC z
 refine⟨b,?_,z H' s⟩
 unfold truD at hb
 split at hb
 ·cases hb
  rw[r.bool_inv]
  rfl
 ·rename_i y
  split at hb
  ·rename_i hs
   cases hb
   rw[r.str_inv]
   exact⟨bE hs,rfl⟩
  ·cases hb
 ·rename_i xs
  cases hb
  obtain⟨l,us,rfl,h2,rx⟩:=r.lst_inv
  refine .inl ⟨us,h2,?_⟩
  have:=rx.length
  cases us<;>cases xs<;>first | rfl | (simp at this)
 ·cases hb
end
end DL
namespace SL
open PySem PySem.Spec PyProof.Rows L2 DL
inductive Val where
 | d (x:D)
 | h (k:Nat)
 | t (xs:List Val)
inductive Ob where
 | lst (xs:List Val)
 | dct (es:List (Key×Val))
 | ins (c:Str) (fs:List (Str×Val))
 | gone
abbrev aq:=List (Option Val)
abbrev Sto:=List Ob
abbrev R(β:Type):=Option (Except (XD×Sto) β)
section
variable{β γ:Type}
def R.ret(b:β):R β:=some (.ok b)
def R.thn(r:R β)(f:β->R γ):R γ:=match r with
 | none=>none
 | some (.ok a)=>f a
 | some (.error x)=>some (.error x)
def okR(G:XD->Sto->Prop)(r:R β)(k:β->Prop):Prop:=match r with
 | none=>False
 | some (.ok a)=>k a
 | some (.error x)=>G x.1 x.2
theorem az{G:XD->Sto->Prop}{r:R β}{k k':β->Prop}(h:okR G r k)(f:∀a,k a->k' a):okR G r k':=by
 match r,h with
 | some (.ok a),h=>exact f a h
 | some (.error x),h=>exact h
theorem bi{G G':XD->Sto->Prop}{r:R β}{k:β->Prop}(h:okR G r k)(f:∀x μ,G x μ->G' x μ):okR G' r k:=by
 match r,h with
 | some (.ok a),h=>exact h
 | some (.error x),h=>exact f _ _ h
theorem ax{G:XD->Sto->Prop}{r:R β}{f:β->R γ}{k:γ->Prop}(h:okR G (r.thn f) k):okR G r (λa=>okR G (f a) k):=by
 match r,h with
 | some (.ok a),h=>exact h
 | some (.error x),h=>exact h
theorem aW(a:β)(f:β->R γ):(R.ret a).thn f=f a:=rfl
end
def ofM{β:Type}(r:M β)(μ:Sto):R β:=match r with
 | none=>none
 | some (.ok a)=>some (.ok a)
 | some (.error x)=>some (.error (x,μ))
mutual
inductive VR(K:PySem.W.Frag)(O:List Addr)(α:List (Option Addr))(H:Hp):V->Val->Prop
 | d {v:V} {x:D} (r:Rep K O H v x):VR K O α H v (.d x)
 | h {k:Nat} {a:Addr} (e:α[k]?=some (some a)):VR K O α H (.ref a) (.h k)
 | t {a:Addr} {vs:List V} {xs:List Val} (s:SqT K H a vs) (rs:VRs K O α H vs xs):VR K O α H (.ref a) (.t xs)
inductive VRs(K:PySem.W.Frag)(O:List Addr)(α:List (Option Addr))(H:Hp):List V->List Val->Prop
 | nil:VRs K O α H [] []
 | cons {v:V} {x:Val} {vs:List V} {xs:List Val} (r:VR K O α H v x) (rs:VRs K O α H vs xs):VRs K O α H (v::vs) (x::xs)
end
theorem VR.dinv{K:PySem.W.Frag}{O:List Addr}{α:List (Option Addr)}{H:Hp}{v:V}{x:D}(r:VR K O α H v (.d x)):Rep K O H v x:=by cases r;assumption
theorem VR.hinv{K:PySem.W.Frag}{O:List Addr}{α:List (Option Addr)}{H:Hp}{v:V}{k:Nat}(r:VR K O α H v (.h k)):∃a,α[k]?=some (some a)/\v=.ref a:=by
 cases r with
 | h e=>exact⟨_,e,rfl⟩
theorem VR.tinv{K:PySem.W.Frag}{O:List Addr}{α:List (Option Addr)}{H:Hp}{v:V}{xs:List Val}(r:VR K O α H v (.t xs)):∃a vs,v=.ref a/\SqT K H a vs/\VRs K O α H vs xs:=by
 cases r with
 | t s rs=>exact⟨_,_,rfl,s,rs⟩
def OR(K:PySem.W.Frag)(mg:Str->Option Value)(R0 O:List Addr)(α:List (Option Addr))(H:Hp)(a:Addr):Ob->Prop
 | .lst xs=>a∈O/\a∉R0/\∃vs,H a=some (.lst vs)/\VRs K O α H vs xs
 | .dct es=>a∈O/\a∉R0/\∃kvs,H a=some (.dK kvs)/\kvs.map (·.1)=es.map (·.1)/\VRs K O α H (kvs.map (·.2)) (es.map (·.2))
 | .ins c fs=>a∈O/\a∉R0/\∃C dx vfs,PySem.W.nsIn K mainGlobals c=some (some (.ref C))/\H a=some (.ins C dx vfs)/\vfs.map (·.1)=fs.map (·.1)/\VRs K O α H (vfs.map (·.2)) (fs.map (·.2))
 | .gone=>False
structure SR(K:PySem.W.Frag)(mg:Str->Option Value)(R0 O:List Addr)(α:List (Option Addr))(H:Hp)(μ:Sto):Prop where
 len:α.length=μ.length
 nd:∀(i j:Nat) (a:Addr),α[i]?=some (some a)->α[j]?=some (some a)->i=j
 oo:∀l∈O,Mu H l
 sub:∀l∈R0,l∈O
 at_:∀(k:Nat) (a:Addr),α[k]?=some (some a)->∃ob,μ[k]?=some ob/\OR K mg R0 O α H a ob
structure Go(O0:List Addr)(α0:List (Option Addr))(H0:Hp)(O:List Addr)(α:List (Option Addr))(H:Hp):Prop where
 keep:∀b o,(∀k:Nat,α0[k]? ≠ some (some b))->H0 b=some o->H b=some o
 ex:∀(k:Nat) (a:Addr),α0[k]?=some (some a)->α[k]?=some (some a)
 len:α0.length<=α.length
 new:∀(k:Nat) (b:Addr),α[k]?=some (some b)->(α0[k]?=some (some b))\/H0 b=none
 ol:∀l∈O,l∈O0\/H0 l=none
 live:∀b,H b=none->H0 b=none
section
variable{K:PySem.W.Frag}{mg:Str->Option Value}{R0 O O' O1:List Addr}{α α' α1:List (Option Addr)}{H H' H1:Hp}{μ μ':Sto}
theorem Go.refl:Go O α H O α H:=⟨λ_ _ _ h=>h,λ_ _ h=>h,Nat.le_refl _,λ_ _ h=>.inl h,λ_ h=>.inl h,λ_ h=>h⟩
theorem none_same(s:aG H H'){b:Addr}(h:H' b=none):H b=none:=by
 cases q:H b with
 | none=>rfl
 | some o=>rw[s b o q] at h;cases h
theorem Go.same(s:aG H H'):Go O α H O α H':=⟨λb o _ h=>s b o h,λ_ _ h=>h,Nat.le_refl _,λ_ _ h=>.inl h,λ_ h=>.inl h,λ_ h=>none_same s h⟩
theorem SR.tracked(S:SR K mg R0 O α H μ){k:Nat}{a:Addr}(h:α[k]?=some (some a)):∃o,H a=some o/\(∀xs,o≠.tup xs)/\(∀u xs,o≠.frz u (.tup xs))/\(∀u xs,o≠.frz u (.lst xs))/\(∀u xs,o≠.frz u (.dK xs))/\(((∃xs,o=.lst xs)\/(∃xs,o=.dK xs)\/∃C dx fs,o=.ins C dx fs)->a∈O):=by
 obtain⟨ob,_,h⟩:=S.at_ k a h
 cases ob with
 | lst xs =>
  obtain⟨h1,_,vs,h2,_⟩:=h
  exact⟨_,h2,(λ_ z=>nomatch z),(λ_ _ z=>nomatch z),(λ_ _ z=>nomatch z),(λ_ _ z=>nomatch z),λ_=>h1⟩
 | dct es =>
  obtain⟨h1,_,vs,h2,_⟩:=h
  exact⟨_,h2,(λ_ z=>nomatch z),(λ_ _ z=>nomatch z),(λ_ _ z=>nomatch z),(λ_ _ z=>nomatch z),λ_=>h1⟩
 | ins c fs =>
  obtain⟨h1,_,C,dx,vfs,_,h2,_⟩:=h
  exact⟨_,h2,(λ_ z=>nomatch z),(λ_ _ z=>nomatch z),(λ_ _ z=>nomatch z),(λ_ _ z=>nomatch z),λ_=>h1⟩
 | gone=>exact h.elim
theorem Go.to(S:SR K mg R0 O α H μ)(T:Go O α H O' α' H'):To O O' H H':=by
 have tr:∀{b:Addr} {u:HO},(Rd H b u)->((∃xs,u=.tup xs)\/(((∃xs,u=.lst xs)\/(∃xs,u=.dK xs))/\b∉O))->∀k:Nat,α[k]? ≠ some (some b):=λ{b u} h hu k e=>by
  obtain⟨o,h1,h2,h3,h4,h5,h6⟩:=S.tracked e
  rcases h with h | ⟨w,h⟩
  ·rw[h1] at h
   cases h
   rcases hu with ⟨xs,rfl⟩ | ⟨hu,n⟩
   ·exact h2 xs rfl
   ·exact n (h6 (hu.elim .inl λz=>.inr (.inl z)))
  ·rw[h1] at h
   cases h
   rcases hu with ⟨xs,rfl⟩ | ⟨⟨xs,rfl⟩ | ⟨xs,rfl⟩,n⟩
   ·exact h3 w xs rfl
   ·exact h4 w xs rfl
   ·exact h5 w xs rfl
 have mv:∀{b:Addr} {u:HO},Rd H b u->(∀k:Nat,α[k]? ≠ some (some b))->Rd H' b u:=λ{b u} h n=>by
  rcases h with h | ⟨w,h⟩
  ·exact .inl (T.keep _ _ n h)
  ·exact .inr ⟨w,T.keep _ _ n h⟩
 have no:∀{b:Addr} {u:HO},Rd H b u->b∉O->b∉O':=λ{b u} h n z=>by
  rcases T.ol b z with z | z
  ·exact n z
  ·rcases h with h | ⟨w,h⟩<;>(rw[z] at h;cases h)
 refine⟨λb xs h=>mv h (tr h (.inl ⟨xs,rfl⟩)),λb xs n h=>⟨no h n,mv h (tr h (.inr ⟨.inl ⟨xs,rfl⟩,n⟩))⟩,λb xs n h=>⟨no h n,mv h (tr h (.inr ⟨.inr ⟨xs,rfl⟩,n⟩))⟩,λb C dx fs n h=>⟨no (.inl h) n,T.keep _ _ (λk e=>?_) h⟩⟩
 obtain⟨o,h1,_,_,_,_,h6⟩:=S.tracked e
 rw[h] at h1
 cases h1
 exact n (h6 (.inr (.inr ⟨_,_,_,rfl⟩)))
theorem Go.trans(T:Go O α H O1 α1 H1)(U:Go O1 α1 H1 O' α' H'):Go O α H O' α' H':=by
 refine⟨λb o n h=>U.keep b o (λk e=>?_) (T.keep b o n h),λk a h=>U.ex k a (T.ex k a h),Nat.le_trans T.len U.len,λk b h=>?_,λl hl=>?_,λb h=>T.live b (U.live b h)⟩
 ·rcases T.new k b e with z | z
  ·exact n k z
  ·rw[z] at h;cases h
 ·rcases U.new k b h with z | z
  ·exact T.new k b z
  ·exact .inr (T.live b z)
 ·rcases U.ol l hl with z | z
  ·exact T.ol l z
  ·exact .inr (T.live l z)
mutual
theorem VR.to(T:To O O' H H')(e:∀(k:Nat) (a:Addr),α[k]?=some (some a)->α'[k]?=some (some a)):∀{v:V} {x:Val},VR K O α H v x->VR K O' α' H' v x
 | _,_,.d r=>.d (Rep.to T r)
 | _,_,.h h=>.h (e _ _ h)
 | _,_,.t s rs=>.t (T.sqT s) (VRs.to T e rs)
theorem VRs.to(T:To O O' H H')(e:∀(k:Nat) (a:Addr),α[k]?=some (some a)->α'[k]?=some (some a)):∀{vs:List V} {xs:List Val},VRs K O α H vs xs->VRs K O' α' H' vs xs
 | _,_,.nil=>.nil
 | _,_,.cons r rs=>.cons (VR.to T e r) (VRs.to T e rs)
end
theorem VRs.length:∀{vs:List V} {xs:List Val},VRs K O α H vs xs->vs.length=xs.length
 | _,_,.nil=>rfl
 | _,_,.cons _ rs=>congrArg (· + 1) (VRs.length rs)
theorem VRs.get:∀{vs:List V} {xs:List Val} {i:Nat} {x:Val},VRs K O α H vs xs->xs[i]?=some x->∃v,vs[i]?=some v/\VR K O α H v x
 | _,_,_,_,.nil,e=>by simp at e
 | _,_,0,_,.cons r _,e=>by simp at e;subst e;exact⟨_,rfl,r⟩
 | _,_,i+1,x,.cons _ rs,e=>by
  obtain⟨u,h1,h2⟩:=VRs.get (i:=i) (x:=x) rs (by simpa using e)
  exact⟨u,by simpa using h1,h2⟩
theorem VRs.set{v:V}{x:Val}(r:VR K O α H v x):∀{vs:List V} {xs:List Val} (i:Nat),VRs K O α H vs xs->VRs K O α H (vs.set i v) (xs.set i x)
 | _,_,_,.nil=>.nil
 | _,_,0,.cons _ rs=>.cons r rs
 | _,_,i+1,.cons q rs=>.cons q (VRs.set r i rs)
theorem VRs.append:∀{vs us:List V} {xs ys:List Val},VRs K O α H vs xs->VRs K O α H us ys->VRs K O α H (vs++us) (xs++ys)
 | _,_,_,_,.nil,s=>s
 | _,_,_,_,.cons r t,s=>.cons r (VRs.append t s)
theorem VRs.data:∀{vs:List V} {ds:List D},Reps K O H vs ds->VRs K O α H vs (ds.map Val.d)
 | _,_,.nil=>.nil
 | _,_,.cons r rs=>.cons (.d r) (VRs.data rs)
theorem VRs.undata:∀{ds:List D} {vs:List V},VRs K O α H vs (ds.map Val.d)->Reps K O H vs ds
 | [],_,.nil=>.nil
 | _::_,_,.cons r rs=>.cons r.dinv (VRs.undata rs)
theorem OR.to(T:To O O' H H')(e:∀(k:Nat) (a:Addr),α[k]?=some (some a)->α'[k]?=some (some a)){a:Addr}{ob:Ob}(ho:a∈O->a∈O')(hh:H' a=H a)(r:OR K mg R0 O α H a ob):OR K mg R0 O' α' H' a ob:=by
 cases ob with
 | lst xs=>obtain⟨h1,h2,vs,h3,h4⟩:=r;exact⟨ho h1,h2,vs,by rw[hh];exact h3,h4.to T e⟩
 | dct es=>obtain⟨h1,h2,vs,h3,h4,h5⟩:=r;exact⟨ho h1,h2,vs,by rw[hh];exact h3,h4,h5.to T e⟩
 | ins c fs=>obtain⟨h0,hr,C,dx,vfs,h1,h3,h4,h5⟩:=r;exact⟨ho h0,hr,C,dx,vfs,h1,by rw[hh];exact h3,h4,h5.to T e⟩
 | gone=>exact r
theorem SR.same(s:aG H H')(S:SR K mg R0 O α H μ):SR K mg R0 O α H' μ:=by
 refine⟨S.len,S.nd,λl hl=>(S.oo l hl).same s,S.sub,λk a h=>?_⟩
 obtain⟨ob,h1,h2⟩:=S.at_ k a h
 obtain⟨o,h3,_⟩:=S.tracked h
 exact⟨ob,h1,h2.to (To.same s) (λ_ _ h=>h) (λh=>h) (by rw[h3];exact s a o h3)⟩
theorem SR.newL(S:SR K mg R0 O α H μ){l:Addr}{vs:List V}{xs:List Val}(hl:H l=none)(r:VRs K O α H vs xs):SR K mg R0 (l::O) (α++[some l]) (upd H l (.lst vs)) (μ++[.lst xs]):=by
 have T:To O (l::O) H (upd H l (.lst vs)):=To.own hl
 have e:∀(k:Nat) (a:Addr),α[k]?=some (some a)->(α++[some l])[k]?=some (some a):=λk a h=>by
  rw[List.getElem?_append_left (List.getElem?_eq_some_iff.mp h).1];exact h
 have cs:∀(k:Nat) (a:Addr),(α++[some l])[k]?=some (some a)->α[k]?=some (some a)\/(k=α.length/\a=l):=λk a h=>by
  by_cases hk:k<α.length
  ·rw[List.getElem?_append_left hk] at h;exact .inl h
  ·rw[List.getElem?_append_right (by omega)] at h
   have h0:k-α.length=0:=by
    have:=(List.getElem?_eq_some_iff.mp h).1
    simp at this
    omega
   rw[h0] at h
   simp at h
   exact .inr ⟨by omega,h.symm⟩
 have ne:∀(k:Nat) (a:Addr),α[k]?=some (some a)->a≠l:=λk a h z=>by
  obtain⟨o,h3,_⟩:=S.tracked h
  rw[z,hl] at h3;cases h3
 refine⟨by rw[List.length_append,List.length_append,S.len];rfl,λi j a h1 h2=>?_,λb hb=>?_,λb hb=>List.mem_cons_of_mem _ (S.sub b hb),λk a h=>?_⟩
 ·rcases cs i a h1 with h1 | ⟨h1,z⟩<;>rcases cs j a h2 with h2 | ⟨h2,z2⟩
  ·exact S.nd i j a h1 h2
  ·exact absurd z2 (ne i a h1)
  ·exact absurd z (ne j a h2)
  ·omega
 ·rcases List.mem_cons.mp hb with rfl | hb
  ·exact .inl ⟨vs,aP⟩
  ·exact(S.oo b hb).new hl
 ·rcases cs k a h with h | ⟨rfl,rfl⟩
  ·obtain⟨ob,h1,h2⟩:=S.at_ k a h
   exact⟨ob,by rw[List.getElem?_append_left (List.getElem?_eq_some_iff.mp h1).1];exact h1,h2.to T e (λz=>List.mem_cons_of_mem _ z) (upd_ne (ne k a h))⟩
  ·refine⟨.lst xs,by rw[S.len,List.getElem?_append_right (Nat.le_refl _),Nat.sub_self];rfl,List.mem_cons_self,λz=>?_,vs,aP,r.to T e⟩
   obtain⟨o,ho⟩:=(S.oo a (S.sub a z)).some
   rw[hl] at ho;cases ho
theorem Go.newL{l:Addr}{o:HO}(hl:H l=none):Go O α H (l::O) (α++[some l]) (upd H l o):=by
 refine⟨λb u _ h=>by rw[upd_ne (aK h hl)];exact h,λk a h=>by rw[List.getElem?_append_left (List.getElem?_eq_some_iff.mp h).1];exact h,by rw[List.length_append];omega,λk b h=>?_,λb hb=>?_,λb h=>?_⟩
 ·by_cases hk:k<α.length
  ·rw[List.getElem?_append_left hk] at h;exact .inl h
  ·rw[List.getElem?_append_right (by omega)] at h
   have h0:k-α.length=0:=by
    have:=(List.getElem?_eq_some_iff.mp h).1
    simp at this
    omega
   rw[h0] at h
   simp at h
   exact .inr (by rw[<-h];exact hl)
 ·rcases List.mem_cons.mp hb with rfl | hb
  ·exact .inr hl
  ·exact .inl hb
 ·by_cases e:b=l
  ·rw[e];exact hl
  ·rw[upd_ne e] at h;exact h
theorem SR.setL(S:SR K mg R0 O α H μ){k:Nat}{a:Addr}{xs:List Val}{vs':List V}{xs':List Val}(h:α[k]?=some (some a))(hk:μ[k]?=some (.lst xs))(r:VRs K O α H vs' xs'):SR K mg R0 O α (upd H a (.lst vs')) (μ.set k (.lst xs')):=by
 obtain⟨ob,h1,h2⟩:=S.at_ k a h
 rw[hk] at h1
 cases h1
 obtain⟨ho,hn,vs,hv,_⟩:=h2
 have T:To O O H (upd H a (.lst vs')):=To.set hv ho
 refine⟨by rw[List.length_set];exact S.len,S.nd,λl hl=>?_,S.sub,λj b hj=>?_⟩
 ·by_cases e:l=a
  ·subst e;exact .inl ⟨vs',aP⟩
  ·exact(S.oo l hl).upd_ne e
 ·by_cases e:j=k
  ·subst e
   rw[h] at hj
   cases hj
   exact⟨.lst xs',by rw[bX,if_pos rfl,if_pos (List.getElem?_eq_some_iff.mp hk).1],ho,hn,vs',aP,r.to T λ_ _ h=>h⟩
  ·obtain⟨ob,g1,g2⟩:=S.at_ j b hj
   have hb:b≠a:=λz=>e (S.nd j k a (z▸hj) h)
   exact⟨ob,by rw[bX,if_neg (λz=>e z.symm)];exact g1,g2.to T (λ_ _ h=>h) (λz=>z) (upd_ne hb)⟩
theorem Go.setL{k:Nat}{a:Addr}{o:HO}(h:α[k]?=some (some a)):Go O α H O α (upd H a o):=by
 refine⟨λb u n hb=>?_,λ_ _ h=>h,Nat.le_refl _,λ_ _ h=>.inl h,λ_ h=>.inl h,λb hb=>?_⟩
 ·rw[upd_ne (λz:b=a=>n k (by rw[z];exact h))];exact hb
 ·by_cases e:b=a
  ·subst e;rw[aP] at hb;cases hb
  ·rw[upd_ne e] at hb;exact hb
end
end SL
namespace SL
open PySem PySem.Spec PyProof.Rows L2 DL
structure An where
 R0:List Addr
 O:List Addr
 α:List (Option Addr)
 H:Hp
structure SEv(K:PySem.W.Frag)(mg:Str->Option Value)(A:An)(O:List Addr)(α:List (Option Addr))(H:Hp)(σ:L2.St)(δ:aq)(μ:Sto):Prop where
 sr:SR K mg A.R0 O α H μ
 st:Go A.O A.α A.H O α H
 len:σ.length=δ.length
 at_:∀(i:Nat) (x:Val),δ[i]?=some (some x)->∃v,σ[i]?=some (some v)/\VR K O α H v x
def Er(K:PySem.W.Frag)(mg:Str->Option Value)(G:XD->Hp->Prop)(R0 O:List Addr)(α:List (Option Addr))(H:Hp)(x:XD)(μ:Sto):Prop:=∀O' α' H',Go O α H O' α' H'->SR K mg R0 O' α' H' μ->G x H'
def SX(X:Cx)(G:XD->Hp->Prop)(e:Expr)(f:aq->Sto->R (Val×Sto)):Prop :=
 ∃t,PE X e t/\∀(A:An) (δ:aq) (μ:Sto) (O:List Addr) (α:List (Option Addr)) (σ:L2.St) (H:Hp) (Q:VK),SEv X.K X.mg A O α H σ δ μ->okR (Er X.K X.mg G A.R0 O α H) (f δ μ) (λr=>∀v O' α' H',Go O α H O' α' H'->SR X.K X.mg A.R0 O' α' H' r.2->VR X.K O' α' H' v r.1->Q v H')->t σ H Q
def SA(X:Cx)(G:XD->Hp->Prop)(es:List Expr)(f:aq->Sto->R (List Val×Sto)):Prop :=
 (∀δ μ r,f δ μ=some (.ok r)->r.1.length=es.length)/\∃t,PA X es t/\∀(A:An) (δ:aq) (μ:Sto) (O:List Addr) (α:List (Option Addr)) (σ:L2.St) (H:Hp) (Q:List V->Hp->Prop),SEv X.K X.mg A O α H σ δ μ->okR (Er X.K X.mg G A.R0 O α H) (f δ μ) (λr=>∀vs O' α' H',Go O α H O' α' H'->SR X.K X.mg A.R0 O' α' H' r.2->VRs X.K O' α' H' vs r.1->Q vs H')->t σ H Q
def ST(X:Cx)(G:XD->Hp->Prop)(e:Expr)(f:aq->Sto->R (Bool×Sto)):Prop :=
 ∃t,PT X e t/\∀(A:An) (δ:aq) (μ:Sto) (O:List Addr) (α:List (Option Addr)) (σ:L2.St) (H:Hp) (Q:Bool->Hp->Prop),SEv X.K X.mg A O α H σ δ μ->okR (Er X.K X.mg G A.R0 O α H) (f δ μ) (λr=>∀O' α' H',Go O α H O' α' H'->SR X.K X.mg A.R0 O' α' H' r.2->Q r.1 H')->t σ H Q
inductive OutS where
 | nx (δ:aq) (μ:Sto)
 | rt (v:Val) (μ:Sto)
 | bk (δ:aq) (μ:Sto)
 | ct (δ:aq) (μ:Sto)
def FinS(K:PySem.W.Frag)(mg:Str->Option Value)(A:An)(O0:List Addr)(α0:List (Option Addr))(H0:Hp)(Dn:Ends):OutS->Prop
 | .nx δ μ=>∀O α σ H,SEv K mg A O α H σ δ μ->Go O0 α0 H0 O α H->Dn.nx σ H
 | .rt x μ=>∀v O α H,SR K mg A.R0 O α H μ->Go A.O A.α A.H O α H->VR K O α H v x->Dn.rt v H
 | .bk δ μ=>∀O α σ H,SEv K mg A O α H σ δ μ->Go O0 α0 H0 O α H->Dn.bk σ H
 | .ct δ μ=>∀O α σ H,SEv K mg A O α H σ δ μ->Go O0 α0 H0 O α H->Dn.ct σ H
theorem FinS.go{K:PySem.W.Frag}{mg:Str->Option Value}{A:An}{O0 O1:List Addr}{α0 α1:List (Option Addr)}{H0 H1:Hp}{Dn:Ends}{o:OutS}(T:Go O0 α0 H0 O1 α1 H1)(h:FinS K mg A O0 α0 H0 Dn o):FinS K mg A O1 α1 H1 Dn o:=by
 cases o with
 | nx δ μ=>exact λO α σ H E U=>h O α σ H E (T.trans U)
 | rt x μ=>exact h
 | bk δ μ=>exact λO α σ H E U=>h O α σ H E (T.trans U)
 | ct δ μ=>exact λO α σ H E U=>h O α σ H E (T.trans U)
abbrev SG:=Nat->aq->Sto->R OutS
def SS(X:Cx)(G:XD->Hp->Prop)(st:Stmt)(g:SG):Prop :=
 ∃t,PS X st t/\∀(A:An) (δ:aq) (μ:Sto) (O:List Addr) (α:List (Option Addr)) (σ:L2.St) (H:Hp) (Dn:Ends),SEv X.K X.mg A O α H σ δ μ->okR (Er X.K X.mg G A.R0 A.O A.α A.H) (g A.α.length δ μ) (FinS X.K X.mg A O α H Dn)->t Dn σ H
def SSs(X:Cx)(G:XD->Hp->Prop)(sts:List Stmt)(g:SG):Prop :=
 ∃t,PSs X sts t/\∀(A:An) (δ:aq) (μ:Sto) (O:List Addr) (α:List (Option Addr)) (σ:L2.St) (H:Hp) (Dn:Ends),SEv X.K X.mg A O α H σ δ μ->okR (Er X.K X.mg G A.R0 A.O A.α A.H) (g A.α.length δ μ) (FinS X.K X.mg A O α H Dn)->t Dn σ H
section
variable{K:PySem.W.Frag}{mg:Str->Option Value}{A:An}{R0 O O' O1:List Addr}{α α' α1:List (Option Addr)}{H H' H1:Hp}{μ μ':Sto}{σ:L2.St}{δ:aq}{G:XD->Hp->Prop}
theorem SEv.go(E:SEv K mg A O α H σ δ μ)(T:Go O α H O' α' H')(S:SR K mg A.R0 O' α' H' μ'):SEv K mg A O' α' H' σ δ μ' :=
 ⟨S,E.st.trans T,E.len,λi x h=>let ⟨v,h1,h2⟩:=E.at_ i x h;⟨v,h1,h2.to (T.to E.sr) T.ex⟩⟩
theorem SEv.same(E:SEv K mg A O α H σ δ μ)(s:aG H H'):SEv K mg A O α H' σ δ μ:=E.go (Go.same s) (E.sr.same s)
theorem SEv.set{i:Nat}{v:V}{x:Val}(E:SEv K mg A O α H σ δ μ)(r:VR K O α H v x):SEv K mg A O α H (σ.set i (some v)) (δ.set i (some x)) μ:=by
 refine⟨E.sr,E.st,by rw[List.length_set,List.length_set,E.len],λj y h=>?_⟩
 rw[bX] at h
 by_cases hij:i=j
 ·subst hij
  rw[if_pos rfl] at h
  split at h
  ·cases h
   rename_i hl
   exact⟨v,by rw[bX,if_pos rfl,if_pos (by rw[E.len];exact hl)],r⟩
  ·cases h
 ·rw[if_neg hij] at h
  obtain⟨w,h1,h2⟩:=E.at_ j y h
  exact⟨w,by rw[bX,if_neg hij];exact h1,h2⟩
theorem Er.go{x:XD}(T:Go O α H O' α' H')(h:Er K mg G R0 O α H x μ):Er K mg G R0 O' α' H' x μ:=λO2 α2 H2 U S=>h O2 α2 H2 (T.trans U) S
def v0:Option Val->Sl
 | some (.d x)=>.vl x
 | _=>.un
def view(δ:aq):DS:=δ.map v0
theorem view_get{i:Nat}{s:Sl}(h:(view δ)[i]?=some s):(∃x,δ[i]?=some (some (.d x))/\s=.vl x)\/s=.un:=by
 unfold view at h
 rw[List.getElem?_map] at h
 cases e:δ[i]? with
 | none=>rw[e] at h;cases h
 | some o =>
  rw[e] at h
  cases o with
  | none=>cases h;exact .inr rfl
  | some x =>
   cases x with
   | d x=>cases h;exact .inl ⟨x,rfl,rfl⟩
   | h k=>cases h;exact .inr rfl
   | t xs=>cases h;exact .inr rfl
theorem SEv.view(E:SEv K mg A O α H σ δ μ):Ev K H O H σ (view δ):=by
 refine⟨aG.refl H,E.sr.oo,by unfold SL.view;rw[List.length_map];exact E.len,λi s h=>?_,λi j l ds es hij h1=>?_⟩
 ·rcases view_get h with ⟨x,h1,rfl⟩ | rfl
  ·obtain⟨v,g1,g2⟩:=E.at_ i _ h1
   exact⟨v,g1,g2.dinv⟩
  ·trivial
 ·rcases view_get h1 with ⟨x,_,z⟩ | z<;>cases z
def fw:List Val->Option (List D)
 | []=>some []
 | .d x::r=>(fw r).map (x :: ·)
 | _::_=>none
theorem ij:∀{xs:List Val} {ds:List D},fw xs=some ds->xs=ds.map Val.d
 | [],ds,h=>by cases h;rfl
 | .d x::r,ds,h=>by
  unfold fw at h
  cases e:fw r with
  | none=>rw[e] at h;cases h
  | some q=>rw[e] at h;cases h;rw[ij e];rfl
theorem dataOf_map(ds:List D):fw (ds.map Val.d)=some ds:=by
 induction ds with
 | nil=>rfl
 | cons d r ih=>show(fw (r.map Val.d)).map (d :: ·)=_;rw[ih];rfl
def lv1(n:Nat)(μ:Sto):Val->Option D
 | .d x=>some x
 | .h k=>if n<=k then (match μ[k]? with
  | some (.lst xs)=>(fw xs).map PyData.list
  | _=>none) else none
 | .t _=>none
def lv1s(n:Nat)(μ:Sto):List Val->Option (List D)
 | []=>some []
 | x::xs=>match lv1 n μ x,lv1s n μ xs with
  | some d,some ds=>some (d::ds)
  | _,_=>none
def lv2(n:Nat)(μ:Sto):Val->Option D
 | .d x=>some x
 | .h k=>if n<=k then (match μ[k]? with
  | some (.lst xs)=>(lv1s n μ xs).map PyData.list
  | _=>none) else none
 | .t xs=>(lv1s n μ xs).map PyData.tuple
def v1(n:Nat)(μ:Sto):Option Val->Sl
 | some x=>match lv2 n μ x with
  | some d=>.vl d
  | none=>.un
 | none=>.un
def viewL(n:Nat)(μ:Sto)(δ:aq):DS:=δ.map (v1 n μ)
theorem lv1s_data(n:Nat)(μ:Sto)(ds:List D):lv1s n μ (ds.map Val.d)=some ds:=by
 induction ds with
 | nil=>rfl
 | cons d ds ih=>show(match lv1 n μ (.d d),lv1s n μ (ds.map Val.d) with | some d,some ds=>some (d::ds) | _,_=>none)=_;rw[ih];rfl
theorem v1_of{n:Nat}{μ:Sto}{x:Val}{d:D}(h:lv2 n μ x=some d):v1 n μ (some x)=.vl d:=by
 show(match lv2 n μ x with | some d=>Sl.vl d | none=>.un)=_
 rw[h]
theorem lv2_h{n k:Nat}{μ:Sto}{xs:List Val}{ds:List D}(hn:n<=k)(h:μ[k]?=some (.lst xs))(hx:lv1s n μ xs=some ds):lv2 n μ (.h k)=some (.list ds):=by
 show(if n<=k then (match μ[k]? with | some (.lst xs)=>(lv1s n μ xs).map PyData.list | _=>none) else none)=_
 rw[if_pos hn,h]
 show(lv1s n μ xs).map PyData.list=_
 rw[hx]
 rfl
theorem v1_h{n k:Nat}{μ:Sto}{ds:List D}(hn:n<=k)(h:μ[k]?=some (.lst (ds.map Val.d))):v1 n μ (some (.h k))=.vl (.list ds):=v1_of (lv2_h hn h (lv1s_data n μ ds))
section
variable{n:Nat}
theorem lv1_rep(S:SR K mg R0 O α H μ)(T:To O O' H H)(hn:∀(k:Nat) (a:Addr) (xs:List Val),α[k]?=some (some a)->n<=k->μ[k]?=some (.lst xs)->a∉O'){v:V}{x:Val}{d:D}(r:VR K O α H v x)(h:lv1 n μ x=some d):Rep K O' H v d:=by
 cases x with
 | d x=>cases h;exact Rep.to T r.dinv
 | t xs=>cases h
 | h k =>
  obtain⟨a,ha,rfl⟩:=r.hinv
  have h:(if n<=k then (match μ[k]? with | some (.lst xs)=>(fw xs).map PyData.list | _=>none) else none)=some d:=h
  by_cases hk:n<=k
  ·rw[if_pos hk] at h
   obtain⟨ob,g1,g2⟩:=S.at_ k a ha
   rw[g1] at h
   cases ob with
   | lst xs =>
    have h:(fw xs).map PyData.list=some d:=h
    cases e:fw xs with
    | none=>rw[e] at h;cases h
    | some ds =>
     rw[e] at h
     cases h
     obtain⟨_,_,vs,g5,g6⟩:=g2
     rw[ij e] at g6
     exact .lst (.inl g5) (hn k a xs ha hk g1) (g6.undata.to T)
   | dct es=>cases h
   | ins c fs=>cases h
   | gone=>cases h
  ·rw[if_neg hk] at h;cases h
theorem lv1s_rep(S:SR K mg R0 O α H μ)(T:To O O' H H)(hn:∀(k:Nat) (a:Addr) (xs:List Val),α[k]?=some (some a)->n<=k->μ[k]?=some (.lst xs)->a∉O'):∀{xs:List Val} {vs:List V} {ds:List D},VRs K O α H vs xs->lv1s n μ xs=some ds->Reps K O' H vs ds
 | [],_,ds,.nil,h=>by cases h;exact .nil
 | x::xs,_,ds,.cons r rs,h=>by
  unfold lv1s at h
  split at h
  ·rename_i d ds' e1 e2
   cases h
   exact .cons (lv1_rep S T hn r e1) (lv1s_rep S T hn rs e2)
  ·cases h
theorem lv2_rep(S:SR K mg R0 O α H μ)(T:To O O' H H)(hn:∀(k:Nat) (a:Addr) (xs:List Val),α[k]?=some (some a)->n<=k->μ[k]?=some (.lst xs)->a∉O'){v:V}{x:Val}{d:D}(r:VR K O α H v x)(h:lv2 n μ x=some d):Rep K O' H v d:=by
 cases x with
 | d x=>cases h;exact Rep.to T r.dinv
 | t xs =>
  obtain⟨a,vs,rfl,hs,rs⟩:=r.tinv
  have h:(lv1s n μ xs).map PyData.tuple=some d:=h
  cases e:lv1s n μ xs with
  | none=>rw[e] at h;cases h
  | some ds =>
   rw[e] at h
   cases h
   exact .tup hs (lv1s_rep S T hn rs e)
 | h k =>
  obtain⟨a,ha,rfl⟩:=r.hinv
  have h:(if n<=k then (match μ[k]? with | some (.lst xs)=>(lv1s n μ xs).map PyData.list | _=>none) else none)=some d:=h
  by_cases hk:n<=k
  ·rw[if_pos hk] at h
   obtain⟨ob,g1,g2⟩:=S.at_ k a ha
   rw[g1] at h
   cases ob with
   | lst xs =>
    have h:(lv1s n μ xs).map PyData.list=some d:=h
    cases e:lv1s n μ xs with
    | none=>rw[e] at h;cases h
    | some ds =>
     rw[e] at h
     cases h
     obtain⟨_,_,vs,g5,g6⟩:=g2
     exact .lst (.inl g5) (hn k a xs ha hk g1) (lv1s_rep S T hn g6 e)
   | dct es=>cases h
   | ins c fs=>cases h
   | gone=>cases h
  ·rw[if_neg hk] at h;cases h
end
theorem viewL_get{n i:Nat}{s:Sl}(h:(viewL n μ δ)[i]?=some s):(∃x d,δ[i]?=some (some x)/\lv2 n μ x=some d/\s=.vl d)\/s=.un:=by
 unfold viewL at h
 rw[List.getElem?_map] at h
 cases e:δ[i]? with
 | none=>rw[e] at h;cases h
 | some o =>
  rw[e] at h
  cases o with
  | none=>cases h;exact .inr rfl
  | some x =>
   have h:some (match lv2 n μ x with | some d=>Sl.vl d | none=>.un)=some s:=h
   cases e2:lv2 n μ x with
   | none=>rw[e2] at h;cases h;exact .inr rfl
   | some d=>rw[e2] at h;cases h;exact .inl ⟨x,d,rfl,e2,rfl⟩
theorem SEv.viewL{n:Nat}(E:SEv K mg A O α H σ δ μ)(hs:∀l∈O',l∈O)(hn:∀(k:Nat) (a:Addr) (xs:List Val),α[k]?=some (some a)->n<=k->μ[k]?=some (.lst xs)->a∉O'):Ev K H O' H σ (SL.viewL n μ δ):=by
 have T:To O O' H H:=.less hs
 refine⟨aG.refl H,λl hl=>E.sr.oo l (hs l hl),by unfold SL.viewL;rw[List.length_map];exact E.len,λi s h=>?_,λi j l ds es hij h1=>?_⟩
 ·rcases viewL_get h with ⟨x,d,h1,h2,rfl⟩ | rfl
  ·obtain⟨v,g1,g2⟩:=E.at_ i _ h1
   exact⟨v,g1,lv2_rep E.sr T hn g2 h2⟩
  ·trivial
 ·rcases viewL_get h1 with ⟨x,d,_,_,z⟩ | z<;>cases z
end
section
variable{X:Cx}{G:XD->Hp->Prop}{a b c e:Expr}{es b7:List Expr}{pos pos':Pos}{st:Stmt}{sts sts':List Stmt}
def b9(f:DS->M D):aq->Sto->R (Val×Sto):=λδ μ=>(ofM (f (view δ)) μ).thn λd=>R.ret (.d d,μ)
theorem ez{β:Type}{K:PySem.W.Frag}{mg:Str->Option Value}{R0 O:List Addr}{α:List (Option Addr)}{H:Hp}{μ:Sto}{r:M β}{k:β->Prop}(S:SR K mg R0 O α H μ)(h:okR (Er K mg G R0 O α H) (ofM r μ) k):ok (GS G H) r k:=by
 match r,h with
 | some (.ok a),h=>exact h
 | some (.error x),h=>exact λH' s=>h O α H' (Go.same s) (S.same s)
theorem bO{f:DS->M D}(h:PD X G e f):SX X G e (b9 f):=by
 obtain⟨t,p,h⟩:=h
 refine⟨t,p,λA δ μ O α σ H Q E k=>?_⟩
 refine h (view δ) O σ H Q E.view (al (ez E.sr (ax k)) λd z v H' s r=>z v O α H' (Go.same s) (E.sr.same s) (.d r))
def sLend(f:DS->M D):aq->Sto->R (Val×Sto):=λδ μ=>(ofM (f (viewL 0 μ δ)) μ).thn λd=>if bM d=true then R.ret (.d d,μ) else none
theorem sx_lend{f:DS->M D}(h:PD X G e f):SX X G e (sLend f):=by
 obtain⟨t,p,h⟩:=h
 refine⟨t,p,λA δ μ O α σ H Q E k=>?_⟩
 refine h (viewL 0 μ δ) A.R0 σ H Q (E.viewL E.sr.sub λk a xs ha _ hx=>?_) (al (ez E.sr (ax k)) λd z v H' s r=>?_)
 ·obtain⟨ob,h1,h2⟩:=E.sr.at_ k a ha
  rw[hx] at h1
  cases h1
  exact h2.2.1
 ·by_cases hf:bM d=true
  ·rw[if_pos hf] at z
   exact z v O α H' (Go.same s) (E.sr.same s) (.d (r.flat hf))
  ·rw[if_neg hf] at z;exact z.elim
end
end SL
namespace SL
open PySem PySem.Spec PyProof.Rows L2 DL
section
variable{X:Cx}{G:XD->Hp->Prop}{a b c e ix:Expr}{es b7:List Expr}{pos pos' tpos:Pos}{st:Stmt}{sts sts':List Stmt}
def aN(i:Nat):aq->Sto->R (Val×Sto):=λδ μ=>match δ[i]? with
 | some (some x)=>R.ret (x,μ)
 | _=>none
theorem aH{i:Nat}(h:PE X e (tVar i)):SX X G e (aN i):=by
 refine⟨_,h,λA δ μ O α σ H Q E k=>?_⟩
 unfold aN at k
 split at k
 ·rename_i x hx
  obtain⟨v,h1,h2⟩:=E.at_ i x hx
  exact⟨v,h1,k v O α H Go.refl E.sr h2⟩
 ·exact k.elim
def sNil:aq->Sto->R (List Val×Sto):=λ_ μ=>R.ret ([],μ)
def cA(f:aq->Sto->R (Val×Sto))(fa:aq->Sto->R (List Val×Sto)):aq->Sto->R (List Val×Sto):=λδ μ=>(f δ μ).thn λr=>(fa δ r.2).thn λq=>R.ret (r.1::q.1,q.2)
theorem sa_nil:SA X G [] sNil:=by
 refine⟨λδ μ r h=>by cases h;rfl,_,pa_nil,λA δ μ O α σ H Q E k=>k [] O α H Go.refl E.sr .nil⟩
theorem dc{f:aq->Sto->R (Val×Sto)}{fa:aq->Sto->R (List Val×Sto)}(ha:SX X G e f)(hr:SA X G es fa)(hs:starEach (e::es) X.env=(false,eval e X.env)::starEach es X.env:=by rfl):SA X G (e::es) (cA f fa):=by
 obtain⟨t,p,ha⟩:=ha
 obtain⟨hl,u,q,hr⟩:=hr
 refine⟨λδ μ r h=>?_,_,gp p q hs,λA δ μ O α σ H Q E k=>?_⟩
 ·unfold cA at h
  cases e1:f δ μ with
  | none=>rw[e1] at h;cases h
  | some r1 =>
   rw[e1] at h
   cases r1 with
   | error x=>cases h
   | ok x =>
    have h:R.thn (fa δ x.2) _=_:=h
    cases e2:fa δ x.2 with
    | none=>rw[e2] at h;cases h
    | some r2 =>
     rw[e2] at h
     cases r2 with
     | error x=>cases h
     | ok xs =>
      cases h
      show(x.1::xs.1).length=_
      rw[List.length_cons,List.length_cons,hl δ x.2 xs e2]
 ·refine ha A δ μ O α σ H _ E (az (ax k) λr z v O1 α1 H1 T1 S1 r1=>?_)
  refine hr A δ r.2 O1 α1 σ H1 _ (E.go T1 S1) (az (bi (ax z) λx μ h=>Er.go T1 h) λq y vs O2 α2 H2 T2 S2 rs=>?_)
  exact y (v::vs) O2 α2 H2 (T1.trans T2) S2 (.cons (r1.to (T2.to S1) T2.ex) rs)
def iF(fb:DS->M Bool):aq->Sto->R (Bool×Sto):=λδ μ=>(ofM (fb (viewL 0 μ δ)) μ).thn λb=>R.ret (b,μ)
theorem st_test{fb:DS->M Bool}(h:PDT X G e fb):ST X G e (iF fb):=by
 obtain⟨t,p,h⟩:=h
 refine⟨t,p,λA δ μ O α σ H Q E k=>?_⟩
 refine h (viewL 0 μ δ) A.R0 σ H Q (E.viewL E.sr.sub λk a xs ha _ hx=>?_) (al (ez E.sr (ax k)) λd z H' s=>z O α H' (Go.same s) (E.sr.same s))
 obtain⟨ob,h1,h2⟩:=E.sr.at_ k a ha
 rw[hx] at h1
 cases h1
 exact h2.2.1
def sNext:SG:=λ_ δ μ=>R.ret (.nx δ μ)
def bG(g h:SG):SG:=λn δ μ=>(g n δ μ).thn λo=>match o with
 | .nx δ' μ'=>h n δ' μ'
 | o=>R.ret o
theorem iR:SSs X G [] sNext:=⟨_,pss_nil,λA δ μ O α σ H Dn E k=>k O α σ H E Go.refl⟩
theorem bD{g:SG}(h:SS X G st g):SSs X G [st] g:=by
 obtain⟨t,p,h⟩:=h
 exact⟨_,pss_one p,h⟩
theorem av{g h:SG}(h1:SS X G st g)(h2:SSs X G sts h):SSs X G (st::sts) (bG g h):=by
 obtain⟨t,p,h1⟩:=h1
 obtain⟨u,q,h2⟩:=h2
 refine⟨_,pss_cons p q,λA δ μ O α σ H Dn E k=>?_⟩
 refine h1 A δ μ O α σ H _ E (az (ax k) λo z=>?_)
 cases o with
 | nx δ' μ'=>exact λO' α' σ' H' E' T=>h2 A δ' μ' O' α' σ' H' Dn E' (az z λo w=>w.go T)
 | rt v μ'=>exact z
 | bk δ' μ'=>exact z
 | ct δ' μ'=>exact z
def sIf(c:aq->Sto->R (Bool×Sto))(g h:SG):SG:=λn δ μ=>(c δ μ).thn λr=>if r.1=true then g n δ r.2 else h n δ r.2
theorem ss_if{fc:aq->Sto->R (Bool×Sto)}{g h:SG}(hc:ST X G c fc)(h1:SSs X G sts g)(h2:SSs X G sts' h):SS X G (.If c sts sts' pos) (sIf fc g h):=by
 obtain⟨t,p,hc⟩:=hc
 obtain⟨u,q,h1⟩:=h1
 obtain⟨w,r,h2⟩:=h2
 refine⟨_,ps_if p q r,λA δ μ O α σ H Dn E k=>?_⟩
 refine hc A δ μ O α σ H _ E (az (bi (ax k) λx μ h=>Er.go E.st h) λr z O1 α1 H1 T1 S1=>?_)
 cases hb:r.1 with
 | true =>
  rw[hb,if_pos rfl] at z
  rw[if_pos rfl]
  exact h1 A δ r.2 O1 α1 σ H1 Dn (E.go T1 S1) (az z λo w=>w.go T1)
 | false =>
  rw[hb,if_neg Bool.false_ne_true] at z
  rw[if_neg Bool.false_ne_true]
  exact h2 A δ r.2 O1 α1 σ H1 Dn (E.go T1 S1) (az z λo w=>w.go T1)
def dh(i:Nat)(f:aq->Sto->R (Val×Sto)):SG:=λ_ δ μ=>(f δ μ).thn λr=>R.ret (.nx (δ.set i (some r.1)) r.2)
theorem bI{i:Nat}{x:Str}{f:aq->Sto->R (Val×Sto)}(hN:X.N.Nodup)(hi:X.N[i]?=some x)(hx:Loc X.env.scope x)(he:SX X G e f)(hs:swapsWith e (some (.Name x pos')) pos.line X.env=pure false:=by rfl)(hf:X.fn x=true\/X.env.scope.names.lookup x=some .local:=by first | exact .inl rfl | exact .inr rfl | assumption) :
  SS X G (.Assign [.Name x pos'] e pos) (dh i f):=by
 obtain⟨t,p,he⟩:=he
 refine⟨_,ps_set hN hi hx p hs hf,λA δ μ O α σ H Dn E k=>?_⟩
 refine he A δ μ O α σ H _ E (az (bi (ax k) λx μ h=>Er.go E.st h) λr z v O1 α1 H1 T1 S1 r1=>?_)
 exact z O1 α1 _ H1 ((E.go T1 S1).set r1) T1
def sNewL(i:Nat)(fn:DS->M (List D)):SG:=λ_ δ μ=>(ofM (fn (view δ)) μ).thn λds=>R.ret (.nx (δ.set i (some (.h μ.length))) (μ++[.lst (ds.map Val.d)]))
theorem ss_newL{i:Nat}{x:Str}{fn:DS->M (List D)}(hN:X.N.Nodup)(hi:X.N[i]?=some x)(hx:Loc X.env.scope x)(he:PDN X G e fn)(hs:swapsWith e (some (.Name x pos')) pos.line X.env=pure false:=by rfl)(hf:X.fn x=true\/X.env.scope.names.lookup x=some .local:=by first | exact .inl rfl | exact .inr rfl | assumption) :
  SS X G (.Assign [.Name x pos'] e pos) (sNewL i fn):=by
 obtain⟨t,p,he⟩:=he
 refine⟨_,ps_set hN hi hx p hs hf,λA δ μ O α σ H Dn E k=>?_⟩
 refine he (view δ) O σ H _ E.view (al (ez E.sr (bi (ax k) λx μ h=>Er.go E.st h)) λds z l xs H1 s1 hl rx=>?_)
 have E1:=E.same s1
 have S1:=E1.sr.newL hl (VRs.data (α:=α) rx)
 refine z (l::O) (α++[some l]) _ _ ((E1.go (Go.newL hl) S1).set (.h ?_)) ((Go.same s1).trans (Go.newL hl))
 rw[<-E.sr.len,List.getElem?_append_right (Nat.le_refl _),Nat.sub_self]
 rfl
def sSetI(i:Nat)(fi f:aq->Sto->R (Val×Sto)):SG:=λ_ δ μ=>(f δ μ).thn λr=>(match δ[i]? with
 | some (some (.h k))=>(fi δ r.2).thn λq=>match q.1,q.2[k]? with
  | .d (.int n),some (.lst xs)=>match ixN xs.length n with
   | some j=>R.ret (.nx δ (q.2.set k (.lst (xs.set j r.1))))
   | none=>none
  | _,_=>none
 | _=>none)
theorem ss_setI{i:Nat}{fi f:aq->Sto->R (Val×Sto)}(hv:PE X a (tVar i))(hi:SX X G ix fi)(he:SX X G e f)
  (ha:∀v,assign (.Subscript a ix tpos) X.env v=(do
   let ov <- holding [v] (eval a X.env)
   let iv <- holding [v,ov] (eval ix X.env)
   standAt tpos
   holding [v,ov,iv] (setItem ov iv v)
   release [v,ov,iv] []):=by intro _;rfl)
  (hs:swapsWithSole [.Subscript a ix tpos] e pos.line X.env=pure false:=by rfl) (hw:swappedStores [.Subscript a ix tpos] e X.env=pure none:=by rfl)
  (h1:(assignEach [.Subscript a ix tpos] X.env).map (·.2)=[assign (.Subscript a ix tpos) X.env]:=by rfl):SS X G (.Assign [.Subscript a ix tpos] e pos) (sSetI i fi f):=by
 obtain⟨t,p,he⟩:=he
 obtain⟨u,q,hi⟩:=hi
 refine⟨_,ps_asg p (pg_sub hv q set_list ha) hs hw h1,λA δ μ O α σ H Dn E k=>?_⟩
 refine he A δ μ O α σ H _ E (az (bi (ax k) λx μ h=>Er.go E.st h) λr z v O1 α1 H1 T1 S1 r1=>?_)
 have E1:=E.go T1 S1
 split at z
 ·rename_i kk hd
  obtain⟨w,q1,q2⟩:=E1.at_ i _ hd
  obtain⟨l,q3,rfl⟩:=q2.hinv
  refine⟨.ref l,q1,?_⟩
  refine hi A δ r.2 O1 α1 σ H1 _ E1 (az (bi (ax z) λx μ h=>Er.go E1.st h) λqq y kv O2 α2 H2 T2 S2 r2=>?_)
  split at y
  ·rename_i n xs hq hk
   rw[hq] at r2
   have hkv:=Rep.int_inv r2.dinv
   subst hkv
   have q3':=T2.ex _ _ q3
   obtain⟨ob,g1,g2⟩:=S2.at_ kk l q3'
   rw[hk] at g1
   cases g1
   obtain⟨g3,g4,vs,g5,g6⟩:=g2
   cases hj:ixN xs.length n with
   | none=>rw[hj] at y;exact y.elim
   | some j =>
    rw[hj] at y
    refine⟨l,vs,n,j,rfl,rfl,g5,by rw[g6.length];exact hj,?_⟩
    have r1':=r1.to (T2.to S1) T2.ex
    exact y O2 α2 σ _ (((E1.go T2 S2)).go (Go.setL q3') (S2.setL q3' hk (g6.set r1' j))) (T1.trans (T2.trans (Go.setL q3')))
  ·exact y.elim
 ·exact z.elim
def sRet(f:aq->Sto->R (Val×Sto)):SG:=λ_ δ μ=>(f δ μ).thn λr=>R.ret (.rt r.1 r.2)
theorem ss_ret{f:aq->Sto->R (Val×Sto)}(he:SX X G e f):SS X G (.Return (some e) pos) (sRet f):=by
 obtain⟨t,p,he⟩:=he
 refine⟨_,ps_ret p,λA δ μ O α σ H Dn E k=>?_⟩
 exact he A δ μ O α σ H _ E (az (bi (ax k) λx μ h=>Er.go E.st h) λr z v O1 α1 H1 T1 S1 r1=>z v O1 α1 H1 S1 (E.st.trans T1) r1)
mutual
def closedV(n:Nat):Val->Bool
 | .d _=>true
 | .h k=>decide (k<n)
 | .t xs=>iL n xs
def iL(n:Nat):List Val->Bool
 | []=>true
 | x::xs=>closedV n x&&iL n xs
end
def closedO(n:Nat):Ob->Bool
 | .lst xs=>iL n xs
 | .dct es=>iL n (es.map (·.2))
 | .ins _ fs=>iL n (fs.map (·.2))
 | .gone=>true
def sRetF(f:DS->M D):SG:=λn δ μ=>if (μ.take n).all (closedO n)=true then (ofM (f (viewL n μ δ)) μ).thn λd=>R.ret (.rt (.d d) (μ.take n)) else none
section
variable{K:PySem.W.Frag}{mg:Str->Option Value}{R0 O O':List Addr}{α α':List (Option Addr)}{H H':Hp}{μ:Sto}
mutual
theorem VR.cut{n:Nat}(T:To O O' H H'):∀{v:V} {x:Val},closedV n x=true->VR K O α H v x->VR K O' (α.take n) H' v x
 | _,_,_,.d r=>.d (Rep.to T r)
 | _,.h k,hc,.h e=>by
  have hk:k<n:=of_decide_eq_true hc
  exact .h (by rw[List.getElem?_take,if_pos hk];exact e)
 | _,.t xs,hc,.t s rs=>.t (T.sqT s) (VRs.cut T hc rs)
theorem VRs.cut{n:Nat}(T:To O O' H H'):∀{vs:List V} {xs:List Val},iL n xs=true->VRs K O α H vs xs->VRs K O' (α.take n) H' vs xs
 | _,_,_,.nil=>.nil
 | _,_::_,hc,.cons r rs=>.cons (VR.cut T (Bool.and_eq_true_iff.mp hc).1 r) (VRs.cut T (Bool.and_eq_true_iff.mp hc).2 rs)
end
theorem SR.cut{n:Nat}(S:SR K mg R0 O α H μ)(hs:∀l∈O',l∈O)(hr:∀l∈R0,l∈O')(hk:∀(k:Nat) (a:Addr),k<n->α[k]?=some (some a)->a∈O->a∈O')(hc:(μ.take n).all (closedO n)=true):SR K mg R0 O' (α.take n) H (μ.take n):=by
 have T:To O O' H H:=.less hs
 have gt:∀(k:Nat) (a:Addr),(α.take n)[k]?=some (some a)->k<n/\α[k]?=some (some a):=λk a h=>by
  rw[List.getElem?_take] at h
  split at h
  ·rename_i hk;exact⟨hk,h⟩
  ·cases h
 refine⟨by rw[List.length_take,List.length_take,S.len],λi j a h1 h2=>S.nd i j a (gt i a h1).2 (gt j a h2).2,λl hl=>S.oo l (hs l hl),hr,λk a h=>?_⟩
 obtain⟨h1,h2⟩:=gt k a h
 obtain⟨ob,g1,g2⟩:=S.at_ k a h2
 have gk:(μ.take n)[k]?=some ob:=by rw[List.getElem?_take,if_pos h1];exact g1
 have hco:closedO n ob=true:=List.all_eq_true.mp hc ob (List.mem_of_getElem? gk)
 refine⟨ob,gk,?_⟩
 cases ob with
 | lst xs=>obtain⟨p1,p2,vs,p3,p4⟩:=g2;exact⟨hk k a h1 h2 p1,p2,vs,p3,p4.cut T hco⟩
 | dct es =>
  obtain⟨p1,p2,kvs,p3,p4,p5⟩:=g2
  exact⟨hk k a h1 h2 p1,p2,kvs,p3,p4,p5.cut T hco⟩
 | ins c fs =>
  obtain⟨p1,pr,C,dx,vfs,p2,p3,p4,p5⟩:=g2
  exact⟨hk k a h1 h2 p1,pr,C,dx,vfs,p2,p3,p4,p5.cut T hco⟩
 | gone=>exact g2
end
theorem ss_retF{f:DS->M D}(h:PD X G e f):SS X G (.Return (some e) pos) (sRetF f):=by
 obtain⟨t,p,h⟩:=h
 refine⟨_,ps_ret p,λA δ μ O α σ H Dn E k=>?_⟩
 unfold sRetF at k
 by_cases hc:(μ.take A.α.length).all (closedO A.α.length)=true
 ·rw[if_pos hc] at k
  obtain⟨O',hO'⟩:∃O':List Addr,∀l,l∈O'↔l∈O/\∀k:Nat,A.α.length<=k->α[k]? ≠ some (some l):=by
   refine⟨O.filter λl=>decide ((some l)∉α.drop A.α.length),λl=>?_⟩
   rw[List.mem_filter,decide_eq_true_eq]
   refine and_congr Iff.rfl ⟨λhn k hk he=>hn (List.mem_iff_getElem?.mpr ⟨k-A.α.length,by rw[List.getElem?_drop,show A.α.length+(k-A.α.length)=k by omega];exact he⟩),λhn hm=>?_⟩
   obtain⟨j,hj⟩:=List.mem_iff_getElem?.mp hm
   rw[List.getElem?_drop] at hj
   exact hn _ (by omega) hj
  have hs:∀l∈O',l∈O:=λl hl=>((hO' l).mp hl).1
  refine h (viewL A.α.length μ δ) O' σ H _ (E.viewL hs λk a xs ha hk _ hm=>((hO' a).mp hm).2 k hk ha) (al (ez E.sr (bi (ax k) λx μ h=>Er.go E.st h)) λd z v H' s r=>?_)
  have E':=E.same s
  have hlt:∀(k:Nat) (a:Addr),k<A.α.length->α[k]?=some (some a)->a∈O->a∈O':=λk a hk ha ho=>(hO' a).mpr ⟨ho,λj hj hz=>by
   have:=E.sr.nd k j a ha hz
   omega⟩
  refine z v O' (α.take A.α.length) H' (E'.sr.cut hs (λl hl=>(hO' l).mpr ⟨E.sr.sub l hl,λk _ hz=>?_⟩) hlt hc) ?_ (.d r)
  ·obtain⟨ob,g1,g2⟩:=E.sr.at_ k l hz
   cases ob with
   | lst xs=>exact g2.2.1 hl
   | dct es=>exact g2.2.1 hl
   | ins c fs=>exact g2.2.1 hl
   | gone=>exact g2
  ·have g:=E'.st
   refine⟨g.keep,λk a hk=>?_,?_,λk b hk=>?_,λl hl=>g.ol l (hs l hl),g.live⟩
   ·rw[List.getElem?_take,if_pos (List.getElem?_eq_some_iff.mp hk).1];exact g.ex k a hk
   ·rw[List.length_take];have:=g.len;omega
   ·rw[List.getElem?_take] at hk
    split at hk
    ·exact g.new k b hk
    ·cases hk
 ·rw[if_neg hc] at k;exact k.elim
def sDrop(f:aq->Sto->R (Val×Sto)):SG:=λ_ δ μ=>(f δ μ).thn λr=>R.ret (.nx δ r.2)
theorem iS{f:aq->Sto->R (Val×Sto)}(he:SX X G e f)(hs:swapsWith e none pos.line X.env=pure false:=by rfl):SS X G (.Expr e pos) (sDrop f):=by
 obtain⟨t,p,he⟩:=he
 refine⟨_,ps_expr p hs,λA δ μ O α σ H Dn E k=>?_⟩
 exact he A δ μ O α σ H _ E (az (bi (ax k) λx μ h=>Er.go E.st h) λr z v O1 α1 H1 T1 S1 r1=>z O1 α1 σ H1 (E.go T1 S1) T1)
def SGT(X:Cx)(tg:Expr)(g:D->aq->Option aq):Prop :=
 ∃t,PG X tg t/\∀(A:An) (δ δ':aq) (d:D) (v:V) (O:List Addr) (α:List (Option Addr)) (σ:L2.St) (μ:Sto) (H:Hp) (Q:L2.St->Hp->Prop),SEv X.K X.mg A O α H σ δ μ->Rep X.K O H v d->g d δ=some δ'->(∀σ',SEv X.K X.mg A O α H σ' δ' μ->Q σ' H)->t v σ H Q
def SGTs(X:Cx)(ts:List Expr)(g:List D->aq->Option aq):Prop :=
 ∃t,PGs X ts t/\∀(A:An) (δ δ':aq) (ds:List D) (vs:List V) (O:List Addr) (α:List (Option Addr)) (σ:L2.St) (μ:Sto) (H:Hp) (Q:L2.St->Hp->Prop),SEv X.K X.mg A O α H σ δ μ->Reps X.K O H vs ds->g ds δ=some δ'->(∀σ',SEv X.K X.mg A O α H σ' δ' μ->Q σ' H)->t vs σ H Q
def agN(i:Nat):D->aq->Option aq:=λd δ=>some (δ.set i (some (.d d)))
theorem gj{i:Nat}(h:PG X e (gName i)):SGT X e (agN i):=by
 refine⟨_,h,λA δ δ' d v O α σ μ H Q E r e k=>?_⟩
 cases e
 exact k _ (E.set (.d r))
def agNil:List D->aq->Option aq:=λds δ=>match ds with
 | []=>some δ
 | _=>none
def fz(t:D->aq->Option aq)(u:List D->aq->Option aq):List D->aq->Option aq:=λds δ=>match ds with
 | d::r=>(t d δ).bind (u r)
 | []=>none
theorem sgs_nil:SGTs X [] agNil:=by
 refine⟨_,pgs_nil,λA δ δ' ds vs O α σ μ H Q E r e k=>?_⟩
 cases ds with
 | nil=>cases r;cases e;exact⟨rfl,k σ E⟩
 | cons d ds=>cases e
theorem sgs_cons{t:D->aq->Option aq}{u:List D->aq->Option aq}(h1:SGT X e t)(h2:SGTs X es u)
  (hs:(assignEach (e::es) X.env).map (·.2)=assign e X.env::(assignEach es X.env).map (·.2):=by rfl):SGTs X (e::es) (fz t u):=by
 obtain⟨t1,p1,h1⟩:=h1
 obtain⟨t2,p2,h2⟩:=h2
 refine⟨_,pgs_cons p1 p2 hs,λA δ δ' ds vs O α σ μ H Q E r e k=>?_⟩
 cases ds with
 | nil=>cases e
 | cons d ds =>
  cases r with
  | @cons v _ vs _ r rs =>
   have e:(t d δ).bind (u ds)=some δ':=e
   cases e1:t d δ with
   | none=>rw[e1] at e;cases e
   | some δ1 =>
    rw[e1] at e
    refine⟨v,vs,rfl,h1 A δ δ1 d v O α σ μ H _ E r e1 λσ1 E1=>?_⟩
    exact h2 A δ1 δ' ds vs O α σ1 μ H Q E1 rs e k
def agTup(n:Nat)(u:List D->aq->Option aq):D->aq->Option aq:=λd δ=>match d with
 | .tuple ds=>if ds.length=n then u ds δ else none
 | _=>none
theorem sg_tup{k:Nat}{u:List D->aq->Option aq}{n:Nat}(hc:X.calm=true)(h:SGTs X es u)
  (hn:(assignEach es X.env).length=n:=by rfl) (hst:(assignEach es X.env).findIdx? (·.1)=none:=by rfl):SGT X (.Tuple es k pos) (agTup n u):=by
 obtain⟨t,p,h⟩:=h
 refine⟨_,pg_tup hc p hn hst,λA δ δ' d v O α σ μ H Q E r e k=>?_⟩
 cases d with
 | tuple ds =>
  have e:(if ds.length=n then u ds δ else none)=some δ':=e
  by_cases hl:ds.length=n
  ·rw[if_pos hl] at e
   obtain⟨a,xs,rfl,h1,rs⟩:=r.tup_inv
   exact⟨a,xs,rfl,h1,by rw[rs.length];exact hl,h A δ δ' ds xs O α σ μ H Q E rs e k⟩
  ·rw[if_neg hl] at e;cases e
 | _=>cases e
def ip(t:D->aq->Option aq)(g:aq->Sto->R OutS):List D->aq->Sto->R OutS
 | [],δ,μ=>R.ret (.nx δ μ)
 | d::ds,δ,μ=>match t d δ with
  | none=>none
  | some δ1=>(g δ1 μ).thn λo=>match o with
   | .nx δ' μ'=>ip t g ds δ' μ'
   | .ct δ' μ'=>ip t g ds δ' μ'
   | .bk δ' μ'=>R.ret (.nx δ' μ')
   | .rt v μ'=>R.ret (.rt v μ')
def sFor(fi:DS->M (List D))(t:D->aq->Option aq)(g:SG):SG:=λn δ μ=>(ofM (fi (view δ)) μ).thn λds=>ip t (g n) ds δ μ
theorem ss_for{tg iter:Expr}{body:List Stmt}{t:D->aq->Option aq}{fi:DS->M (List D)}{g:SG}(hp:PassesOwn (model X.prog X.w) X.A X.env X.xe)(hc:X.calm=true)(hi:PDI X G tg iter fi)(hg:SGT X tg t)(hb:SSs X G body g)
  (hs:∀x,foldedSetIterable iter X.env x=pure x:=by intro _;rfl):SS X G (.For tg iter body [] pos) (sFor fi t g):=by
 obtain⟨wi,pi,hi⟩:=hi
 obtain⟨tgt,pt,hg⟩:=hg
 obtain⟨tb,pb,hb⟩:=hb
 refine⟨_,ps_for hp hc pi pt pb hs,λA δ μ O α σ H Dn E k=>?_⟩
 refine hi (view δ) O σ H _ E.view (al (ez E.sr (bi (ax k) λx μ h=>Er.go E.st h)) λds z J H1 s1 Y=>?_)
 have E1:=E.same s1
 refine⟨λi m σ2 H2=>m=ds.length-i/\i<=ds.length/\∃δ2 μ2 O2 α2,SEv X.K X.mg A O2 α2 H2 σ2 δ2 μ2/\Go O α H1 O2 α2 H2/\okR (Er X.K X.mg G A.R0 A.O A.α A.H) (ip t (g A.α.length) (ds.drop i) δ2 μ2) (FinS X.K X.mg A O α H Dn),⟨_,rfl,Nat.zero_le _,δ,μ,O,α,E1,Go.refl,z⟩,?_⟩
 rintro i m σ2 H2 ⟨rfl,hi,δ2,μ2,O2,α2,E2,T,k2⟩
 have TT:=T.to E1.sr
 by_cases hlt:i<ds.length
 ·right
  have hd:ds[i]?=some ds[i]:=List.getElem?_eq_getElem hlt
  obtain⟨go,yl⟩:=Y.step O2 H2 TT i _ hd
  refine⟨go,λσ' H'=>∃δ2 μ2 O2 α2,SEv X.K X.mg A O2 α2 H' σ' δ2 μ2/\Go O α H1 O2 α2 H'/\okR (Er X.K X.mg G A.R0 A.O A.α A.H) (ip t (g A.α.length) (ds.drop (i+1)) δ2 μ2) (FinS X.K X.mg A O α H Dn),λσ' H' h=>⟨_,by omega,rfl,hlt,h⟩,λx H3 y=>?_⟩
  obtain⟨s3,rx⟩:=yl x H3 y
  rw[gS hd] at k2
  have E3:=E2.same s3
  have T3:=T.trans (Go.same s3)
  unfold ip at k2
  cases h3:t ds[i] δ2 with
  | none=>rw[h3] at k2;exact k2.elim
  | some δ3 =>
   rw[h3] at k2
   refine hg A δ2 δ3 ds[i] x O2 α2 σ2 μ2 H3 _ E3 rx h3 λσ4 E4=>?_
   refine hb A δ3 μ2 O2 α2 σ4 H3 _ E4 (az (ax k2) λo z=>?_)
   cases o with
   | nx δ5 μ5=>exact λO5 α5 σ5 H5 E5 T5=>⟨δ5,μ5,O5,α5,E5,T3.trans T5,z⟩
   | ct δ5 μ5=>exact λO5 α5 σ5 H5 E5 T5=>⟨δ5,μ5,O5,α5,E5,T3.trans T5,z⟩
   | bk δ5 μ5=>exact λO5 α5 σ5 H5 E5 T5=>z O5 α5 σ5 H5 E5 ((Go.same s1).trans (T3.trans T5))
   | rt v μ5=>exact z
 ·left
  have e:i=ds.length:=by omega
  subst e
  rw[List.drop_length] at k2
  exact⟨Y.stop O2 H2 TT,k2 O2 α2 σ2 H2 E2 ((Go.same s1).trans T)⟩
def dS(c:aq->Sto->R (Bool×Sto))(g:aq->Sto->R OutS):Nat->aq->Sto->R OutS
 | 0,_,_=>none
 | n+1,δ,μ=>(c δ μ).thn λr=>if r.1=true then (g δ r.2).thn λo=>match o with
   | .nx δ' μ'=>dS c g n δ' μ'
   | .ct δ' μ'=>dS c g n δ' μ'
   | .bk δ' μ'=>R.ret (.nx δ' μ')
   | .rt v μ'=>R.ret (.rt v μ')
  else R.ret (.nx δ r.2)
theorem g9{c:aq->Sto->R (Bool×Sto)}{g:aq->Sto->R OutS}:∀{n:Nat} {δ:aq} {μ:Sto} {r:Except (XD×Sto) OutS} (k:Nat),dS c g n δ μ=some r->dS c g (n+k) δ μ=some r
 | 0,_,_,_,_,h=>by cases h
 | n+1,δ,μ,r,k,h=>by
  have e:n+1+k=(n+k)+1:=by omega
  rw[e]
  unfold dS at h ⊢
  match hc:c δ μ,h with
  | some (.ok (true,μ1)),h =>
   have h:R.thn (g δ μ1) _=_:=h
   show R.thn (g δ μ1) _=_
   match hg:g δ μ1,h with
   | some (.ok (.nx δ' μ')),h=>exact g9 k h
   | some (.ok (.ct δ' μ')),h=>exact g9 k h
   | some (.ok (.bk δ' μ')),h=>exact h
   | some (.ok (.rt v μ')),h=>exact h
   | some (.error x),h=>exact h
  | some (.ok (false,μ1)),h=>exact h
  | some (.error x),h=>exact h
noncomputable def ek(c:aq->Sto->R (Bool×Sto))(g:SG):SG:=λm δ μ =>
 open Classical in if h:∃n r,dS c (g m) n δ μ=some r then dS c (g m) (Classical.choose h) δ μ else none
theorem sWhile_some{c:aq->Sto->R (Bool×Sto)}{g:SG}{m n:Nat}{δ:aq}{μ:Sto}{r:Except (XD×Sto) OutS}(h:dS c (g m) n δ μ=some r):ek c g m δ μ=some r:=by
 have hx:∃n r,dS c (g m) n δ μ=some r:=⟨n,r,h⟩
 unfold ek
 rw[dif_pos hx]
 obtain⟨r',hr⟩:=Classical.choose_spec hx
 have h1:=g9 (Classical.choose hx) h
 have h2:=g9 n hr
 rw[Nat.add_comm] at h2
 rw[h2] at h1
 rw[hr,h1]
theorem sWhile_inv{c:aq->Sto->R (Bool×Sto)}{g:SG}{m:Nat}{δ:aq}{μ:Sto}{r:Except (XD×Sto) OutS}(h:ek c g m δ μ=some r):∃n,dS c (g m) n δ μ=some r:=by
 unfold ek at h
 split at h
 ·exact⟨_,h⟩
 ·cases h
theorem ss_while{fc:aq->Sto->R (Bool×Sto)}{g:SG}{body:List Stmt}(hp:PassesOwn (model X.prog X.w) X.A X.env X.xe)(hc:ST X G c fc)(hb:SSs X G body g):SS X G (.While c body [] pos) (ek fc g):=by
 obtain⟨tc,pc,hc⟩:=hc
 obtain⟨tb,pb,hb⟩:=hb
 refine⟨_,ps_while hp pc pb,λA δ μ O α σ H Dn E k=>?_⟩
 obtain⟨n,hn⟩:∃n,okR (Er X.K X.mg G A.R0 A.O A.α A.H) (dS fc (g A.α.length) n δ μ) (FinS X.K X.mg A O α H Dn):=by
  cases e:ek fc g A.α.length δ μ with
  | none=>rw[e] at k;exact k.elim
  | some r =>
   obtain⟨n,hn⟩:=sWhile_inv e
   rw[e] at k
   exact⟨n,by rw[hn];exact k⟩
 refine⟨λm σ2 H2=>∃δ2 μ2 O2 α2,SEv X.K X.mg A O2 α2 H2 σ2 δ2 μ2/\Go O α H O2 α2 H2/\okR (Er X.K X.mg G A.R0 A.O A.α A.H) (dS fc (g A.α.length) m δ2 μ2) (FinS X.K X.mg A O α H Dn),⟨n,δ,μ,O,α,E,Go.refl,hn⟩,λm σ2 H2 hw=>?_⟩
 obtain⟨δ2,μ2,O2,α2,E2,T2,k2⟩:=hw
 cases m with
 | zero=>exact k2.elim
 | succ m =>
  unfold dS at k2
  refine hc A δ2 μ2 O2 α2 σ2 H2 _ E2 (az (bi (ax k2) λx μ h=>Er.go E2.st h) λr z O3 α3 H3 T3 S3=>?_)
  have E3:=E2.go T3 S3
  cases hb':r.1 with
  | false =>
   rw[hb',if_neg Bool.false_ne_true] at z
   exact z O3 α3 σ2 H3 E3 (T2.trans T3)
  | true =>
   rw[hb',if_pos rfl] at z
   refine⟨λσ' H'=>∃δ2 μ2 O2 α2,SEv X.K X.mg A O2 α2 H' σ' δ2 μ2/\Go O α H O2 α2 H'/\okR (Er X.K X.mg G A.R0 A.O A.α A.H) (dS fc (g A.α.length) m δ2 μ2) (FinS X.K X.mg A O α H Dn),λσ' H' hN=>⟨m,Nat.lt_succ_self m,hN⟩,?_⟩
   refine hb A δ2 r.2 O3 α3 σ2 H3 _ E3 (az (ax z) λo q=>?_)
   cases o with
   | nx δ' μ'=>exact λO' α' σ' H' E' T'=>⟨δ',μ',O',α',E',T2.trans (T3.trans T'),q⟩
   | ct δ' μ'=>exact λO' α' σ' H' E' T'=>⟨δ',μ',O',α',E',T2.trans (T3.trans T'),q⟩
   | bk δ' μ'=>exact λO' α' σ' H' E' T'=>q O' α' σ' H' E' (T2.trans (T3.trans T'))
   | rt v μ'=>exact q
end
end SL
namespace SL
open PySem PySem.Spec PyProof.Rows L2 DL
def spS(K:PySem.W.Frag)(mg:Str->Option Value)(n:Nat)(F:List Val->Sto->R (Val×Sto)):Sp:=λvs H Q _=>∃R0 O α μ xs,vs.length=n/\SR K mg R0 O α H μ/\VRs K O α H vs xs/\okR (λ_ _=>False) (F xs μ) (λr=>∀v O' α' H',Go O α H O' α' H'->SR K mg R0 O' α' H' r.2->VR K O' α' H' v r.1->Q v H')
structure DefS(P:Program)(w:World)(K:PySem.W.Frag)(mg:Str->Option Value)(base:Heap)(k:Nat)(x:Str)(n:Nat)(F:List Val->Sto->R (Val×Sto)):Prop where
 ex:∃(f:Addr) (fd:FuncData) (ps:List Str),FnOk P w K mg base CX0 k f fd ps (spS K mg n F)/\mg x=some (.ref f)/\PySem.W.keepIn K (.ref f)=true/\fU K fd ps []
def noXR{β:Type}(r:R β):R β:=match r with
 | some (.error _)=>none
 | r=>r
theorem okR_noX{β:Type}{G:XD->Sto->Prop}{r:R β}{k:β->Prop}(h:okR G (noXR r) k):okR (λ_ _=>False) r k:=by
 match r,h with
 | some (.ok a),h=>exact h
def sCall(F:List Val->Sto->R (Val×Sto))(fa:aq->Sto->R (List Val×Sto)):aq->Sto->R (Val×Sto):=λδ μ=>(fa δ μ).thn λr=>noXR (F r.1 r.2)
section
variable{X:Cx}{G:XD->Hp->Prop}{e:Expr}{es:List Expr}{pos p:Pos}
theorem sx_call{k n:Nat}{x:Str}{F:List Val->Sto->R (Val×Sto)}{fa:aq->Sto->R (List Val×Sto)}(h:DefS X.prog X.w X.K X.mg X.base k x n F)(hr:Room k X.A)(hg:Gl X x)(hn:(e::es).length=n)(ha:SA X G (e::es) fa)
  (hdb:(x==("__debug__" : Str))=false:=by decide) (he:starEach (e::es) X.env=(false,eval e X.env)::starEach es X.env:=by rfl) (hpl:(backTo pos (starEach es X.env)).any (·.1)=false:=by rfl) :
  SX X G (.Call (.Name x p) (e::es) [] pos) (sCall F fa):=by
 obtain⟨f,fd,ps,F1,hm,hk,hb⟩:=h.ex
 obtain⟨hl,t,pa,ha⟩:=ha
 refine⟨_,pe_call F1 hr hg hm hk hb .nil pass0 pa hdb he hpl,λA δ μ O α σ H Q E k=>?_⟩
 have k1:=ax k
 refine ha A δ μ O α σ H _ E ?_
 cases e1:fa δ μ with
 | none=>rw[e1] at k1;exact k1.elim
 | some r =>
  rw[e1] at k1
  cases r with
  | error x=>exact k1
  | ok r =>
   refine λvs O1 α1 H1 T1 S1 rs=>?_
   refine⟨A.R0,O1,α1,r.2,r.1,?_,S1,?_,az (okR_noX k1) λq z v O2 α2 H2 T2 S2 rv=>z v O2 α2 H2 (T1.trans T2) S2 rv⟩
   ·rw[List.append_nil,rs.length,hl δ μ r e1];exact hn
   ·rw[List.append_nil];exact rs
end
def iQ(n:Nat)(xs:List Val):aq:=xs.map some++List.replicate (n-xs.length) none
def endS(o:OutS):R (Val×Sto):=match o with
 | .rt v μ=>R.ret (v,μ)
 | .nx _ μ=>R.ret (.d .none,μ)
 | _=>none
def runS(n:Nat)(g:SG)(xs:List Val)(μ:Sto):R (Val×Sto):=(g μ.length (iQ n xs) μ).thn endS
section
variable{P:Program}{w:World}{K:PySem.W.Frag}{mg:Str->Option Value}{base:Heap}
theorem ev_startS{R0 O:List Addr}{α:List (Option Addr)}{H:Hp}{μ:Sto}{vs:List V}{xs:List Val}(N:List Str)(S:SR K mg R0 O α H μ)(r:VRs K O α H vs xs):SEv K mg ⟨R0,O,α,H⟩ O α H (L2.fN N vs) (iQ N.length xs) μ:=by
 refine⟨S,Go.refl,?_,λi x h=>?_⟩
 ·unfold L2.fN iQ
  simp [r.length]
 ·unfold iQ at h
  by_cases hi:i<xs.length
  ·rw[List.getElem?_append_left (by simpa using hi),List.getElem?_map] at h
   cases e:xs[i]? with
   | none=>rw[e] at h;cases h
   | some y =>
    rw[e] at h
    cases h
    obtain⟨v,hv,rv⟩:=r.get e
    refine⟨v,?_,rv⟩
    unfold L2.fN
    have hi:i<vs.length:=(List.getElem?_eq_some_iff.mp hv).1
    rw[List.getElem?_append_left (by simpa using hi),List.getElem?_map,hv]
    rfl
  ·rw[List.getElem?_append_right (by simpa using hi),List.getElem?_replicate] at h
   split at h<;>cases h
theorem fn_ofS{x qual:Str}{st:Stmt}{f:Addr}{fd:FuncData}{N ps:List Str}{k:Nat}{g:SG}(F0:Fun K x qual st f fd)(S:FnScope N ps (aj st))
  (hbody:∀(cdv:Value) (A:Around) (outer:List PySem.Env) (s:Shared) (H:Hp) (E:XK),Room k (A.deeper (envOfC qual (aj st) s.heap.objs.size f cdv)) ->
   SSs (cxOf CX0 P w K mg base N qual (aj st) f cdv A outer s H E).nox (λ_ _=>False) (aI st) g):FnOk P w K mg base CX0 (k+1) f fd ps (spS K mg ps.length (runS N.length g)):=by
 refine F0.ok S (λvs H Q E h=>?_) (λcdv A outer s H vs Q E hr h=>?_)
 ·obtain⟨R0,O,α,μ,xs,hl,_⟩:=h
  exact hl
 ·obtain⟨R0,O,α,μ,xs,hl,S0,r,q⟩:=h
  obtain⟨t,p,hB⟩:=hbody cdv A outer s H E hr
  refine⟨t,p,hB ⟨R0,O,α,H⟩ (iQ N.length xs) μ O α (L2.fN N vs) H _ (ev_startS N S0 r) ?_⟩
  have q1:=ax (show okR _ ((g μ.length (iQ N.length xs) μ).thn endS) _ from q)
  rw[<-S0.len] at q1
  refine az (bi q1 λx μ h=>h.elim) λo z=>?_
  cases o with
  | rt v μ'=>exact λu O' α' H' S' G' r'=>z u O' α' H' G' S' r'
  | nx δ μ'=>exact λO' α' σ' H' E' G'=>z .non O' α' H' G' E'.sr (.d .non)
  | bk δ μ'=>exact z.elim
  | ct δ μ'=>exact z.elim
theorem defs_of{x qual:Str}{st:Stmt}{f:Addr}{fd:FuncData}{N ps:List Str}{k:Nat}{g:SG}(F0:Fun K x qual st f fd)(S:FnScope N ps (aj st))(hm:mg x=some (.ref f))(hb:fU K fd ps [])
  (hbody:∀(cdv:Value) (A:Around) (outer:List PySem.Env) (s:Shared) (H:Hp) (E:XK),Room k (A.deeper (envOfC qual (aj st) s.heap.objs.size f cdv)) ->
   SSs (cxOf CX0 P w K mg base N qual (aj st) f cdv A outer s H E).nox (λ_ _=>False) (aI st) g):DefS P w K mg base (k+1) x ps.length (runS N.length g) :=
 ⟨f,fd,ps,fn_ofS F0 S hbody,hm,F0.kp,hb⟩
def asD(F:List Val->Sto->R (Val×Sto)):List D->M D:=λds=>match F (ds.map Val.d) [] with
 | some (.ok (.d x,_))=>M.ret x
 | _=>none
theorem DefS.toD{k n:Nat}{x:Str}{F:List Val->Sto->R (Val×Sto)}(h:DefS P w K mg base k x n F):Def P w K mg base k x n (asD F):=by
 obtain⟨f,fd,ps,F1,hm,hk,hb⟩:=h.ex
 refine⟨f,fd,ps,F1.imp λvs H Q E q=>?_,hm,hk,hb⟩
 obtain⟨O,ds,hl,oo,rs,q⟩:=q
 refine⟨O,O,[],[],ds.map Val.d,hl,⟨rfl,λi j a h=>(by simp at h),oo,λ_ h=>h,λk a h=>(by simp at h)⟩,VRs.data rs,?_⟩
 unfold asD at q
 match hF:F (ds.map Val.d) [],q with
 | some (.ok (.d x,μ')),q =>
  refine λv O' α' H' T S r=>q v H' (λb o h=>T.keep b o (λk=>by simp) h) ?_
  exact Rep.to (To.less S.sub) r.dinv
end
section
variable{δ δ':aq}{μ μ' μ1:Sto}{n:Nat}{f fi:aq->Sto->R (Val×Sto)}{fa:aq->Sto->R (List Val×Sto)}{fc:aq->Sto->R (Bool×Sto)}{g h:SG}{v:Val}{r:R OutS}
theorem aO{i:Nat}(h:δ[i]?=some (some v)):aN i δ μ=R.ret (v,μ):=by unfold aN;rw[h]
theorem bP{f:DS->M D}{d:D}(h:f (view δ)=M.ret d):b9 f δ μ=R.ret (.d d,μ):=by unfold b9;rw[h];rfl
theorem es_lend{f:DS->M D}{d:D}(h:f (viewL 0 μ δ)=M.ret d)(hf:bM d=true):sLend f δ μ=R.ret (.d d,μ):=by
 unfold sLend;rw[h];show(if bM d=true then _ else _)=_;rw[if_pos hf]
theorem gQ:sNil δ μ=R.ret ([],μ):=rfl
theorem cE{xs:List Val}(h1:f δ μ=R.ret (v,μ1))(h2:fa δ μ1=R.ret (xs,μ')):cA f fa δ μ=R.ret (v::xs,μ'):=by unfold cA;rw[h1];show R.thn (fa δ μ1) _=_;rw[h2];rfl
theorem es_call{F:List Val->Sto->R (Val×Sto)}{xs:List Val}(h1:fa δ μ=R.ret (xs,μ1))(h2:F xs μ1=R.ret (v,μ')):sCall F fa δ μ=R.ret (v,μ'):=by unfold sCall;rw[h1];show noXR (F xs μ1)=_;rw[h2];rfl
theorem aD(h1:g n δ μ=R.ret (.nx δ' μ'))(h2:h n δ' μ'=r):bG g h n δ μ=r:=by unfold bG;rw[h1];exact h2
theorem es_seqR(h1:g n δ μ=R.ret (.rt v μ')):bG g h n δ μ=R.ret (.rt v μ'):=by unfold bG;rw[h1];rfl
theorem bA{i:Nat}(h:f δ μ=R.ret (v,μ')):dh i f n δ μ=R.ret (.nx (δ.set i (some v)) μ'):=by unfold dh;rw[h];rfl
theorem es_newL{i:Nat}{fn:DS->M (List D)}{ds:List D}(h:fn (view δ)=M.ret ds):sNewL i fn n δ μ=R.ret (.nx (δ.set i (some (.h μ.length))) (μ++[.lst (ds.map Val.d)])):=by unfold sNewL;rw[h];rfl
theorem es_setI{i k j:Nat}{m:Int}{xs:List Val}(h1:f δ μ=R.ret (v,μ1))(h0:δ[i]?=some (some (.h k)))(h2:fi δ μ1=R.ret (.d (.int m),μ'))(h3:μ'[k]?=some (.lst xs))(h4:ixN xs.length m=some j):sSetI i fi f n δ μ=R.ret (.nx δ (μ'.set k (.lst (xs.set j v)))):=by
 unfold sSetI
 rw[h1]
 show(match δ[i]? with | some (some (.h k))=>_ | _=>_)=_
 rw[h0]
 show R.thn (fi δ μ1) _=_
 rw[h2,aW]
 dsimp only
 rw[h3]
 dsimp only
 rw[h4]
theorem es_ret(h:f δ μ=R.ret (v,μ')):sRet f n δ μ=R.ret (.rt v μ'):=by unfold sRet;rw[h];rfl
theorem es_retF{f:DS->M D}{d:D}(hc:(μ.take n).all (closedO n)=true)(h:f (viewL n μ δ)=M.ret d):sRetF f n δ μ=R.ret (.rt (.d d) (μ.take n)):=by unfold sRetF;rw[if_pos hc,h];rfl
theorem ig{b:Bool}(h1:fc δ μ=R.ret (b,μ1))(h2:(if b=true then g n δ μ1 else h n δ μ1)=r):sIf fc g h n δ μ=r:=by unfold sIf;rw[h1];exact h2
theorem eh{fb:DS->M Bool}{b:Bool}(h:fb (viewL 0 μ δ)=M.ret b):iF fb δ μ=R.ret (b,μ):=by unfold iF;rw[h];rfl
theorem es_for{fi:DS->M (List D)}{t:D->aq->Option aq}{ds:List D}(h1:fi (view δ)=M.ret ds)(h2:ip t (g n) ds δ μ=r):sFor fi t g n δ μ=r:=by unfold sFor;rw[h1];exact h2
theorem forS_cons{t:D->aq->Option aq}{g:aq->Sto->R OutS}{d:D}{ds:List D}{δ1:aq}(h1:t d δ=some δ1)(h2:g δ1 μ=R.ret (.nx δ' μ'))(h3:ip t g ds δ' μ'=r):ip t g (d::ds) δ μ=r:=by
 unfold ip;rw[h1];show(g δ1 μ).thn _=_;rw[h2];exact h3
theorem forS_ret{t:D->aq->Option aq}{g:aq->Sto->R OutS}{d:D}{ds:List D}{δ1:aq}(h1:t d δ=some δ1)(h2:g δ1 μ=R.ret (.rt v μ')):ip t g (d::ds) δ μ=R.ret (.rt v μ'):=by
 unfold ip;rw[h1];show(g δ1 μ).thn _=_;rw[h2];rfl
theorem es_run{k:Nat}{xs:List Val}(h:g μ.length (iQ k xs) μ=R.ret (.rt v μ')):runS k g xs μ=R.ret (v,μ'):=by unfold runS;rw[h];rfl
end
end SL
namespace SL
open PySem PySem.Spec PyProof.Rows L2 DL
section
variable{K:PySem.W.Frag}{mg:Str->Option Value}{R0 O O':List Addr}{α α':List (Option Addr)}{H H':Hp}{μ μ':Sto}
theorem SR.adopt(S:SR K mg R0 O α H μ){l:Addr}{vs:List V}{ds:List D}(s:aG H H')(hl:H l=none)(hx:H' l=some (.lst vs))(r:Reps K [] H' vs ds)(hf:aM ds=true):SR K mg R0 (l::O) (α++[some l]) H' (μ++[.lst (ds.map Val.d)]):=by
 have T1:To O O H H':=To.same s
 have ne:∀(k:Nat) (a:Addr),α[k]?=some (some a)->a≠l:=λk a h z=>by
  obtain⟨o,h3,_⟩:=S.tracked h
  rw[z,hl] at h3;cases h3
 have hlO:l∉O:=λz=>by
  obtain⟨o,ho⟩:=(S.oo l z).some
  rw[hl] at ho;cases ho
 have T:To O (l::O) H H':=by
  refine⟨λb xs h=>aG.rd s h,λb xs n h=>⟨λz=>?_,aG.rd s h⟩,λb xs n h=>⟨λz=>?_,aG.rd s h⟩,λb C dx fs n h=>⟨λz=>?_,s _ _ h⟩⟩
  ·rcases List.mem_cons.mp z with z | z
   ·exact Rd.ne_new h hl z
   ·exact n z
  ·rcases List.mem_cons.mp z with z | z
   ·exact Rd.ne_new h hl z
   ·exact n z
  ·rcases List.mem_cons.mp z with z | z
   ·exact aK h hl z
   ·exact n z
 have e:∀(k:Nat) (a:Addr),α[k]?=some (some a)->(α++[some l])[k]?=some (some a):=λk a h=>by
  rw[List.getElem?_append_left (List.getElem?_eq_some_iff.mp h).1];exact h
 have cs:∀(k:Nat) (a:Addr),(α++[some l])[k]?=some (some a)->α[k]?=some (some a)\/(k=α.length/\a=l):=λk a h=>by
  by_cases hk:k<α.length
  ·rw[List.getElem?_append_left hk] at h;exact .inl h
  ·rw[List.getElem?_append_right (by omega)] at h
   have h0:k-α.length=0:=by
    have:=(List.getElem?_eq_some_iff.mp h).1
    simp at this
    omega
   rw[h0] at h
   simp at h
   exact .inr ⟨by omega,h.symm⟩
 refine⟨by rw[List.length_append,List.length_append,S.len];rfl,λi j a h1 h2=>?_,λb hb=>?_,λb hb=>List.mem_cons_of_mem _ (S.sub b hb),λk a h=>?_⟩
 ·rcases cs i a h1 with h1 | ⟨h1,z⟩<;>rcases cs j a h2 with h2 | ⟨h2,z2⟩
  ·exact S.nd i j a h1 h2
  ·exact absurd z2 (ne i a h1)
  ·exact absurd z (ne j a h2)
  ·omega
 ·rcases List.mem_cons.mp hb with rfl | hb
  ·exact .inl ⟨vs,hx⟩
  ·exact(S.oo b hb).same s
 ·rcases cs k a h with h | ⟨rfl,rfl⟩
  ·obtain⟨ob,h1,h2⟩:=S.at_ k a h
   obtain⟨o,h3,_⟩:=S.tracked h
   exact⟨ob,by rw[List.getElem?_append_left (List.getElem?_eq_some_iff.mp h1).1];exact h1,h2.to T e (λz=>List.mem_cons_of_mem _ z) (by rw[h3];exact s a o h3)⟩
  ·refine⟨.lst (ds.map Val.d),by rw[S.len,List.getElem?_append_right (Nat.le_refl _),Nat.sub_self];rfl,List.mem_cons_self,λz=>?_,vs,hx,VRs.data (r.flat hf)⟩
   exact hlO (S.sub a z)
theorem Go.adopt{l:Addr}(s:aG H H')(hl:H l=none):Go O α H (l::O) (α++[some l]) H':=by
 refine⟨λb u _ h=>s b u h,λk a h=>by rw[List.getElem?_append_left (List.getElem?_eq_some_iff.mp h).1];exact h,by rw[List.length_append];omega,λk b h=>?_,λb hb=>?_,λb h=>none_same s h⟩
 ·by_cases hk:k<α.length
  ·rw[List.getElem?_append_left hk] at h;exact .inl h
  ·rw[List.getElem?_append_right (by omega)] at h
   have h0:k-α.length=0:=by
    have:=(List.getElem?_eq_some_iff.mp h).1
    simp at this
    omega
   rw[h0] at h
   simp at h
   exact .inr (by rw[<-h];exact hl)
 ·rcases List.mem_cons.mp hb with rfl | hb
  ·exact .inr hl
  ·exact .inl hb
theorem SR.at_new(S:SR K mg R0 O α H μ){l:Addr}:(α++[some l])[μ.length]?=some (some l):=by
 rw[<-S.len,List.getElem?_append_right (Nat.le_refl _),Nat.sub_self];rfl
theorem VRs.atI{vs:List V}{xs:List Val}{i:Int}{x:Val}(r:VRs K O α H vs xs)(h:L2.atI xs i=some x):∃v,L2.atI vs i=some v/\VR K O α H v x:=by
 unfold L2.atI at h ⊢
 rw[r.length]
 cases e:ixN xs.length i with
 | none=>rw[e] at h;cases h
 | some j =>
  rw[e] at h
  exact r.get h
end
section
variable{X:Cx}{G:XD->Hp->Prop}{a b c e ix o:Expr}{es:List Expr}{pos pos' tpos apos cpos:Pos}{f fi fo:aq->Sto->R (Val×Sto)}{fa:aq->Sto->R (List Val×Sto)}
def sLst(fa:aq->Sto->R (List Val×Sto)):aq->Sto->R (Val×Sto):=λδ μ=>(fa δ μ).thn λr=>if aL r.1.length=true then R.ret (.h r.2.length,r.2++[.lst r.1]) else none
theorem sx_lst(h:SA X G es fa):SX X G (.List es pos) (sLst fa):=by
 obtain⟨_,t,p,h⟩:=h
 refine⟨_,pe_lst p,λA δ μ O α σ H Q E k=>?_⟩
 refine h A δ μ O α σ H _ E (az (ax k) λr z vs O1 α1 H1 T1 S1 rs=>?_)
 by_cases hz:aL r.1.length=true
 ·rw[if_pos hz] at z
  exact⟨by rw[rs.length];exact bE hz,λp hp=>z _ (p::O1) (α1++[some p]) _ (T1.trans (Go.newL hp)) (S1.newL hp rs) (.h S1.at_new)⟩
 ·rw[if_neg hz] at z;exact z.elim
def sIx(fo fi:aq->Sto->R (Val×Sto)):aq->Sto->R (Val×Sto):=λδ μ=>(fo δ μ).thn λr=>(fi δ r.2).thn λq=>match q.1 with
 | .d (.int i)=>match r.1 with
  | .h k=>match q.2[k]? with
   | some (.lst xs)=>match L2.atI xs i with
    | some x=>R.ret (x,q.2)
    | none=>none
   | _=>none
  | .t xs=>match L2.atI xs i with
   | some x=>R.ret (x,q.2)
   | none=>none
  | .d (.tuple ds)=>match L2.atI ds i with
   | some d=>R.ret (.d d,q.2)
   | none=>none
  | .d (.list ds)=>match L2.atI ds i with
   | some d=>R.ret (.d d,q.2)
   | none=>none
  | _=>none
 | _=>none
theorem sx_ix(ha:SX X G a fo)(hb:SX X G b fi)(hs:PlainIx b):SX X G (.Subscript a b pos) (sIx fo fi):=by
 obtain⟨ta,pa,ha⟩:=ha
 obtain⟨tb,pb,hb⟩:=hb
 refine⟨_,pe_ix ix_seq pa pb hs,λA δ μ O α σ H Q E k=>?_⟩
 refine ha A δ μ O α σ H _ E (az (ax k) λr z v O1 α1 H1 T1 S1 r1=>?_)
 refine hb A δ r.2 O1 α1 σ H1 _ (E.go T1 S1) (az (bi (ax z) λx μ h=>Er.go T1 h) λq y w O2 α2 H2 T2 S2 r2=>?_)
 have T:=T1.trans T2
 obtain⟨q1,q2⟩:=q
 obtain⟨p1,p2⟩:=r
 match q1,y,r2 with
 | .d (.int i),y,r2 =>
  have hw:=Rep.int_inv r2.dinv
  subst hw
  match p1,y,r1 with
  | .h k,y,r1 =>
   obtain⟨l,hl,rfl⟩:=r1.hinv
   have hl2:=T2.ex _ _ hl
   obtain⟨ob,g1,g2⟩:=S2.at_ k l hl2
   dsimp only at y
   rw[g1] at y
   match ob,y,g2 with
   | .lst xs,y,g2 =>
    obtain⟨_,_,vs,g3,g4⟩:=g2
    dsimp only at y
    cases hx:L2.atI xs i with
    | none=>rw[hx] at y;exact y.elim
    | some x =>
     rw[hx] at y
     obtain⟨u,hu,ru⟩:=g4.atI hx
     exact .inl ⟨l,vs,i,u,rfl,rfl,.inl (.inl g3),hu,y u O2 α2 H2 T S2 ru⟩
  | .t xs,y,r1 =>
   obtain⟨p,vs,rfl,h1,rs⟩:=(r1.to (T2.to S1) T2.ex).tinv
   dsimp only at y
   cases hx:L2.atI xs i with
   | none=>rw[hx] at y;exact y.elim
   | some x =>
    rw[hx] at y
    obtain⟨u,hu,ru⟩:=rs.atI hx
    exact .inr (.inl ⟨p,vs,i,u,rfl,rfl,h1,hu,y u O2 α2 H2 T S2 ru⟩)
  | .d (.tuple ds),y,r1 =>
   have rx:=(r1.to (T2.to S1) T2.ex).dinv
   dsimp only at y
   cases hx:L2.atI ds i with
   | none=>rw[hx] at y;exact y.elim
   | some x =>
    rw[hx] at y
    obtain⟨p,vs,rfl,h1,r3⟩:=rx.tup_inv
    obtain⟨u,hu,ru⟩:=r3.atI hx
    exact .inr (.inl ⟨p,vs,i,u,rfl,rfl,h1,hu,y u O2 α2 H2 T S2 (.d ru)⟩)
  | .d (.list ds),y,r1 =>
   have rx:=(r1.to (T2.to S1) T2.ex).dinv
   dsimp only at y
   cases hx:L2.atI ds i with
   | none=>rw[hx] at y;exact y.elim
   | some x =>
    rw[hx] at y
    obtain⟨p,vs,rfl,h1,r3⟩:=rx.lst_inv
    obtain⟨u,hu,ru⟩:=r3.atI hx
    exact .inl ⟨p,vs,i,u,rfl,rfl,h1,hu,y u O2 α2 H2 T S2 (.d ru)⟩
def sApp(fo f:aq->Sto->R (Val×Sto)):aq->Sto->R (Val×Sto):=λδ μ=>(fo δ μ).thn λr=>match r.1 with
 | .h k=>match r.2[k]? with
  | some (.lst _)=>(f δ r.2).thn λq=>match q.2[k]? with
   | some (.lst xs)=>if aL (xs.length+1)=true then R.ret (.d .none,q.2.set k (.lst (xs++[q.1]))) else none
   | _=>none
  | _=>none
 | _=>none
theorem sx_app(ho:SX X G o fo)(he:SX X G e f)
  (hst:starEach [e] X.env=(false,eval e X.env)::starEach [] X.env:=by rfl)
  (hbase:attributeBase o "append" X.env (eval o X.env)=eval o X.env:=by rfl)
  (hfew:((backTo cpos (starEach [e] X.env)).all (λx=>!x.1)&&(backToKw cpos (keywordEach [] X.env)).all (λx=>x.1.isSome)
   && decide ([e].length+([]:List Keyword).length+(if ([]:List Keyword).isEmpty then 0 else 1)<30))=true:=by rfl)
  (hline:(apos.endLine==cpos.line)=true:=by rfl) (hplain:(backTo cpos (starEach [] X.env)).any (·.1)=false:=by rfl) :
  SX X G (.Call (.Attribute o "append" apos) [e] [] cpos) (sApp fo f):=by
 obtain⟨t,p,ho⟩:=ho
 obtain⟨u,q,he⟩:=he
 refine⟨_,pe_bm PySem.F.plainAttrs_list PySem.F.slot_list_append PySem.F.type_list_append mt_append p (gp q pa_nil hst) hbase hfew hline hst hplain,λA δ μ O α σ H Q E k=>?_⟩
 refine ho A δ μ O α σ H _ E (az (ax k) λr z v O1 α1 H1 T1 S1 r1=>?_)
 obtain⟨p1,p2⟩:=r
 match p1,z,r1 with
 | .h k,z,r1 =>
  obtain⟨l,hl,rfl⟩:=r1.hinv
  obtain⟨ob,g1,g2⟩:=S1.at_ k l hl
  dsimp only at z
  rw[g1] at z
  match ob,z,g2 with
  | .lst xs0,z,g2 =>
  refine⟨.inl ⟨rfl,_,.inl (.inl g2.2.2.choose_spec.1)⟩,?_⟩
  have z:okR _ ((f δ p2).thn _) _:=z
  refine he A δ p2 O1 α1 σ H1 _ (E.go T1 S1) (az (bi (ax z) λx μ h=>Er.go T1 h) λq y w O2 α2 H2 T2 S2 r2=>?_)
  obtain⟨q1,q2⟩:=q
  have hl2:=T2.ex _ _ hl
  obtain⟨ob,g1,g2⟩:=S2.at_ k l hl2
  dsimp only at y
  rw[g1] at y
  match ob,y,g2,g1 with
  | .lst xs,y,g2,g1 =>
   obtain⟨_,_,vs,g3,g4⟩:=g2
   dsimp only at y
   by_cases hz:aL (xs.length+1)=true
   ·rw[if_pos hz] at y
    exact⟨l,vs,w,rfl,rfl,g3,by rw[g4.length];exact small_lt hz,y .non O2 α2 _ (T1.trans (T2.trans (Go.setL hl2))) (S2.setL hl2 g1 (g4.append (.cons r2 .nil))) (.d .non)⟩
   ·rw[if_neg hz] at y;exact y.elim
end
end SL
namespace SL
open PySem PySem.Spec PyProof.Rows L2 DL
section
variable{X:Cx}{G:XD->Hp->Prop}{a b c e ix o:Expr}{es:List Expr}{pos pos' tpos apos cpos:Pos}{f fi fo:aq->Sto->R (Val×Sto)}
open Classical in
noncomputable def forT(i k:Nat)(xs:List Val)(g:aq->Sto->R OutS):List Val->aq->Sto->R OutS
 | [],δ,μ=>if μ[k]?=some (.lst xs) then R.ret (.nx δ μ) else none
 | v::vs,δ,μ=>if μ[k]?=some (.lst xs) then (g (δ.set i (some v)) μ).thn λo=>match o with
   | .nx δ' μ'=>forT i k xs g vs δ' μ'
   | .ct δ' μ'=>forT i k xs g vs δ' μ'
   | .bk δ' μ'=>R.ret (.nx δ' μ')
   | .rt v μ'=>R.ret (.rt v μ') else none
def sSetX(fo fi f:aq->Sto->R (Val×Sto)):SG:=λ_ δ μ=>(f δ μ).thn λr=>(fo δ r.2).thn λp=>match p.1 with
 | .h k=>(fi δ p.2).thn λq=>match q.1,q.2[k]? with
  | .d (.int n),some (.lst xs)=>match ixN xs.length n with
   | some j=>R.ret (.nx δ (q.2.set k (.lst (xs.set j r.1))))
   | none=>none
  | _,_=>none
 | _=>none
theorem ss_setX(ho:SX X G a fo)(hi:SX X G ix fi)(he:SX X G e f)
  (ha:∀v,assign (.Subscript a ix tpos) X.env v=(do
   let ov <- holding [v] (eval a X.env)
   let iv <- holding [v,ov] (eval ix X.env)
   standAt tpos
   holding [v,ov,iv] (setItem ov iv v)
   release [v,ov,iv] []):=by intro _;rfl)
  (hs:swapsWithSole [.Subscript a ix tpos] e pos.line X.env=pure false:=by rfl) (hw:swappedStores [.Subscript a ix tpos] e X.env=pure none:=by rfl)
  (h1:(assignEach [.Subscript a ix tpos] X.env).map (·.2)=[assign (.Subscript a ix tpos) X.env]:=by rfl):SS X G (.Assign [.Subscript a ix tpos] e pos) (sSetX fo fi f):=by
 obtain⟨t,p,he⟩:=he
 obtain⟨u,q,hi⟩:=hi
 obtain⟨w,pw,ho⟩:=ho
 refine⟨_,ps_asg p (pg_sub pw q set_list ha) hs hw h1,λA δ μ O α σ H Dn E k=>?_⟩
 refine he A δ μ O α σ H _ E (az (bi (ax k) λx μ h=>Er.go E.st h) λr z v O1 α1 H1 T1 S1 r1=>?_)
 have E1:=E.go T1 S1
 refine ho A δ r.2 O1 α1 σ H1 _ E1 (az (bi (ax z) λx μ h=>Er.go E1.st h) λpp y ov O2 α2 H2 T2 S2 r2=>?_)
 have E2:=E1.go T2 S2
 obtain⟨pv,pμ⟩:=pp
 match pv,y,r2 with
 | .h kk,y,r2 =>
  obtain⟨l,q3,rfl⟩:=r2.hinv
  refine hi A δ pμ O2 α2 σ H2 _ E2 (az (bi (ax y) λx μ h=>Er.go E2.st h) λqq y kv O3 α3 H3 T3 S3 r3=>?_)
  split at y
  ·rename_i n xs hq hk
   rw[hq] at r3
   have hkv:=Rep.int_inv r3.dinv
   subst hkv
   have q3':=T3.ex _ _ q3
   obtain⟨ob,g1,g2⟩:=S3.at_ kk l q3'
   rw[hk] at g1
   cases g1
   obtain⟨g3,g4,vs,g5,g6⟩:=g2
   cases hj:ixN xs.length n with
   | none=>rw[hj] at y;exact y.elim
   | some j =>
    rw[hj] at y
    refine⟨l,vs,n,j,rfl,rfl,g5,by rw[g6.length];exact hj,?_⟩
    have r1':=(r1.to (T2.to S1) T2.ex).to (T3.to S2) T3.ex
    exact y O3 α3 σ _ ((E2.go T3 S3).go (Go.setL q3') (S3.setL q3' hk (g6.set r1' j))) (T1.trans (T2.trans (T3.trans (Go.setL q3'))))
  ·exact y.elim
theorem es_setX{fo fi f:aq->Sto->R (Val×Sto)}{n:Nat}{δ:aq}{μ μ1 μ2 μ3:Sto}{v:Val}{k j:Nat}{i:Int}{xs:List Val}(h1:f δ μ=R.ret (v,μ1))(h2:fo δ μ1=R.ret (.h k,μ2))(h3:fi δ μ2=R.ret (.d (.int i),μ3))(h4:μ3[k]?=some (.lst xs))(h5:ixN xs.length i=some j):sSetX fo fi f n δ μ=R.ret (.nx δ (μ3.set k (.lst (xs.set j v)))):=by
 unfold sSetX
 rw[h1,aW,h2,aW]
 dsimp only
 rw[h3,aW]
 dsimp only
 rw[h4]
 dsimp only
 rw[h5]
end
end SL
namespace SL
open PySem PySem.Spec PyProof.Rows L2 DL
section
variable{X:Cx}{G:XD->Hp->Prop}{pos:Pos}
def nD(K:PySem.W.Frag)(f:DS->M (List D)):TE:=λσ H Q=>∃Hr δ O,Ev K Hr O H σ δ/\ok (GS (λ_ _=>False) Hr) (f δ) (λds=>∀l xs H1,aG H H1->H1 l=none->Reps K O H1 xs ds->Q (.ref l) (upd H1 l (.lst xs)))
theorem PDN.can{X:Cx}{e:Expr}{f:DS->M (List D)}(h:PDN X (λ_ _=>False) e f):PE X e (nD X.K f):=by
 obtain⟨t,p,h⟩:=h
 intro pins s σ H Q I hw
 obtain⟨Hr,δ,O,E,k⟩:=hw
 exact p pins s σ H Q I (h δ O σ H Q E k)
theorem ofM_thn{α β:Type}{g:XD->Sto->Prop}{r:M α}{h:α->M β}{μ:Sto}{k:β->Prop}(q:okR g (ofM (r.thn h) μ) k):okR g (ofM r μ) (λa=>okR g (ofM (h a) μ) k):=by
 match r,q with
 | some (.ok a),q=>exact q
 | some (.error x),q=>exact q
def compN(f:DS->M (List D)):List D->M (List (List D))
 | []=>M.ret []
 | d::ds=>(nX f [.vl d]).thn λr=>if aM r=true then (compN f ds).thn λb7=>M.ret (r::b7) else none
def ei(k:Nat):List (List D)->List Val->Sto->Sto
 | [],_,μ=>μ
 | r::rs,hs,μ=>ei k rs (hs++[Val.h μ.length]) ((μ++[Ob.lst (r.map Val.d)]).set k (Ob.lst (hs++[Val.h μ.length])))
def sCompN(fi:DS->M (List D))(f:DS->M (List D)):aq->Sto->R (Val×Sto):=λδ μ=>(ofM (fi (viewL 0 μ δ)) μ).thn λds=>if aL ds.length=true then (ofM (compN f ds) μ).thn λrows=>R.ret (.h μ.length,ei μ.length rows [] (μ++[.lst []])) else none
theorem compN_run{wi:TI}{fi:DS->M (List D)}{f:DS->M (List D)}(hi:∀{Hr:Hp} (δ:DS) (O:List Addr) (σ:DL.St) (H:Hp) (R:It->Hp->Prop),Ev X.K Hr O H σ δ->ok (GS G Hr) (fi δ) (λds=>∀J H1,aG H H1->Yl X.K J O H1 ds->R J H1)->wi σ H R)
  (A:An) (δ:aq) (μ:Sto) (O:List Addr) (α:List (Option Addr)) (σ:L2.St) (H:Hp) (Q:VK) (E:SEv X.K X.mg A O α H σ δ μ) (k:okR (Er X.K X.mg G A.R0 O α H) (sCompN fi f δ μ) (λr=>∀v O' α' H',Go O α H O' α' H'->SR X.K X.mg A.R0 O' α' H' r.2->VR X.K O' α' H' v r.1->Q v H')) :
  tCompG 1 [] wi (gD X.K (tgN 0)) (cD X.K er) (nD X.K f) σ H Q:=by
 have hv:=E.viewL (n:=0) (O':=A.R0) E.sr.sub λk a xs ha _ hx=>by
  obtain⟨ob,h1,h2⟩:=E.sr.at_ k a ha
  rw[hx] at h1
  cases h1
  exact h2.2.1
 refine hi (viewL 0 μ δ) A.R0 σ H _ hv (al (ez E.sr (ax k)) λds z J H1 s1 Y=>?_)
 by_cases hsz:aL ds.length=true
 case neg =>
  rw[if_neg hsz] at z
  exact z.elim
 rw[if_pos hsz] at z
 intro l hl
 have E1:=E.same s1
 have hv1:=hv.same s1
 have S0:=E1.sr.newL hl (VRs.nil (K:=X.K) (O:=O) (α:=α) (H:=H1))
 have z:=ax z
 refine⟨λi m τ xs H2=>m=ds.length-i/\i<=ds.length/\xs.length<=i/\H2 l=some (.lst xs)/\∃δc hs μ2 O2 α2,EC X.K A.R0 H1 l H2 τ δc/\δc.length=1/\SR X.K X.mg A.R0 O2 α2 H2 μ2/\Go O α H O2 α2 H2/\α2[μ.length]?=some (some l)/\μ2[μ.length]?=some (.lst hs) /\
  okR (Er X.K X.mg G A.R0 O α H) (ofM (compN f (ds.drop i)) μ) (λrows=>∀v O' α' H',Go O α H O' α' H'->SR X.K X.mg A.R0 O' α' H' (ei μ.length rows hs μ2)->VR X.K O' α' H' v (.h μ.length)->Q v H'),?_,?_⟩
 ·refine⟨_,rfl,Nat.zero_le _,Nat.le_refl _,aP,_,[],_,_,_,slot_of (fr:=[]) hv1 1 hl,rfl,S0,(Go.same s1).trans (Go.newL hl),E.sr.at_new,by simp,?_⟩
  exact az z λrows q v O' α' H' T S r=>q v O' α' H' T S r
 rintro i m τ xs H2 ⟨rfl,hi',hx,h2,δc,hs2,μ2,O2,α2,Ec,hδ,S2,T2,a2,m2,kc⟩
 have kp:Kp l H1 H2:=λb o hb e=>Ec.keep b o hb e
 refine⟨h2,?_⟩
 have T:To A.R0 (l::A.R0) H1 H2:=kp.to hl
 by_cases hlt:i<ds.length
 ·right
  have hd:ds[i]?=some ds[i]:=List.getElem?_eq_getElem hlt
  obtain⟨go,yl⟩:=Y.step (l::A.R0) H2 T i _ hd
  refine⟨go,Nat.lt_of_le_of_lt hx (Nat.lt_of_lt_of_le hlt (bE hsz)),λy H3 hy=>?_⟩
  obtain⟨s3,rx⟩:=yl y H3 hy
  rw[gS hd] at kc
  obtain⟨s0,rfl⟩:∃s0,δc=[s0]:=by
   match δc,hδ with
   | [s0],_=>exact⟨s0,rfl⟩
  have kc:=ofM_thn (show okR _ (ofM ((nX f [.vl ds[i]]).thn _) μ) _ from kc)
  refine⟨_,_,_,_,[s0],[.vl ds[i]],ds[i],l::A.R0,Ec.same s3,rx,rfl,λτ' H4 E4 s4=>?_⟩
  refine⟨_,[.vl ds[i]],l::A.R0,E4.ev,λH5 s5=>?_⟩
  dsimp only
  rw[if_pos rfl]
  have E5:=E4.same s5
  have s25:=(s3.trans s4).trans s5
  refine⟨_,[.vl ds[i]],l::A.R0,E5.ev,?_⟩
  cases hf1:f [.vl ds[i]] with
  | none =>
   have:nX f [.vl ds[i]]=none:=by unfold nX;rw[hf1];rfl
   rw[this] at kc
   exact kc.elim
  | some rr =>
   cases rr with
   | error y =>
    have:nX f [.vl ds[i]]=none:=by unfold nX;rw[hf1];rfl
    rw[this] at kc
    exact kc.elim
   | ok row =>
    have en:nX f [.vl ds[i]]=some (.ok row):=by unfold nX;rw[hf1];rfl
    rw[en] at kc
    have kc:okR (Er X.K X.mg G A.R0 O α H) (ofM (if aM row=true then (compN f (ds.drop (i+1))).thn λb7=>M.ret (row::b7) else none) μ) _:=kc
    by_cases hf:aM row=true
    case neg =>
     rw[if_neg hf] at kc
     exact kc.elim
    rw[if_pos hf] at kc
    have kc:=ofM_thn kc
    intro l' xs' H6 s6 hl' rs
    have h6:H6 l=some (.lst xs):=s6 _ _ (s25 _ _ h2)
    have hne:l≠l':=λz=>by rw[z,hl'] at h6;cases h6
    have h7:(upd H6 l' (.lst xs')) l=some (.lst xs):=by rw[upd_ne hne];exact h6
    have S6:=S2.same (s25.trans s6)
    have rs':VRs X.K O2 α2 H6 xs' (row.map Val.d):=VRs.data (rs.flat hf)
    have S7:=S6.newL hl' rs'
    have a7:(α2++[some l'])[μ.length]?=some (some l):=by
     rw[List.getElem?_append_left (List.getElem?_eq_some_iff.mp a2).1]
     exact a2
    have m7:(μ2++[Ob.lst (row.map Val.d)])[μ.length]?=some (.lst hs2):=by
     rw[List.getElem?_append_left (List.getElem?_eq_some_iff.mp m2).1]
     exact m2
    obtain⟨ob,g1,g2⟩:=S7.at_ μ.length l a7
    rw[m7] at g1
    cases g1
    obtain⟨g3,g4,vs,g5,g6⟩:=g2
    rw[h7] at g5
    cases g5
    have rn:=g6.append (VRs.cons (VR.h (H:=upd H6 l' (.lst xs')) S6.at_new) VRs.nil)
    refine⟨h7,ds.length-(i+1),by omega,rfl,hlt,by rw[List.length_append];show xs.length+1<=i+1;omega,aP,[.vl ds[i]],_,_,_,_,EC.put ((E5.same s6).same (bm hl')) h7,rfl,S7.setL a7 m7 rn,((T2.trans (Go.same (s25.trans s6))).trans (Go.newL hl')).trans (Go.setL a7),a7,by rw[List.getElem?_set_self (by rw[List.length_append];have:=(List.getElem?_eq_some_iff.mp m2).1;omega)],?_⟩
    exact az kc λb7 q v O' α' H' T S r=>q v O' α' H' T S r
 ·left
  have e:i=ds.length:=by omega
  subst e
  rw[List.drop_length] at kc
  exact⟨Y.stop (l::A.R0) H2 T,kc (.ref l) O2 α2 H2 T2 S2 (.h a2)⟩
theorem sx_compN{cl:List (Str×Addr)}{x:Str}{elt iter tg:Expr}{scope:Scope}{fi:DS->M (List D)}{f:DS->M (List D)}(hc:X.calm=true)
  (hkind:scope.kind=.function) (hcell:∀y∈scope.names,y.2≠.cell) (hclos:closureFor scope X.env=pure cl) (hsub:∀y c,cl.lookup y=some c->X.env.cells.lookup y=some c)
  (hhas:∀y∈(relabel scope X.env).names,(y.2=.cell\/y.2=.free)->∃c,cl.lookup y.1=some c) (hnames:∀y∈scope.names,y.2=.local->scope.names.lookup y.1=some .local)
  (hi:PDI X G tg iter fi) (hg:∀C s3 H3 fp,PDG (aJ X scope cl [] [x] C s3 H3 fp) tg (tgN 0)) (hcs:∀C s3 H3 fp,PDTs (aJ X scope cl [] [x] C s3 H3 fp) [] er) (he:∀C s3 H3 fp,PDN (aJ X scope cl [] [x] C s3 H3 fp) (λ_ _=>False) elt f) (hs:∀x,foldedSetIterable iter X.env x=pure x:=by intro _;rfl) :
  SX X G (.ListComp elt [⟨tg,iter,[],0⟩] scope pos) (sCompN fi f):=by
 obtain⟨wi,pi,hi⟩:=hi
 refine⟨_,pe_compG (fr:=[]) (tn:=[x]) (g:=gD X.K (tgN 0)) (tc:=cD X.K er) (te:=nD X.K f) hc hkind hcell hclos hsub hhas (λp hp=>nomatch hp) hnames pi (λC s3 H3 fp=>(hg C s3 H3 fp).can) (λC s3 H3 fp=>(hcs C s3 H3 fp).can) (λC s3 H3 fp=>PDN.can (he C s3 H3 fp)) hs,λA δ μ O α σ H Q E k=>compN_run hi A δ μ O α σ H Q E k⟩
open Classical in
noncomputable def dr(k:Nat)(xs:List Val)(t:D->aq->Option aq)(g:aq->Sto->R OutS):List D->aq->Sto->R OutS
 | [],δ,μ=>if μ[k]?=some (.lst xs) then R.ret (.nx δ μ) else none
 | d::ds,δ,μ=>if μ[k]?=some (.lst xs) then (match t d δ with
  | none=>none
  | some δ1=>(g δ1 μ).thn λo=>match o with
   | .nx δ' μ'=>dr k xs t g ds δ' μ'
   | .ct δ' μ'=>dr k xs t g ds δ' μ'
   | .bk δ' μ'=>R.ret (.nx δ' μ')
   | .rt v μ'=>R.ret (.rt v μ')) else none
noncomputable def sForTI(en:Bool)(t:D->aq->Option aq)(f:aq->Sto->R (Val×Sto))(g:SG):SG:=λn δ μ=>(f δ μ).thn λr=>match r.1 with
 | .h k=>match r.2[k]? with
  | some (.lst xs)=>match fw xs with
   | some ds=>dr k xs t (g n) (if en then cb 0 ds else ds) δ r.2
   | none=>none
  | _=>none
 | _=>none
variable{f:aq->Sto->R (Val×Sto)}
theorem ss_forTD{tg iter:Expr}{body:List Stmt}{t:D->aq->Option aq}{g:SG}(hp:PassesOwn (model X.prog X.w) X.A X.env X.xe)(hc:X.calm=true)(hi:SX X G iter f)(hg:SGT X tg t)(hb:SSs X G body g)
  (hs:∀x,foldedSetIterable iter X.env x=pure x:=by intro _;rfl):SS X G (.For tg iter body [] pos) (sForTI false t f g):=by
 obtain⟨ti,p,hi⟩:=hi
 obtain⟨tgt,pt,hg⟩:=hg
 obtain⟨tb,pb,hb⟩:=hb
 refine⟨_,ps_for hp hc (pi_list p) pt pb hs,λA δ μ O α σ H Dn E k=>?_⟩
 refine hi A δ μ O α σ H _ E (az (bi (ax k) λx μ h=>Er.go E.st h) λr z v O1 α1 H1 T1 S1 r1=>?_)
 have E1:=E.go T1 S1
 obtain⟨rv,rμ⟩:=r
 match rv,z,r1 with
 | .h kk,z,r1 =>
  obtain⟨l,hl,rfl⟩:=r1.hinv
  dsimp only at z
  obtain⟨ob,g1,g2⟩:=S1.at_ kk l hl
  rw[g1] at z
  match ob,z,g1,g2 with
  | .lst xs,z,g1,g2 =>
   dsimp only at z
   cases hdo:fw xs with
   | none=>rw[hdo] at z;exact z.elim
   | some ds =>
    rw[hdo] at z
    have hxs:=ij hdo
    subst hxs
    dsimp only at z
    rw[if_neg Bool.false_ne_true] at z
    obtain⟨g3,g4,vs,g5,g6⟩:=g2
    refine⟨l,rfl,⟨vs,.inl (.inl g5)⟩,?_⟩
    refine⟨λi' m σ2 H2=>m=ds.length-i'/\i'<=ds.length/\∃δ2 μ2 O2 α2,SEv X.K X.mg A O2 α2 H2 σ2 δ2 μ2/\Go O α H O2 α2 H2/\α2[kk]?=some (some l)/\okR (Er X.K X.mg G A.R0 A.O A.α A.H) (dr kk (ds.map Val.d) t (g A.α.length) (ds.drop i') δ2 μ2) (FinS X.K X.mg A O α H Dn),⟨_,rfl,Nat.zero_le _,δ,rμ,O1,α1,E1,T1,hl,z⟩,?_⟩
    rintro i' m σ2 H2 ⟨rfl,hi',δ2,μ2,O2,α2,E2,T,hl2,k2⟩
    by_cases hlt:i'<ds.length
    ·right
     have hd:(ds.map Val.d)[i']?=some (.d ds[i']):=by rw[List.getElem?_map,List.getElem?_eq_getElem hlt];rfl
     have hdrop:ds.drop i'=ds[i']::ds.drop (i'+1):=List.drop_eq_getElem_cons hlt
     rw[hdrop] at k2
     unfold dr at k2
     by_cases hm:μ2[kk]?=some (.lst (ds.map Val.d))
     ·rw[if_pos hm] at k2
      obtain⟨ob2,u1,u2⟩:=E2.sr.at_ kk l hl2
      rw[hm] at u1
      cases u1
      obtain⟨u3,u4,vs2,u5,u6⟩:=u2
      obtain⟨x,hx,rx⟩:=u6.get hd
      refine⟨⟨vs2,x,.inl (.inl u5),hx⟩,λσ' H'=>∃δ2 μ2 O2 α2,SEv X.K X.mg A O2 α2 H' σ' δ2 μ2/\Go O α H O2 α2 H'/\α2[kk]?=some (some l)/\okR (Er X.K X.mg G A.R0 A.O A.α A.H) (dr kk (ds.map Val.d) t (g A.α.length) (ds.drop (i'+1)) δ2 μ2) (FinS X.K X.mg A O α H Dn),λσ' H' h=>⟨_,by omega,rfl,hlt,h⟩,λy H3 hy=>?_⟩
      obtain⟨rfl,hy⟩:=hy
      have ey:=hy vs2 (.inl (.inl u5))
      rw[hx] at ey
      cases ey
      cases h3:t ds[i'] δ2 with
      | none=>rw[h3] at k2;exact k2.elim
      | some δ3 =>
       rw[h3] at k2
       refine hg A δ2 δ3 ds[i'] _ O2 α2 σ2 μ2 _ _ E2 rx.dinv h3 λσ4 E4=>?_
       refine hb A δ3 μ2 O2 α2 σ4 _ _ E4 (az (ax k2) λo z=>?_)
       cases o with
       | nx δ5 μ5=>exact λO5 α5 σ5 H5 E5 T5=>⟨δ5,μ5,O5,α5,E5,T.trans T5,T5.ex _ _ hl2,z⟩
       | ct δ5 μ5=>exact λO5 α5 σ5 H5 E5 T5=>⟨δ5,μ5,O5,α5,E5,T.trans T5,T5.ex _ _ hl2,z⟩
       | bk δ5 μ5=>exact λO5 α5 σ5 H5 E5 T5=>z O5 α5 σ5 H5 E5 (T.trans T5)
       | rt v μ5=>exact z
     ·rw[if_neg hm] at k2;exact k2.elim
    ·left
     have e:i'=ds.length:=by omega
     subst e
     rw[List.drop_length] at k2
     unfold dr at k2
     by_cases hm:μ2[kk]?=some (.lst (ds.map Val.d))
     ·rw[if_pos hm] at k2
      obtain⟨ob2,u1,u2⟩:=E2.sr.at_ kk l hl2
      rw[hm] at u1
      cases u1
      obtain⟨u3,u4,vs2,u5,u6⟩:=u2
      exact⟨⟨vs2,.inl (.inl u5),by rw[u6.length,List.length_map];exact Nat.le_refl _⟩,k2 O2 α2 σ2 H2 E2 T⟩
     ·rw[if_neg hm] at k2;exact k2.elim
theorem ss_forTE{elts:List Expr}{x1:Nat}{tpos p ipos:Pos}{a:Expr}{body:List Stmt}{t:D->aq->Option aq}{g:SG}(hp:PassesOwn (model X.prog X.w) X.A X.env X.xe)(hc:X.calm=true)(hgl:Gl X "enumerate")(hmg:X.mg "enumerate" = none)(hi:SX X G a f)(hg:SGT X (.Tuple elts x1 tpos) t)(hb:SSs X G body g)
  (hs:∀x,foldedSetIterable (.Call (.Name "enumerate" p) [a] [] ipos) X.env x=pure x:=by intro _;rfl) (hst:starEach [a] X.env=(false,eval a X.env)::starEach [] X.env:=by rfl) (hst1:starEach [a] X.env=[(false,eval a X.env)]:=by rfl):SS X G (.For (.Tuple elts x1 tpos) (.Call (.Name "enumerate" p) [a] [] ipos) body [] pos) (sForTI true t f g):=by
 obtain⟨ti,pe,hi⟩:=hi
 obtain⟨tgt,pt,hg⟩:=hg
 obtain⟨tb,pb,hb⟩:=hb
 refine⟨_,ps_for hp hc (pi_enum hgl hmg (gp pe pa_nil hst) hst1) pt pb hs,λA δ μ O α σ H Dn E k=>?_⟩
 refine hi A δ μ O α σ H _ E (az (bi (ax k) λx μ h=>Er.go E.st h) λr z v O1 α1 H1 T1 S1 r1=>?_)
 have E1:=E.go T1 S1
 obtain⟨rv,rμ⟩:=r
 match rv,z,r1 with
 | .h kk,z,r1 =>
  obtain⟨l,hl,rfl⟩:=r1.hinv
  dsimp only at z
  obtain⟨ob,g1,g2⟩:=S1.at_ kk l hl
  rw[g1] at z
  match ob,z,g1,g2 with
  | .lst xs,z,g1,g2 =>
   dsimp only at z
   cases hdo:fw xs with
   | none=>rw[hdo] at z;exact z.elim
   | some ds =>
    rw[hdo] at z
    have hxs:=ij hdo
    subst hxs
    dsimp only at z
    rw[if_pos rfl] at z
    obtain⟨g3,g4,vs,g5,g6⟩:=g2
    have hel:(cb 0 ds).length=ds.length:=enumD_len 0 ds
    refine⟨l,rfl,⟨vs,.inl (.inl g5)⟩,?_⟩
    refine⟨λi' m σ2 H2=>m=ds.length-i'/\i'<=ds.length/\∃δ2 μ2 O2 α2,SEv X.K X.mg A O2 α2 H2 σ2 δ2 μ2/\Go O α H O2 α2 H2/\α2[kk]?=some (some l)/\okR (Er X.K X.mg G A.R0 A.O A.α A.H) (dr kk (ds.map Val.d) t (g A.α.length) ((cb 0 ds).drop i') δ2 μ2) (FinS X.K X.mg A O α H Dn),⟨_,rfl,Nat.zero_le _,δ,rμ,O1,α1,E1,T1,hl,z⟩,?_⟩
    rintro i' m σ2 H2 ⟨rfl,hi',δ2,μ2,O2,α2,E2,T,hl2,k2⟩
    by_cases hlt:i'<ds.length
    ·right
     have hd:(ds.map Val.d)[i']?=some (.d ds[i']):=by rw[List.getElem?_map,List.getElem?_eq_getElem hlt];rfl
     have hlt2:i'<(cb 0 ds).length:=by rw[hel];exact hlt
     obtain⟨w,hw,ew⟩:=iK (List.getElem?_eq_getElem hlt2)
     rw[List.getElem?_eq_getElem hlt] at hw
     cases hw
     rw[Nat.zero_add] at ew
     have hdrop:(cb 0 ds).drop i'=.tuple [.int (i':Int),ds[i']]::(cb 0 ds).drop (i'+1):=by rw[<-ew];exact List.drop_eq_getElem_cons hlt2
     rw[hdrop] at k2
     unfold dr at k2
     by_cases hm:μ2[kk]?=some (.lst (ds.map Val.d))
     ·rw[if_pos hm] at k2
      obtain⟨ob2,u1,u2⟩:=E2.sr.at_ kk l hl2
      rw[hm] at u1
      cases u1
      obtain⟨u3,u4,vs2,u5,u6⟩:=u2
      obtain⟨x,hx,rx⟩:=u6.get hd
      refine⟨⟨vs2,x,.inl (.inl u5),hx⟩,λσ' H'=>∃δ2 μ2 O2 α2,SEv X.K X.mg A O2 α2 H' σ' δ2 μ2/\Go O α H O2 α2 H'/\α2[kk]?=some (some l)/\okR (Er X.K X.mg G A.R0 A.O A.α A.H) (dr kk (ds.map Val.d) t (g A.α.length) ((cb 0 ds).drop (i'+1)) δ2 μ2) (FinS X.K X.mg A O α H Dn),λσ' H' h=>⟨_,by omega,rfl,hlt,h⟩,λy H3 hy=>?_⟩
      obtain⟨T',rfl,hT',hy⟩:=hy
      have e3:=hy vs2 x (.inl (.inl u5)) hx
      subst e3
      have E3:=E2.same (bm (o:=.tup [.int (i':Int),x]) hT')
      have T3:=T.trans (Go.same (bm (o:=.tup [.int (i':Int),x]) hT'))
      have rt:Rep X.K O2 (upd H2 T' (.tup [.int (i':Int),x])) (.ref T') (.tuple [.int (i':Int),ds[i']]):=rep_newT hT' (.cons (.int _) (.cons rx.dinv .nil))
      cases h3:t (.tuple [.int (i':Int),ds[i']]) δ2 with
      | none=>rw[h3] at k2;exact k2.elim
      | some δ3 =>
       rw[h3] at k2
       refine hg A δ2 δ3 _ _ O2 α2 σ2 μ2 _ _ E3 rt h3 λσ4 E4=>?_
       refine hb A δ3 μ2 O2 α2 σ4 _ _ E4 (az (ax k2) λo z=>?_)
       cases o with
       | nx δ5 μ5=>exact λO5 α5 σ5 H5 E5 T5=>⟨δ5,μ5,O5,α5,E5,T3.trans T5,T5.ex _ _ hl2,z⟩
       | ct δ5 μ5=>exact λO5 α5 σ5 H5 E5 T5=>⟨δ5,μ5,O5,α5,E5,T3.trans T5,T5.ex _ _ hl2,z⟩
       | bk δ5 μ5=>exact λO5 α5 σ5 H5 E5 T5=>z O5 α5 σ5 H5 E5 (T3.trans T5)
       | rt v μ5=>exact z
     ·rw[if_neg hm] at k2;exact k2.elim
    ·left
     have e:i'=ds.length:=by omega
     subst e
     rw[<-hel,List.drop_length] at k2
     unfold dr at k2
     by_cases hm:μ2[kk]?=some (.lst (ds.map Val.d))
     ·rw[if_pos hm] at k2
      obtain⟨ob2,u1,u2⟩:=E2.sr.at_ kk l hl2
      rw[hm] at u1
      cases u1
      obtain⟨u3,u4,vs2,u5,u6⟩:=u2
      exact⟨⟨vs2,.inl (.inl u5),by rw[u6.length,List.length_map];exact Nat.le_refl _⟩,k2 O2 α2 σ2 H2 E2 T⟩
     ·rw[if_neg hm] at k2;exact k2.elim
theorem es_forTI{en:Bool}{k n:Nat}{t:D->aq->Option aq}{g:SG}{δ:aq}{μ μ':Sto}{ds:List D}{r:R OutS}(h1:f δ μ=R.ret (.h k,μ'))(h2:μ'[k]?=some (.lst (ds.map Val.d)))(h3:dr k (ds.map Val.d) t (g n) (if en then cb 0 ds else ds) δ μ'=r):sForTI en t f g n δ μ=r:=by
 unfold sForTI
 rw[h1,aW]
 dsimp only
 rw[h2]
 dsimp only
 rw[dataOf_map]
 exact h3
theorem forTI_nil{k:Nat}{xs:List Val}{t:D->aq->Option aq}{g:aq->Sto->R OutS}{δ:aq}{μ:Sto}(h:μ[k]?=some (.lst xs)):dr k xs t g [] δ μ=R.ret (.nx δ μ):=by
 unfold dr
 rw[if_pos h]
theorem fq{k:Nat}{xs:List Val}{t:D->aq->Option aq}{g:aq->Sto->R OutS}{δ δ1 δ':aq}{μ μ':Sto}{d:D}{ds:List D}{r:R OutS}(h:μ[k]?=some (.lst xs))(ht:t d δ=some δ1)(h1:g δ1 μ=R.ret (.nx δ' μ'))(h2:dr k xs t g ds δ' μ'=r):dr k xs t g (d::ds) δ μ=r:=by
 unfold dr
 rw[if_pos h,ht]
 dsimp only
 rw[h1]
 exact h2
theorem es_compN{fi:DS->M (List D)}{fn:DS->M (List D)}{δ:aq}{μ:Sto}{ds:List D}{rows:List (List D)}(h1:fi (viewL 0 μ δ)=M.ret ds)(hz:aL ds.length=true)(h2:compN fn ds=M.ret rows):sCompN fi fn δ μ=R.ret (.h μ.length,ei μ.length rows [] (μ++[.lst []])):=by
 unfold sCompN
 rw[h1]
 show(if aL ds.length=true then _ else _)=_
 rw[if_pos hz,h2]
 rfl
end
end SL
namespace DL
open PySem PySem.Spec PyProof.Rows L2
section
variable{X:Cx}{G:XD->Hp->Prop}{e:Expr}{f:DS->M D}{pos p2:Pos}{lo hi:Option Expr}{fl fh:DS->M (Option Int)}
end
end DL
namespace SL
open PySem PySem.Spec PyProof.Rows L2 DL
def cY:List (Option D)->Option (List D)
 | []=>some []
 | some d::r=>(cY r).map (d :: ·)
 | none::_=>none
def lvN:Nat->Sto->Val->Option D
 | 0=>λ_ v=>match v with
  | .d x=>some x
  | _=>none
 | f+1=>λμ v=>match v with
  | .d x=>some x
  | .h k=>match μ[k]? with
   | some (.lst xs)=>(cY (xs.map (lvN f μ))).map PyData.list
   | some (.ins c fs)=>(cY ((fs.map (·.2)).map (lvN f μ))).map λds=>iY c ((fs.map (·.1)).zip ds)
   | _=>none
  | .t xs=>(cY (xs.map (lvN f μ))).map PyData.tuple
theorem allS_len:∀{l:List (Option D)} {ds:List D},cY l=some ds->ds.length=l.length
 | [],ds,h=>by cases h;rfl
 | none::r,ds,h=>by cases h
 | some d::r,ds,h=>by
  have h:(cY r).map (d :: ·)=some ds:=h
  cases e:cY r with
  | none=>rw[e] at h;cases h
  | some q=>rw[e] at h;cases h;rw[List.length_cons,List.length_cons,allS_len e]
section
variable{K:PySem.W.Frag}{mg:Str->Option Value}{A:An}{R0 O O':List Addr}{α:List (Option Addr)}{H:Hp}{μ:Sto}{σ:L2.St}{δ:aq}
theorem lvNs_rep{f:Nat}(ih:∀{v:V} {x:Val} {d:D},VR K O α H v x->lvN f μ x=some d->Rep K O' H v d):∀{xs:List Val} {vs:List V} {ds:List D},VRs K O α H vs xs->cY (xs.map (lvN f μ))=some ds->Reps K O' H vs ds
 | [],_,ds,.nil,h=>by cases h;exact .nil
 | x::xs,_,ds,.cons r rs,h=>by
  rw[List.map_cons] at h
  cases e:lvN f μ x with
  | none=>rw[e] at h;cases h
  | some d =>
   rw[e] at h
   have h:(cY (xs.map (lvN f μ))).map (d :: ·)=some ds:=h
   cases e2:cY (xs.map (lvN f μ)) with
   | none=>rw[e2] at h;cases h
   | some q=>rw[e2] at h;cases h;exact .cons (ih r e) (lvNs_rep ih rs e2)
theorem lvN_rep(S:SR K mg R0 O α H μ)(T:To O O' H H)(hn:∀(k:Nat) (a:Addr),α[k]?=some (some a)->a∉O'):∀(f:Nat) {v:V} {x:Val} {d:D},VR K O α H v x->lvN f μ x=some d->Rep K O' H v d
 | 0,v,x,d,r,h=>by
  cases x with
  | d x=>cases h;exact Rep.to T r.dinv
  | h k=>cases h
  | t xs=>cases h
 | f+1,v,x,d,r,h=>by
  have ih:∀{v:V} {x:Val} {d:D},VR K O α H v x->lvN f μ x=some d->Rep K O' H v d:=λ{v x d}=>lvN_rep S T hn f
  cases x with
  | d x=>cases h;exact Rep.to T r.dinv
  | t xs =>
   obtain⟨a,vs,rfl,hs,rs⟩:=r.tinv
   have h:(cY (xs.map (lvN f μ))).map PyData.tuple=some d:=h
   cases e:cY (xs.map (lvN f μ)) with
   | none=>rw[e] at h;cases h
   | some ds=>rw[e] at h;cases h;exact .tup hs (lvNs_rep ih rs e)
  | h k =>
   obtain⟨a,ha,rfl⟩:=r.hinv
   obtain⟨ob,g1,g2⟩:=S.at_ k a ha
   have h:(match μ[k]? with
    | some (.lst xs)=>(cY (xs.map (lvN f μ))).map PyData.list
    | some (.ins c fs)=>(cY ((fs.map (·.2)).map (lvN f μ))).map λds=>iY c ((fs.map (·.1)).zip ds)
    | _=>none)=some d:=h
   rw[g1] at h
   cases ob with
   | lst xs =>
    have h:(cY (xs.map (lvN f μ))).map PyData.list=some d:=h
    obtain⟨_,_,vs,g5,g6⟩:=g2
    cases e:cY (xs.map (lvN f μ)) with
    | none=>rw[e] at h;cases h
    | some ds=>rw[e] at h;cases h;exact .lst (.inl g5) (hn k a ha) (lvNs_rep ih g6 e)
   | ins c fs =>
    have h:(cY ((fs.map (·.2)).map (lvN f μ))).map (λds=>iY c ((fs.map (·.1)).zip ds))=some d:=h
    obtain⟨_,_,C,dx,vfs,g3,g4,g5,g6⟩:=g2
    cases e:cY ((fs.map (·.2)).map (lvN f μ)) with
    | none=>rw[e] at h;cases h
    | some ds =>
     rw[e] at h
     cases h
     have hl:ds.length=fs.length:=by have:=allS_len e;rw[List.length_map,List.length_map] at this;exact this
     have e1:((fs.map (·.1)).zip ds).map (·.1)=fs.map (·.1):=List.map_fst_zip (by rw[List.length_map];omega)
     have e2:((fs.map (·.1)).zip ds).map (·.2)=ds:=List.map_snd_zip (by rw[List.length_map];omega)
     exact .ins g3 g4 (hn k a ha) (by rw[e1];exact g5) (by rw[e2];exact lvNs_rep ih g6 e)
   | dct es=>cases h
   | gone=>cases h
def v1N(f:Nat)(μ:Sto):Option Val->Sl
 | some x=>match lvN f μ x with
  | some d=>.vl d
  | none=>.un
 | none=>.un
def viewN(f:Nat)(μ:Sto)(δ:aq):DS:=δ.map (v1N f μ)
theorem viewN_get{f i:Nat}{s:Sl}(h:(viewN f μ δ)[i]?=some s):(∃x d,δ[i]?=some (some x)/\lvN f μ x=some d/\s=.vl d)\/s=.un:=by
 unfold viewN at h
 rw[List.getElem?_map] at h
 cases e:δ[i]? with
 | none=>rw[e] at h;cases h
 | some o =>
  rw[e] at h
  cases o with
  | none=>cases h;exact .inr rfl
  | some x =>
   have h:some (match lvN f μ x with | some d=>Sl.vl d | none=>.un)=some s:=h
   cases e2:lvN f μ x with
   | none=>rw[e2] at h;cases h;exact .inr rfl
   | some d=>rw[e2] at h;cases h;exact .inl ⟨x,d,rfl,e2,rfl⟩
theorem SR.apart(S:SR K mg R0 O α H μ){k:Nat}{a:Addr}(h:α[k]?=some (some a)):a∉R0:=by
 obtain⟨ob,_,g⟩:=S.at_ k a h
 cases ob with
 | lst xs=>exact g.2.1
 | dct es=>exact g.2.1
 | ins c fs=>exact g.2.1
 | gone=>exact g.elim
theorem SEv.viewN{f:Nat}(E:SEv K mg A O α H σ δ μ):Ev K H A.R0 H σ (SL.viewN f μ δ):=by
 have T:To O A.R0 H H:=.less E.sr.sub
 refine⟨aG.refl H,λl hl=>E.sr.oo l (E.sr.sub l hl),by unfold SL.viewN;rw[List.length_map];exact E.len,λi s h=>?_,λi j l ds es hij h1=>?_⟩
 ·rcases viewN_get h with ⟨x,d,h1,h2,rfl⟩ | rfl
  ·obtain⟨v,g1,g2⟩:=E.at_ i _ h1
   exact⟨v,g1,lvN_rep E.sr T (λk a h=>E.sr.apart h) f g2 h2⟩
  ·trivial
 ·rcases viewN_get h1 with ⟨x,d,_,_,z⟩ | z<;>cases z
end
section
variable{X:Cx}{G:XD->Hp->Prop}{a b c e o:Expr}{es b7:List Expr}{pos pos':Pos}{st:Stmt}{sts sts':List Stmt}
def bJ(f:DS->M D):aq->Sto->R (Val×Sto):=λδ μ=>(ofM (f (viewN 4 μ δ)) μ).thn λd=>if bM d=true then R.ret (.d d,μ) else none
theorem bU{f:DS->M D}(h:PD X G e f):SX X G e (bJ f):=by
 obtain⟨t,p,h⟩:=h
 refine⟨t,p,λA δ μ O α σ H Q E k=>?_⟩
 refine h (viewN 4 μ δ) A.R0 σ H Q E.viewN (al (ez E.sr (ax k)) λd z v H' s r=>?_)
 by_cases hf:bM d=true
 ·rw[if_pos hf] at z
  exact z v O α H' (Go.same s) (E.sr.same s) (.d (r.flat hf))
 ·rw[if_neg hf] at z;exact z.elim
def sTestN(fb:DS->M Bool):aq->Sto->R (Bool×Sto):=λδ μ=>(ofM (fb (viewN 4 μ δ)) μ).thn λb=>R.ret (b,μ)
theorem st_testN{fb:DS->M Bool}(h:PDT X G e fb):ST X G e (sTestN fb):=by
 obtain⟨t,p,h⟩:=h
 refine⟨t,p,λA δ μ O α σ H Q E k=>?_⟩
 exact h (viewN 4 μ δ) A.R0 σ H Q E.viewN (al (ez E.sr (ax k)) λb z H' s=>z O α H' (Go.same s) (E.sr.same s))
def hG(fn:DS->M (List D)):aq->Sto->R (Val×Sto):=λδ μ=>(ofM (fn (viewN 4 μ δ)) μ).thn λds=>if aM ds=true then R.ret (.h μ.length,μ++[.lst (ds.map Val.d)]) else none
theorem gi{fn:DS->M (List D)}(he:PDN X G e fn):SX X G e (hG fn):=by
 obtain⟨t,p,he⟩:=he
 refine⟨t,p,λA δ μ O α σ H Q E k=>?_⟩
 refine he (viewN 4 μ δ) A.R0 σ H _ E.viewN (al (ez E.sr (ax k)) λds z l xs H1 s1 hl rx=>?_)
 by_cases hf:aM ds=true
 ·rw[if_pos hf] at z
  have E1:=E.same s1
  exact z _ (l::O) (α++[some l]) _ ((Go.same s1).trans (Go.newL hl)) (E1.sr.newL hl (VRs.data (α:=α) (rx.flat hf))) (.h E.sr.at_new)
 ·rw[if_neg hf] at z;exact z.elim
def iU(f:DS->M D):aq->Sto->R (Val×Sto):=λδ μ=>(ofM (f (viewN 4 μ δ)) μ).thn λd=>match d with
 | .list ds=>if aM ds=true then R.ret (.h μ.length,μ++[.lst (ds.map Val.d)]) else none
 | _=>none
theorem sx_newFN{f:DS->M D}(he:PDF X G e f):SX X G e (iU f):=by
 obtain⟨t,p,he⟩:=he
 refine⟨t,p,λA δ μ O α σ H Q E k=>?_⟩
 refine he (viewN 4 μ δ) A.R0 σ H _ E.viewN (al (ez E.sr (ax k)) λd z=>?_)
 match d,z with
 | .list ds,z =>
  dsimp only at z
  by_cases hf:aM ds=true
  ·rw[if_pos hf] at z
   exact⟨ds,rfl,hf,λl xs H' s hl hx rx=>z _ (l::O) (α++[some l]) H' (Go.adopt s hl) (E.sr.adopt s hl hx rx hf) (.h E.sr.at_new)⟩
  ·rw[if_neg hf] at z;exact z.elim
end
end SL
namespace SL
open PySem PySem.Spec PyProof.Rows L2 DL
section
variable{K:PySem.W.Frag}{mg:Str->Option Value}{A:An}{R0 O O':List Addr}{α:List (Option Addr)}{H:Hp}{μ:Sto}
theorem VRs.look{f:Str}{x:Val}:∀{vfs:List (Str×V)} {fs:List (Str×Val)},vfs.map (·.1)=fs.map (·.1)->VRs K O α H (vfs.map (·.2)) (fs.map (·.2))->fs.lookup f=some x->∃v,vfs.lookup f=some v/\VR K O α H v x
 | [],[],_,_,h=>by cases h
 | [],_::_,hk,_,_=>by cases hk
 | _::_,[],hk,_,_=>by cases hk
 | (g,v)::vfs,(g2,y)::fs,hk,r,h=>by
  simp only[List.map_cons,List.cons.injEq] at hk
  obtain⟨rfl,hk⟩:=hk
  cases r with
  | cons r rs =>
   cases hb:(f==g) with
   | true =>
    simp only[List.lookup,hb] at h ⊢
    cases h
    exact⟨v,rfl,r⟩
   | false =>
    simp only[List.lookup,hb] at h ⊢
    exact VRs.look hk rs h
theorem look_none{f:Str}:∀{vfs:List (Str×V)} {fs:List (Str×Val)},vfs.map (·.1)=fs.map (·.1)->fs.lookup f=none->vfs.lookup f=none
 | [],[],_,_=>rfl
 | [],_::_,hk,_=>by cases hk
 | _::_,[],hk,_=>by cases hk
 | (g,v)::vfs,(g2,y)::fs,hk,h=>by
  simp only[List.map_cons,List.cons.injEq] at hk
  obtain⟨rfl,hk⟩:=hk
  cases hb:(f==g) with
  | true=>simp only[List.lookup,hb] at h;cases h
  | false =>
   simp only[List.lookup,hb] at h ⊢
   exact look_none hk h
def fV(f:Str)(v:Val):List (Str×Val)->List (Str×Val)
 | []=>[(f,v)]
 | (g,x)::r=>if g=f then (g,v)::r else (g,x)::fV f v r
theorem put_both{f:Str}{v:V}{x:Val}(rv:VR K O α H v x):∀{vfs:List (Str×V)} {fs:List (Str×Val)},vfs.map (·.1)=fs.map (·.1)->VRs K O α H (vfs.map (·.2)) (fs.map (·.2))->(il f v vfs).map (·.1)=(fV f x fs).map (·.1)/\VRs K O α H ((il f v vfs).map (·.2)) ((fV f x fs).map (·.2))
 | [],[],_,_=>⟨rfl,.cons rv .nil⟩
 | [],_::_,hk,_=>by cases hk
 | _::_,[],hk,_=>by cases hk
 | (g,v')::vfs,(g2,y)::fs,hk,r=>by
  simp only[List.map_cons,List.cons.injEq] at hk
  obtain⟨rfl,hk⟩:=hk
  cases r with
  | cons r rs =>
   by_cases hg:g=f
   ·rw[il,fV,if_pos hg,if_pos hg]
    exact⟨by simp [hk],.cons rv rs⟩
   ·rw[il,fV,if_neg hg,if_neg hg]
    obtain⟨i1,i2⟩:=put_both rv hk rs
    exact⟨by simp [i1],.cons r i2⟩
theorem keys_len{vfs:List (Str×V)}{fs:List (Str×Val)}(h:vfs.map (·.1)=fs.map (·.1)):vfs.length=fs.length:=by
 have:=congrArg List.length h
 rwa[List.length_map,List.length_map] at this
theorem To.setI{l C dx:Addr}{fs ys:List (Str×V)}(hl:H l=some (.ins C dx fs))(ho:l∈O):To O O H (upd H l (.ins C dx ys)):=by
 have keep:∀{b:Addr} {o:HO},b≠l->Rd H b o->Rd (upd H l (.ins C dx ys)) b o:=λ{b o} hb h=>by
  rcases h with h | ⟨u,h⟩
  ·exact .inl (by rw[upd_ne hb];exact h)
  ·exact .inr ⟨u,by rw[upd_ne hb];exact h⟩
 refine⟨λb zs h=>keep ?_ h,λb zs n h=>⟨n,keep (λz=>n (z▸ho)) h⟩,λb zs n h=>⟨n,keep (λz=>n (z▸ho)) h⟩,λb C dx fs n h=>⟨n,by rw[upd_ne (show b≠l from λz=>n (z▸ho))];exact h⟩⟩
 rintro rfl
 rcases h with h | ⟨u,h⟩
 ·rw[hl] at h;cases h
 ·rw[hl] at h;cases h
theorem SR.setI(S:SR K mg R0 O α H μ){k:Nat}{a C dx:Addr}{c:Str}{fs fs':List (Str×Val)}{vfs vfs':List (Str×V)}(h:α[k]?=some (some a))(hk:μ[k]?=some (.ins c fs))(hH:H a=some (.ins C dx vfs))(hk':vfs'.map (·.1)=fs'.map (·.1))(r:VRs K O α H (vfs'.map (·.2)) (fs'.map (·.2))):SR K mg R0 O α (upd H a (.ins C dx vfs')) (μ.set k (.ins c fs')):=by
 obtain⟨ob,h1,h2⟩:=S.at_ k a h
 rw[hk] at h1
 cases h1
 obtain⟨ho,hn,C',dx',w,hN,hv,_⟩:=h2
 rw[hH] at hv
 cases hv
 have T:To O O H (upd H a (.ins C dx vfs')):=To.setI hH ho
 refine⟨by rw[List.length_set];exact S.len,S.nd,λl hl=>?_,S.sub,λj b hj=>?_⟩
 ·by_cases e:l=a
  ·subst e;exact .inr (.inr ⟨C,dx,vfs',aP⟩)
  ·exact(S.oo l hl).upd_ne e
 ·by_cases e:j=k
  ·subst e
   rw[h] at hj
   cases hj
   exact⟨.ins c fs',by rw[bX,if_pos rfl,if_pos (List.getElem?_eq_some_iff.mp hk).1],ho,hn,C,dx,vfs',hN,aP,hk',r.to T λ_ _ h=>h⟩
  ·obtain⟨ob,g1,g2⟩:=S.at_ j b hj
   have hb:b≠a:=λz=>e (S.nd j k a (z▸hj) h)
   exact⟨ob,by rw[bX,if_neg (λz=>e z.symm)];exact g1,g2.to T (λ_ _ h=>h) (λz=>z) (upd_ne hb)⟩
theorem SR.newI(S:SR K mg R0 O α H μ){l C dx:Addr}{c:Str}(hN:PySem.W.nsIn K mainGlobals c=some (some (.ref C)))(hl:H l=none):SR K mg R0 (l::O) (α++[some l]) (upd H l (.ins C dx [])) (μ++[.ins c []]):=by
 have T:To O (l::O) H (upd H l (.ins C dx [])):=To.own hl
 have e:∀(k:Nat) (a:Addr),α[k]?=some (some a)->(α++[some l])[k]?=some (some a):=λk a h=>by
  rw[List.getElem?_append_left (List.getElem?_eq_some_iff.mp h).1];exact h
 have cs:∀(k:Nat) (a:Addr),(α++[some l])[k]?=some (some a)->α[k]?=some (some a)\/(k=α.length/\a=l):=λk a h=>by
  by_cases hk:k<α.length
  ·rw[List.getElem?_append_left hk] at h;exact .inl h
  ·rw[List.getElem?_append_right (by omega)] at h
   have h0:k-α.length=0:=by
    have:=(List.getElem?_eq_some_iff.mp h).1
    simp at this
    omega
   rw[h0] at h
   simp at h
   exact .inr ⟨by omega,h.symm⟩
 have ne:∀(k:Nat) (a:Addr),α[k]?=some (some a)->a≠l:=λk a h z=>by
  obtain⟨o,h3,_⟩:=S.tracked h
  rw[z,hl] at h3;cases h3
 refine⟨by rw[List.length_append,List.length_append,S.len];rfl,λi j a h1 h2=>?_,λb hb=>?_,λb hb=>List.mem_cons_of_mem _ (S.sub b hb),λk a h=>?_⟩
 ·rcases cs i a h1 with h1 | ⟨h1,z⟩<;>rcases cs j a h2 with h2 | ⟨h2,z2⟩
  ·exact S.nd i j a h1 h2
  ·exact absurd z2 (ne i a h1)
  ·exact absurd z (ne j a h2)
  ·omega
 ·rcases List.mem_cons.mp hb with rfl | hb
  ·exact .inr (.inr ⟨C,dx,[],aP⟩)
  ·exact(S.oo b hb).new hl
 ·rcases cs k a h with h | ⟨rfl,rfl⟩
  ·obtain⟨ob,h1,h2⟩:=S.at_ k a h
   exact⟨ob,by rw[List.getElem?_append_left (List.getElem?_eq_some_iff.mp h1).1];exact h1,h2.to T e (λz=>List.mem_cons_of_mem _ z) (upd_ne (ne k a h))⟩
  ·refine⟨.ins c [],by rw[S.len,List.getElem?_append_right (Nat.le_refl _),Nat.sub_self];rfl,List.mem_cons_self,λz=>?_,C,dx,[],hN,aP,rfl,.nil⟩
   obtain⟨o,ho⟩:=(S.oo a (S.sub a z)).some
   rw[hl] at ho;cases ho
end
section
variable{X:Cx}{G:XD->Hp->Prop}{o e:Expr}{es:List Expr}{pos pos' apos cpos p:Pos}{fo fe:aq->Sto->R (Val×Sto)}{fa:aq->Sto->R (List Val×Sto)}{C:Addr}{c f:Str}
def sAt(c f:Str)(fo:aq->Sto->R (Val×Sto)):aq->Sto->R (Val×Sto):=λδ μ=>(fo δ μ).thn λr=>match r.1 with
 | .h k=>match r.2[k]? with
  | some (.ins c' fs)=>if c'=c then (match fs.lookup f with
   | some v=>R.ret (v,r.2)
   | none=>none) else none
  | _=>none
 | _=>none
theorem sx_at(ho:SX X G o fo)(hN:PySem.W.nsIn X.K mainGlobals c=some (some (.ref C)))(hc:Cls X.K C)(hn:NoAttr X.K C f)(hb:attributeBase o f X.env (eval o X.env)=eval o X.env:=by rfl):SX X G (.Attribute o f pos) (sAt c f fo):=by
 obtain⟨t,p,ho⟩:=ho
 refine⟨_,pe_fld p hb,λA δ μ O α σ H Q E k=>?_⟩
 refine ho A δ μ O α σ H _ E (az (ax k) λr z v O1 α1 H1 T1 S1 r1=>?_)
 obtain⟨p1,p2⟩:=r
 match p1,z,r1 with
 | .h k,z,r1 =>
  obtain⟨l,hl,rfl⟩:=r1.hinv
  obtain⟨ob,g1,g2⟩:=S1.at_ k l hl
  dsimp only at z
  rw[g1] at z
  match ob,z,g2 with
  | .ins c' fs,z,g2 =>
   obtain⟨_,_,C',dx,vfs,hN',g4,g5,g6⟩:=g2
   dsimp only at z
   by_cases hcc:c'=c
   ·rw[if_pos hcc] at z
    have zz:=z
    subst hcc
    have hC:C'=C:=by
     have:=hN'.symm.trans hN
     simp at this
     exact this
    subst hC
    cases hlk:fs.lookup f with
    | none=>rw[hlk] at zz;exact zz.elim
    | some x =>
     rw[hlk] at zz
     obtain⟨u,q1,q2⟩:=VRs.look g5 g6 hlk
     exact⟨l,C',dx,vfs,u,rfl,g4,hc,hn,q1,zz u O1 α1 H1 T1 S1 q2⟩
   ·rw[if_neg hcc] at z;exact z.elim
def et(c f:Str)(fo fe:aq->Sto->R (Val×Sto)):SG:=λ_ δ μ=>(fe δ μ).thn λr=>(fo δ r.2).thn λq=>match q.1 with
 | .h k=>match q.2[k]? with
  | some (.ins c' fs)=>if c'=c/\fs.length<1000 then R.ret (.nx δ (q.2.set k (.ins c (fV f r.1 fs)))) else none
  | _=>none
 | _=>none
theorem di(ho:SX X G o fo)(he:SX X G e fe)(hN:PySem.W.nsIn X.K mainGlobals c=some (some (.ref C)))(hc:Cls X.K C)(hn:NoAttr X.K C f)(hs:swapsWith e (some (.Attribute o f pos')) pos.line X.env=pure false:=by rfl):SS X G (.Assign [.Attribute o f pos'] e pos) (et c f fo fe):=by
 obtain⟨t,p,ho⟩:=ho
 obtain⟨u,q,he⟩:=he
 refine⟨_,ps_fld p q hs,λA δ μ O α σ H Dn E k=>?_⟩
 refine he A δ μ O α σ H _ E (az (bi (ax k) λx μ h=>Er.go E.st h) λr z v O1 α1 H1 T1 S1 r1=>?_)
 have E1:=E.go T1 S1
 refine ho A δ r.2 O1 α1 σ H1 _ E1 (az (bi (ax z) λx μ h=>Er.go E1.st h) λy w u' O2 α2 H2 T2 S2 r2=>?_)
 obtain⟨y1,y2⟩:=y
 match y1,w,r2 with
 | .h k,w,r2 =>
  obtain⟨l,hl,rfl⟩:=r2.hinv
  obtain⟨ob,g1,g2⟩:=S2.at_ k l hl
  dsimp only at w
  rw[g1] at w
  match ob,w,g2,g1 with
  | .ins c' fs,w,g2,g1 =>
   obtain⟨_,_,C',dx,vfs,hN',g4,g5,g6⟩:=g2
   dsimp only at w
   by_cases hcc:c'=c/\fs.length<1000
   ·rw[if_pos hcc] at w
    have ww:=w
    obtain⟨rfl,hlen⟩:=hcc
    have hC:C'=C:=by
     have:=hN'.symm.trans hN
     simp at this
     exact this
    subst hC
    have rv:VR X.K O2 α2 H2 v r.1:=r1.to (Go.to S1 T2) T2.ex
    obtain⟨i1,i2⟩:=put_both rv g5 g6
    have S3:=S2.setI hl g1 g4 i1 i2
    have T3:Go O2 α2 H2 O2 α2 (upd H2 l (.ins C' dx (il f v vfs))):=Go.setL hl
    exact⟨l,C',dx,vfs,rfl,g4,hc,hn,by rw[keys_len g5];exact hlen,ww O2 α2 σ _ ((E1.go T2 S2).go T3 S3) (T1.trans (T2.trans T3))⟩
   ·rw[if_neg hcc] at w;exact w.elim
structure DefSM(P:Program)(w:World)(K:PySem.W.Frag)(mg:Str->Option Value)(base:Heap)(k:Nat)(c m:Str)(n:Nat)(F:List Val->Sto->R (Val×Sto)):Prop where
 ex:∃(C f:Addr) (fd:FuncData) (ps:List Str),PySem.W.nsIn K mainGlobals c=some (some (.ref C))/\Cls K C/\Meth K C m f/\FnOk P w K mg base CX0 k f fd ps (spS K mg n F)/\fU K fd ps []
def sMet(c m:Str)(F:List Val->Sto->R (Val×Sto))(fo:aq->Sto->R (Val×Sto))(fa:aq->Sto->R (List Val×Sto)):aq->Sto->R (Val×Sto):=λδ μ=>(fo δ μ).thn λr=>match r.1 with
 | .h k=>match r.2[k]? with
  | some (.ins c' fs)=>if c'=c/\fs.lookup m=none then (fa δ r.2).thn λq=>noXR (F (.h k::q.1) q.2) else none
  | _=>none
 | _=>none
theorem sx_met{pl:Sem Bool}{k n:Nat}{m:Str}{F:List Val->Sto->R (Val×Sto)}(h:DefSM X.prog X.w X.K X.mg X.base k c m n F)(hr:Room k X.A)(hn:(e::es).length+1=n)(ho:SX X G o fo)(ha:SA X G (e::es) fa)
  (hst:starEach (e::es) X.env=(false,eval e X.env)::starEach es X.env:=by rfl) (hpl:(backTo pos (starEach es X.env)).any (·.1)=false:=by rfl)
  (ht:eval (.Call (.Attribute o m apos) (e::es) [] pos) X.env=(do
   let ov <- eval o X.env
   standAt apos.atName
   let (f,first) <- holding [ov] (getMethod ov m pl)
   callWith pos f first (backTo pos (starEach (e::es) X.env)) (backToKw pos (keywordEach [] X.env))):=by rfl) :
  SX X G (.Call (.Attribute o m apos) (e::es) [] pos) (sMet c m F fo fa):=by
 obtain⟨C,f0,fd,ps,hN,hc,hm,F1,hb⟩:=h.ex
 obtain⟨t,p,ho⟩:=ho
 obtain⟨hl,ta,pa,ha⟩:=ha
 refine⟨_,pe_meth (pl:=pl) p hc hm F1 hr hb .nil pass0 pa hst hpl ht,λA δ μ O α σ H Q E k=>?_⟩
 refine ho A δ μ O α σ H _ E (az (ax k) λr z v O1 α1 H1 T1 S1 r1=>?_)
 obtain⟨p1,p2⟩:=r
 match p1,z,r1 with
 | .h kk,z,r1 =>
  obtain⟨l,hl',rfl⟩:=r1.hinv
  obtain⟨ob,g1,g2⟩:=S1.at_ kk l hl'
  dsimp only at z
  rw[g1] at z
  match ob,z,g2 with
  | .ins c' fs,z,g2 =>
   obtain⟨_,_,C',dx,vfs,hN',g4,g5,g6⟩:=g2
   dsimp only at z
   by_cases hcc:c'=c/\fs.lookup m=none
   ·rw[if_pos hcc] at z
    have zz:=z
    obtain⟨rfl,hlk⟩:=hcc
    have hC:C'=C:=by
     have:=hN'.symm.trans hN
     simp at this
     exact this
    subst hC
    refine⟨l,dx,vfs,rfl,g4,look_none g5 hlk,?_⟩
    have E1:=E.go T1 S1
    have k1:=ax zz
    refine ha A δ p2 O1 α1 σ H1 _ E1 ?_
    cases e1:fa δ p2 with
    | none=>rw[e1] at k1;exact k1.elim
    | some r =>
     rw[e1] at k1
     cases r with
     | error x=>exact Er.go T1 k1
     | ok r =>
      refine λvs O2 α2 H2 T2 S2 rs=>?_
      refine⟨A.R0,O2,α2,r.2,.h kk::r.1,?_,S2,?_,az (okR_noX k1) λq y v O3 α3 H3 T3 S3 rv=>y v O3 α3 H3 (T1.trans (T2.trans T3)) S3 rv⟩
      ·rw[List.append_nil,List.length_cons,rs.length,hl δ p2 r e1];exact hn
      ·rw[List.append_nil];exact .cons (.h (T2.ex _ _ hl')) rs
   ·rw[if_neg hcc] at z;exact z.elim
theorem sx_met0{pl:Sem Bool}{k:Nat}{m:Str}{F:List Val->Sto->R (Val×Sto)}(h:DefSM X.prog X.w X.K X.mg X.base k c m 1 F)(hr:Room k X.A)(ho:SX X G o fo)
  (ht:eval (.Call (.Attribute o m apos) [] [] pos) X.env=(do
   let ov <- eval o X.env
   standAt apos.atName
   let (f,first) <- holding [ov] (getMethod ov m pl)
   callWith pos f first (backTo pos (starEach [] X.env)) (backToKw pos (keywordEach [] X.env))):=by rfl) :
  SX X G (.Call (.Attribute o m apos) [] [] pos) (sMet c m F fo sNil):=by
 obtain⟨C,f0,fd,ps,hN,hc,hm,F1,hb⟩:=h.ex
 obtain⟨t,p,ho⟩:=ho
 refine⟨_,pe_meth0 (pl:=pl) p hc hm F1 hr hb .nil pass0 ht,λA δ μ O α σ H Q E k=>?_⟩
 refine ho A δ μ O α σ H _ E (az (ax k) λr z v O1 α1 H1 T1 S1 r1=>?_)
 obtain⟨p1,p2⟩:=r
 match p1,z,r1 with
 | .h kk,z,r1 =>
  obtain⟨l,hl',rfl⟩:=r1.hinv
  obtain⟨ob,g1,g2⟩:=S1.at_ kk l hl'
  dsimp only at z
  rw[g1] at z
  match ob,z,g2 with
  | .ins c' fs,z,g2 =>
   obtain⟨_,_,C',dx,vfs,hN',g4,g5,g6⟩:=g2
   dsimp only at z
   by_cases hcc:c'=c/\fs.lookup m=none
   ·rw[if_pos hcc] at z
    have zz:=z
    obtain⟨rfl,hlk⟩:=hcc
    have hC:C'=C:=by
     have:=hN'.symm.trans hN
     simp at this
     exact this
    subst hC
    refine⟨l,dx,vfs,rfl,g4,look_none g5 hlk,?_⟩
    have z2:okR _ (noXR (F [.h kk] p2)) _:=zz
    exact⟨A.R0,O1,α1,p2,[.h kk],rfl,S1,.cons (.h hl') .nil,az (okR_noX z2) λq y v O3 α3 H3 T3 S3 rv=>y v O3 α3 H3 (T1.trans T3) S3 rv⟩
   ·rw[if_neg hcc] at z;exact z.elim
structure MkS(P:Program)(w:World)(K:PySem.W.Frag)(mg:Str->Option Value)(base:Heap)(k:Nat)(c:Str)(n:Nat)(F:List Val->Sto->R (Val×Sto)):Prop where
 ex:∃(C f:Addr) (fd:FuncData) (ps:List Str),PySem.W.nsIn K mainGlobals c=some (some (.ref C))/\mg c=some (.ref C)/\Mk K C f/\FnOk P w K mg base CX0 k f fd ps (spS K mg n F)/\fU K fd ps []
def sMk(c:Str)(F:List Val->Sto->R (Val×Sto))(fa:aq->Sto->R (List Val×Sto)):aq->Sto->R (Val×Sto):=λδ μ=>(fa δ μ).thn λr=>(noXR (F (.h r.2.length::r.1) (r.2++[.ins c []]))).thn λq=>match q.1 with
 | .d .none=>R.ret (.h r.2.length,q.2)
 | _=>none
theorem sx_mk{k n:Nat}{F:List Val->Sto->R (Val×Sto)}(h:MkS X.prog X.w X.K X.mg X.base k c n F)(hr:Room (k+1) X.A)(hg:Gl X c)(hn:(e::es).length+1=n)(ha:SA X G (e::es) fa)
  (hdb:(c==("__debug__" : Str))=false:=by decide) (he:starEach (e::es) X.env=(false,eval e X.env)::starEach es X.env:=by rfl) (hpl:(backTo pos (starEach es X.env)).any (·.1)=false:=by rfl) :
  SX X G (.Call (.Name c p) (e::es) [] pos) (sMk c F fa):=by
 obtain⟨C,f0,fd,ps,hN,hm,M,F1,hb⟩:=h.ex
 obtain⟨hl,t,pa,ha⟩:=ha
 refine⟨_,pe_make M F1 hr hg hm hb .nil pass0 pa hdb he hpl,λA δ μ O α σ H Q E k=>?_⟩
 have k1:=ax k
 refine ha A δ μ O α σ H _ E ?_
 cases e1:fa δ μ with
 | none=>rw[e1] at k1;exact k1.elim
 | some r =>
  rw[e1] at k1
  cases r with
  | error x=>exact k1
  | ok r =>
   refine λvs O1 α1 H1 T1 S1 rs x dx hx hd hne=>?_
   have s1:aG H1 (upd H1 dx (.own x)):=bm hd
   have hx2:upd H1 dx (.own x) x=none:=by rw[upd_ne (Ne.symm hne)];exact hx
   have S2:=(S1.same s1).newI (l:=x) (dx:=dx) hN hx2
   have T2:Go O1 α1 H1 (x::O1) (α1++[some x]) (upd (upd H1 dx (.own x)) x (.ins C dx [])):=(Go.same s1).trans (Go.newL hx2)
   have k2:=okR_noX (ax k1)
   refine⟨A.R0,x::O1,α1++[some x],r.2++[.ins c []],.h r.2.length::r.1,?_,S2,?_,az k2 λq y v O3 α3 H3 T3 S3 rv=>?_⟩
   ·rw[List.append_nil,List.length_cons,rs.length,hl δ μ r e1];exact hn
   ·rw[List.append_nil];exact .cons (.h (by rw[<-S1.len,List.getElem?_append_right (Nat.le_refl _),Nat.sub_self];rfl)) (rs.to (Go.to S1 T2) T2.ex)
   ·obtain⟨q1,q2⟩:=q
    match q1,y,rv with
    | .d .none,y,rv =>
     have hv:v=.non:=by
      have:=rv.dinv
      cases this
      rfl
     refine⟨hv,y (.ref x) O3 α3 H3 (T1.trans (T2.trans T3)) S3 (.h (T3.ex _ _ ?_))⟩
     rw[<-S1.len,List.getElem?_append_right (Nat.le_refl _),Nat.sub_self]
     rfl
end
end SL
namespace L2
open PySem PySem.Spec PyProof.Rows PySem.W
theorem aU.erase:∀{xs:List V} {its:List Value} (j:Nat),aU xs its->aU (xs.eraseIdx j) (its.eraseIdx j)
 | [],[],_,.nil=>.nil
 | _::_,_::_,0,.cons _ r=>r
 | _::_,_::_,j+1,.cons h r=>.cons h (aU.erase j r)
theorem map_erase{α β:Type}(f:α->β):∀(l:List α) (j:Nat),(l.eraseIdx j).map f=(l.map f).eraseIdx j
 | [],_=>rfl
 | _::_,0=>rfl
 | a::l,j+1=>by
  show f a::(l.eraseIdx j).map f=f a::(l.map f).eraseIdx j
  rw[map_erase f l j]
theorem idx_first(k:Int):∀(is:List Int) (i:Nat),i<is.idxOf k->is[i]? ≠ some k
 | [],i,h,z=>by cases z
 | a::is,i,h,z=>by
  rw[List.idxOf_cons] at h
  by_cases e:a=k
  ·rw[show(a==k)=true from beq_iff_eq.mpr e] at h
   exact absurd h (Nat.not_lt_zero _)
  ·rw[show(a==k)=false from beq_eq_false_iff_ne.mpr e] at h
   have h:i<is.idxOf k+1:=h
   cases i with
   | zero=>cases z;exact e rfl
   | succ i=>exact idx_first k is i (by omega) z
def rRemove:V->List V->Hp->VK->Prop:=λx vs H Q=>∃(l:Addr) (is:List Int) (k:Int),x=.ref l/\vs=[.int k]/\H l=some (.lst (is.map V.int))/\k∈is/\Q .non (upd H l (.lst ((is.eraseIdx (is.idxOf k)).map V.int)))
section
variable{X:Cx}
theorem ints_of_vals:∀{is:List Int} {its:List Value},aU (is.map V.int) its->kf_ints its=true/\its.length=is.length/\∀(i:Nat) (k:Int),is[i]?=some k->∃t,its[i]?=some (.int k t)
 | [],_,.nil=>⟨rfl,rfl,λi k h=>by cases h⟩
 | i::is,_,.cons h r=>by
  obtain⟨t,rfl⟩:=h
  obtain⟨h1,h2,h3⟩:=ints_of_vals r
  refine⟨h1,by rw[List.length_cons,List.length_cons,h2],λj k h=>?_⟩
  cases j with
  | zero=>cases h;exact⟨t,rfl⟩
  | succ j=>exact h3 j k h
theorem mt_remove:MtM X "list.remove" rRemove:=by
 intro pins s σ H x vs v us Q I rx rv h
 obtain⟨l,is,k,rfl,rfl,hH,hm,q⟩:=h
 cases rx
 obtain⟨u,rfl,ru⟩:=rv.one
 obtain⟨t,rfl⟩:=ru
 obtain⟨z,its,n,r,hl,e⟩:=I.lstM hH
 obtain⟨h1,h2,h3⟩:=ints_of_vals r
 have hj:is.idxOf k<is.length:=List.idxOf_lt_length_of_mem hm
 have hji:is.idxOf k<its.length:=by omega
 have at_:∀(i:Nat) (hi:i<its.length),∃t,its[i]=.int (is[i]'(by omega)) t:=λi hi=>by
  obtain⟨t,ht⟩:=h3 i _ (List.getElem?_eq_getElem (by omega))
  rw[List.getElem?_eq_getElem hi] at ht
  exact⟨t,Option.some.inj ht⟩
 refine call_meets F.slot_list_remove ⟨_,e,rfl⟩ F.entry_list_remove (F.args_list_remove_2 _ _)
  (MeetsSeq.list_remove l its.toArray n (.int k t) (isInt k) (λy hy=>kf_eq h1 y (by simpa using hy)) (is.idxOf k) (by rw[List.size_toArray];exact hji) ?_ ?_ (by rw[List.size_toArray,<-hl];exact z)) ⟨e,?_⟩
 ·obtain⟨t',ht⟩:=at_ (is.idxOf k) hji
  show isInt k its[is.idxOf k]=true
  rw[ht,List.getElem_idxOf hj]
  simp [isInt]
 ·intro i hi hlt
  have hi2:i<its.length:=by rw[List.size_toArray] at hi;exact hi
  obtain⟨t',ht⟩:=at_ i hi2
  show isInt k its[i]=false
  rw[ht]
  have:is[i]'(by omega)≠k:=λz=>idx_first k is i hlt (by rw[List.getElem?_eq_getElem (by omega),z])
  simp [isInt,this]
 ·refine⟨.non,_,I.lset (its':=its.eraseIdx (is.idxOf k)) hH e ?_ (by rw[map_erase];exact r.erase _) ?_,rfl,q⟩
  ·show its.toArray.eraseIdxIfInBounds (is.idxOf k)=_
   apply Array.toList_inj.mp
   simp [Array.toList_eraseIdxIfInBounds]
  ·rw[List.length_map] at z ⊢
   have:=List.length_eraseIdx_le is (is.idxOf k)
   omega
end
end L2
namespace SL
open PySem PySem.Spec PyProof.Rows L2 DL
def intsV:List Val->Option (List Int)
 | []=>some []
 | .d (.int i)::r=>(intsV r).map (i :: ·)
 | _=>none
section
variable{K:PySem.W.Frag}{O:List Addr}{α:List (Option Addr)}{H:Hp}
theorem intsV_vals:∀{xs:List Val} {is:List Int} {vs:List V},intsV xs=some is->VRs K O α H vs xs->vs=is.map V.int
 | [],is,_,h,.nil=>by cases h;rfl
 | x::xs,is,_,h,.cons r rs=>by
  match x,h,r with
  | .d (.int i),h,r =>
   have h:(intsV xs).map (i :: ·)=some is:=h
   cases e:intsV xs with
   | none=>rw[e] at h;cases h
   | some q =>
    rw[e] at h
    cases h
    rw[intsV_vals e rs,r.dinv.int_inv]
    rfl
theorem intsV_map:∀(is:List Int),intsV (is.map λi=>Val.d (.int i))=some is
 | []=>rfl
 | i::is=>by
  show(intsV (is.map λi=>Val.d (.int i))).map (i :: ·)=_
  rw[intsV_map is]
  rfl
theorem vrs_ints:∀(is:List Int),VRs K O α H (is.map V.int) (is.map λi=>Val.d (.int i))
 | []=>.nil
 | i::is=>.cons (.d (.int i)) (vrs_ints is)
theorem VRs.dropLast:∀{vs:List V} {xs:List Val},VRs K O α H vs xs->VRs K O α H vs.dropLast xs.dropLast
 | _,_,.nil=>.nil
 | _,_,.cons r .nil=>.nil
 | _,_,.cons r (.cons r2 rs)=>.cons r (VRs.dropLast (.cons r2 rs))
end
section
variable{X:Cx}{G:XD->Hp->Prop}{a b o e ix tg:Expr}{es:List Expr}{pos pos' apos cpos p tpos:Pos}{fo fi f fe:aq->Sto->R (Val×Sto)}{fa:aq->Sto->R (List Val×Sto)}
def sRem(fo f:aq->Sto->R (Val×Sto)):aq->Sto->R (Val×Sto):=λδ μ=>(fo δ μ).thn λr=>match r.1 with
 | .h k=>match r.2[k]? with
  | some (.lst _)=>(f δ r.2).thn λq=>match q.1,q.2[k]? with
   | .d (.int n),some (.lst xs)=>match intsV xs with
    | some is=>if n∈is then R.ret (.d .none,q.2.set k (.lst ((is.eraseIdx (is.idxOf n)).map λi=>Val.d (.int i)))) else none
    | none=>none
   | _,_=>none
  | _=>none
 | _=>none
theorem sx_rem(ho:SX X G o fo)(he:SX X G e f)
  (hst:starEach [e] X.env=(false,eval e X.env)::starEach [] X.env:=by rfl)
  (hbase:attributeBase o "remove" X.env (eval o X.env)=eval o X.env:=by rfl)
  (hfew:((backTo cpos (starEach [e] X.env)).all (λx=>!x.1)&&(backToKw cpos (keywordEach [] X.env)).all (λx=>x.1.isSome)
   && decide ([e].length+([]:List Keyword).length+(if ([]:List Keyword).isEmpty then 0 else 1)<30))=true:=by rfl)
  (hline:(apos.endLine==cpos.line)=true:=by rfl) (hplain:(backTo cpos (starEach [] X.env)).any (·.1)=false:=by rfl) :
  SX X G (.Call (.Attribute o "remove" apos) [e] [] cpos) (sRem fo f):=by
 obtain⟨t,p,ho⟩:=ho
 obtain⟨u,q,he⟩:=he
 refine⟨_,pe_bm PySem.F.plainAttrs_list PySem.F.slot_list_remove PySem.F.type_list_remove mt_remove p (gp q pa_nil hst) hbase hfew hline hst hplain,λA δ μ O α σ H Q E k=>?_⟩
 refine ho A δ μ O α σ H _ E (az (ax k) λr z v O1 α1 H1 T1 S1 r1=>?_)
 obtain⟨p1,p2⟩:=r
 match p1,z,r1 with
 | .h k,z,r1 =>
  obtain⟨l,hl,rfl⟩:=r1.hinv
  obtain⟨ob,g1,g2⟩:=S1.at_ k l hl
  dsimp only at z
  rw[g1] at z
  match ob,z,g2 with
  | .lst xs0,z,g2 =>
  refine⟨.inl ⟨rfl,_,.inl (.inl g2.2.2.choose_spec.1)⟩,?_⟩
  have z:okR _ ((f δ p2).thn _) _:=z
  refine he A δ p2 O1 α1 σ H1 _ (E.go T1 S1) (az (bi (ax z) λx μ h=>Er.go T1 h) λq y w O2 α2 H2 T2 S2 r2=>?_)
  obtain⟨q1,q2⟩:=q
  have hl2:=T2.ex _ _ hl
  obtain⟨ob,g1,g2⟩:=S2.at_ k l hl2
  dsimp only at y
  rw[g1] at y
  match q1,ob,y,g2,g1,r2 with
  | .d (.int n),.lst xs,y,g2,g1,r2 =>
   obtain⟨_,_,vs,g3,g4⟩:=g2
   dsimp only at y
   cases hi:intsV xs with
   | none=>rw[hi] at y;exact y.elim
   | some is =>
    rw[hi] at y
    dsimp only at y
    by_cases hm:n∈is
    ·rw[if_pos hm] at y
     have hvs:=intsV_vals hi g4
     subst hvs
     have hw:=r2.dinv.int_inv
     subst hw
     exact⟨l,is,n,rfl,rfl,g3,hm,y .non O2 α2 _ (T1.trans (T2.trans (Go.setL hl2))) (S2.setL hl2 g1 (vrs_ints _)) (.d .non)⟩
    ·rw[if_neg hm] at y;exact y.elim
def sPop(fo:aq->Sto->R (Val×Sto)):aq->Sto->R (Val×Sto):=λδ μ=>(fo δ μ).thn λr=>match r.1 with
 | .h k=>match r.2[k]? with
  | some (.lst xs)=>match xs[xs.length-1]? with
   | some x=>R.ret (x,r.2.set k (.lst xs.dropLast))
   | none=>none
  | _=>none
 | _=>none
theorem sx_pop(ho:SX X G o fo)(hbase:attributeBase o "pop" X.env (eval o X.env)=eval o X.env:=by rfl)(hline:(apos.endLine==cpos.line)=true:=by rfl):SX X G (.Call (.Attribute o "pop" apos) [] [] cpos) (sPop fo):=by
 obtain⟨t,p,ho⟩:=ho
 refine⟨_,pe_bm0 PySem.F.plainAttrs_list PySem.F.slot_list_pop PySem.F.type_list_pop mt_pop p hbase hline,λA δ μ O α σ H Q E k=>?_⟩
 refine ho A δ μ O α σ H _ E (az (ax k) λr z v O1 α1 H1 T1 S1 r1=>?_)
 obtain⟨p1,p2⟩:=r
 match p1,z,r1 with
 | .h k,z,r1 =>
  obtain⟨l,hl,rfl⟩:=r1.hinv
  obtain⟨ob,g1,g2⟩:=S1.at_ k l hl
  dsimp only at z
  rw[g1] at z
  match ob,z,g2,g1 with
  | .lst xs,z,g2,g1 =>
   obtain⟨_,_,vs,g3,g4⟩:=g2
   dsimp only at z
   cases hx:xs[xs.length-1]? with
   | none=>rw[hx] at z;exact z.elim
   | some x =>
    rw[hx] at z
    obtain⟨w,w1,w2⟩:=g4.get hx
    have S2:=S1.setL hl g1 g4.dropLast
    have T2:Go O1 α1 H1 O1 α1 (upd H1 l (.lst vs.dropLast)):=Go.setL hl
    exact⟨.inl ⟨rfl,vs,.inl (.inl g3)⟩,l,vs,w,rfl,rfl,g3,by rw[g4.length];exact w1,z w O1 α1 _ (T1.trans T2) S2 (w2.to (T2.to S1) T2.ex)⟩
def sExt(fo f:aq->Sto->R (Val×Sto)):aq->Sto->R (Val×Sto):=λδ μ=>(fo δ μ).thn λr=>match r.1 with
 | .h k=>match r.2[k]? with
  | some (.lst _)=>(f δ r.2).thn λq=>match q.1 with
   | .h j=>match q.2[k]?,q.2[j]? with
    | some (.lst xs),some (.lst zs)=>if aL (xs.length+zs.length)=true then R.ret (.d .none,q.2.set k (.lst (xs++zs))) else none
    | _,_=>none
   | _=>none
  | _=>none
 | _=>none
theorem sx_ext(ho:SX X G o fo)(he:SX X G e f)
  (hst:starEach [e] X.env=(false,eval e X.env)::starEach [] X.env:=by rfl)
  (hbase:attributeBase o "extend" X.env (eval o X.env)=eval o X.env:=by rfl)
  (hfew:((backTo cpos (starEach [e] X.env)).all (λx=>!x.1)&&(backToKw cpos (keywordEach [] X.env)).all (λx=>x.1.isSome)
   && decide ([e].length+([]:List Keyword).length+(if ([]:List Keyword).isEmpty then 0 else 1)<30))=true:=by rfl)
  (hline:(apos.endLine==cpos.line)=true:=by rfl) (hplain:(backTo cpos (starEach [] X.env)).any (·.1)=false:=by rfl) :
  SX X G (.Call (.Attribute o "extend" apos) [e] [] cpos) (sExt fo f):=by
 obtain⟨t,p,ho⟩:=ho
 obtain⟨u,q,he⟩:=he
 refine⟨_,pe_bm PySem.F.plainAttrs_list PySem.F.slot_list_extend PySem.F.type_list_extend mt_extend p (gp q pa_nil hst) hbase hfew hline hst hplain,λA δ μ O α σ H Q E k=>?_⟩
 refine ho A δ μ O α σ H _ E (az (ax k) λr z v O1 α1 H1 T1 S1 r1=>?_)
 obtain⟨p1,p2⟩:=r
 match p1,z,r1 with
 | .h k,z,r1 =>
  obtain⟨l,hl,rfl⟩:=r1.hinv
  obtain⟨ob,g1,g2⟩:=S1.at_ k l hl
  dsimp only at z
  rw[g1] at z
  match ob,z,g2 with
  | .lst xs0,z,g2 =>
  refine⟨.inl ⟨rfl,_,.inl (.inl g2.2.2.choose_spec.1)⟩,?_⟩
  have z:okR _ ((f δ p2).thn _) _:=z
  refine he A δ p2 O1 α1 σ H1 _ (E.go T1 S1) (az (bi (ax z) λx μ h=>Er.go T1 h) λq y w O2 α2 H2 T2 S2 r2=>?_)
  obtain⟨q1,q2⟩:=q
  have hl2:=T2.ex _ _ hl
  match q1,y,r2 with
  | .h j,y,r2 =>
   obtain⟨l2,hj,rfl⟩:=r2.hinv
   obtain⟨ob1,g1,g2⟩:=S2.at_ k l hl2
   obtain⟨ob2,g3,g4⟩:=S2.at_ j l2 hj
   dsimp only at y
   rw[g1,g3] at y
   match ob1,ob2,y,g2,g4,g1 with
   | .lst xs,.lst zs,y,g2,g4,g1 =>
    obtain⟨_,_,vs,g5,g6⟩:=g2
    obtain⟨_,_,us,g7,g8⟩:=g4
    dsimp only at y
    by_cases hz:aL (xs.length+zs.length)=true
    ·rw[if_pos hz] at y
     exact⟨l,l2,vs,us,rfl,rfl,g5,g7,by rw[g6.length,g8.length];exact bE hz,y .non O2 α2 _ (T1.trans (T2.trans (Go.setL hl2))) (S2.setL hl2 g1 (g6.append g8)) (.d .non)⟩
    ·rw[if_neg hz] at y;exact y.elim
def sCat(fo f:aq->Sto->R (Val×Sto)):aq->Sto->R (Val×Sto):=λδ μ=>(fo δ μ).thn λr=>(f δ r.2).thn λq=>match r.1,q.1 with
 | .h k,.h j=>match q.2[k]?,q.2[j]? with
  | some (.lst xs),some (.lst zs)=>if aL (xs.length+zs.length)=true then R.ret (.h q.2.length,q.2++[.lst (xs++zs)]) else none
  | _,_=>none
 | _,_=>none
theorem sx_cat(ho:SX X G a fo)(he:SX X G b f):SX X G (.BinOp a .Add b pos) (sCat fo f):=by
 obtain⟨t,p,ho⟩:=ho
 obtain⟨u,q,he⟩:=he
 refine⟨_,pe_op op_catS p q,λA δ μ O α σ H Q E k=>?_⟩
 refine ho A δ μ O α σ H _ E (az (ax k) λr z v O1 α1 H1 T1 S1 r1=>?_)
 refine he A δ r.2 O1 α1 σ H1 _ (E.go T1 S1) (az (bi (ax z) λx μ h=>Er.go T1 h) λq y w O2 α2 H2 T2 S2 r2=>?_)
 obtain⟨p1,p2⟩:=r
 obtain⟨q1,q2⟩:=q
 match p1,q1,y,r1,r2 with
 | .h k,.h j,y,r1,r2 =>
  obtain⟨l,hl,rfl⟩:=r1.hinv
  obtain⟨l2,hj,rfl⟩:=r2.hinv
  have hl2:=T2.ex _ _ hl
  obtain⟨ob1,g1,g2⟩:=S2.at_ k l hl2
  obtain⟨ob2,g3,g4⟩:=S2.at_ j l2 hj
  dsimp only at y
  rw[g1,g3] at y
  match ob1,ob2,y,g2,g4 with
  | .lst xs,.lst zs,y,g2,g4 =>
   obtain⟨_,_,vs,g5,g6⟩:=g2
   obtain⟨_,_,us,g7,g8⟩:=g4
   dsimp only at y
   by_cases hz:aL (xs.length+zs.length)=true
   ·rw[if_pos hz] at y
    exact⟨l,l2,vs,us,rfl,rfl,.inl (.inl g5),.inl (.inl g7),by rw[g6.length,g8.length];exact bE hz,λn hn=>y _ (n::O2) (α2++[some n]) _ (T1.trans (T2.trans (Go.newL hn))) (S2.newL hn (g6.append g8)) (.h S2.at_new)⟩
   ·rw[if_neg hz] at y;exact y.elim
def sAugX(h:Int->Int->Int)(fo fi f:aq->Sto->R (Val×Sto)):SG:=λ_ δ μ=>(fo δ μ).thn λr=>match r.1 with
 | .h k=>(fi δ r.2).thn λq=>match q.1,q.2[k]? with
  | .d (.int n),some (.lst xs)=>match L2.atI xs n with
   | some (.d (.int x))=>(f δ q.2).thn λy=>match y.1,y.2[k]? with
    | .d (.int m),some (.lst ys)=>match ixN ys.length n with
     | some j=>R.ret (.nx δ (y.2.set k (.lst (ys.set j (.d (.int (h x m)))))))
     | none=>none
    | _,_=>none
   | _=>none
  | _,_=>none
 | _=>none
theorem ss_augX{op:Operator}{h:Int->Int->Int}(hop:PIp X op (ipI h))(ho:SX X G a fo)(hi:SX X G ix fi)(he:SX X G e f)
  (ha:∀ov iv new,augStore ix ov iv new=(do holding [new,ov,iv] (setItem ov iv new);release [new,ov,iv] [];pure .next):=by intros;rfl):SS X G (.AugAssign (.Subscript a ix tpos) op e pos) (sAugX h fo fi f):=by
 obtain⟨t,p,he⟩:=he
 obtain⟨u,q,hi⟩:=hi
 obtain⟨w,pw,ho⟩:=ho
 refine⟨_,ps_augS pw q get_list p hop set_list ha,λA δ μ O α σ H Dn E k=>?_⟩
 refine ho A δ μ O α σ H _ E (az (bi (ax k) λx μ h=>Er.go E.st h) λr z v O1 α1 H1 T1 S1 r1=>?_)
 obtain⟨p1,p2⟩:=r
 have E1:=E.go T1 S1
 match p1,z,r1 with
 | .h kk,z,r1 =>
  obtain⟨l,hl,rfl⟩:=r1.hinv
  have z:okR _ ((fi δ p2).thn _) _:=z
  refine hi A δ p2 O1 α1 σ H1 _ E1 (az (bi (ax z) λx μ h=>Er.go E1.st h) λqq y kv O2 α2 H2 T2 S2 r2=>?_)
  have E2:=E1.go T2 S2
  have hl2:=T2.ex _ _ hl
  obtain⟨q1,q2⟩:=qq
  obtain⟨ob,g1,g2⟩:=S2.at_ kk l hl2
  dsimp only at y
  rw[g1] at y
  match q1,ob,y,g2,r2 with
  | .d (.int n),.lst xs,y,g2,r2 =>
   obtain⟨_,_,vs,g3,g4⟩:=g2
   dsimp only at y
   have hkv:=r2.dinv.int_inv
   subst hkv
   cases hx:L2.atI xs n with
   | none=>rw[hx] at y;exact y.elim
   | some x =>
    rw[hx] at y
    match x,hx,y with
    | .d (.int x),hx,y =>
     obtain⟨xv,w1,w2⟩:=g4.atI hx
     refine⟨l,vs,n,xv,rfl,rfl,.inl (.inl g3),w1,?_⟩
     have y:okR _ ((f δ q2).thn _) _:=y
     refine he A δ q2 O2 α2 σ H2 _ E2 (az (bi (ax y) λx μ h=>Er.go E2.st h) λrr yy ev O3 α3 H3 T3 S3 r3=>?_)
     obtain⟨s1,s2⟩:=rr
     have hl3:=T3.ex _ _ hl2
     obtain⟨ob3,g5,g6⟩:=S3.at_ kk l hl3
     dsimp only at yy
     rw[g5] at yy
     match s1,ob3,yy,g6,r3,g5 with
     | .d (.int m),.lst ys,yy,g6,r3,g5 =>
      obtain⟨_,_,us,g7,g8⟩:=g6
      dsimp only at yy
      cases hj:ixN ys.length n with
      | none=>rw[hj] at yy;exact yy.elim
      | some j =>
       rw[hj] at yy
       have hev:=r3.dinv.int_inv
       subst hev
       have hxv:=w2.dinv.int_inv
       subst hxv
       refine⟨x,m,rfl,rfl,l,us,n,j,rfl,rfl,g7,by rw[g8.length];exact hj,?_⟩
       exact yy O3 α3 σ _ (((E2.go T3 S3)).go (Go.setL hl3) (S3.setL hl3 g5 (g8.set (.d (.int (h x m))) j))) (T1.trans (T2.trans (T3.trans (Go.setL hl3))))
end
end SL
namespace L2
open PySem PySem.Spec PyProof.Rows PySem.W
section
variable{X:Cx}
theorem vals_at:∀{vs:List V} {its:List Value},vs.length=its.length->(∀(i:Nat) (v:V) (u:Value),vs[i]?=some v->its[i]?=some u->bS v u)->aU vs its
 | [],[],_,_=>.nil
 | [],_::_,h,_=>by cases h
 | _::_,[],h,_=>by cases h
 | v::vs,u::its,h,k=>.cons (k 0 v u rfl rfl) (vals_at (by simpa using h) λi=>k (i+1))
theorem call_listrange(hc:X.calm=true):CallR2 X (.type "list") (.type "range") (λxs H Q=>∃n:Nat,xs=[.int (n:Int)]/\n<=100000/\∀l,H l=none->Q (.ref l) (upd H l (.lst ((List.range n).map λk:Nat=>V.int (k:Int))))):=by
 intro pins s σ H xs us Q I r h
 obtain⟨n,rfl,hn,q⟩:=h
 obtain⟨u,rfl,rx⟩:=vals1 r
 obtain⟨t,rfl⟩:=rx
 have I1:Inv X pins σ H { s with heap:=s.heap.push { cls:=.type "range",data:=.fields #[.int 0 s.toks,.int (n:Int) t,.int 1 (s.toks+1)] },toks:=s.toks+1+1 }:=I.kept λb o e=>Heap.get?_push_of_some _ e
 refine call_range_1 ?_
 refine call_list_range (n:=n) (I.ok.hd hc) (IsRange.new ..) (small_one (by decide) (by decide) (by omega) (by omega)) (by rw[rangeSize_one];split<;>omega) (by omega) λh' tk acc c kp e hy=>?_
 refine⟨.ref _,_,I1.laid (t':=tk) kp (Nat.le_refl _) (show fR X.prog X.w _ h' _ (.lst ((List.range n).map λk:Nat=>V.int (k:Int))) from⟨by rw[List.length_map,List.length_range,sizeLine_eq];omega,acc.toList,c,vals_at (by rw[List.length_map,List.length_range,Array.length_toList,hy.1]) (λi v u h1 h2=>?_),by simpa using e⟩),rfl,q _ (I1.hok.fresh (Nat.le_refl _))⟩
 rw[List.getElem?_map] at h1
 have hi:i<n:=by
  rcases Nat.lt_or_ge i n with z | z
  ·exact z
  ·rw[List.getElem?_eq_none (by rw[List.length_range];exact z)] at h1;cases h1
 rw[List.getElem?_range hi] at h1
 cases h1
 obtain⟨t',rfl⟩:=hy.2 i u (by simpa using h2)
 exact⟨t',by simp⟩
end
end L2
namespace DL
open PySem PySem.Spec PyProof.Rows L2
section
variable{X:Cx}{G:XD->Hp->Prop}{e o:Expr}{es:List Expr}{f:DS->M D}{fa:DS->M (List D)}{pos pos' p p' apos:Pos}
def nListR(fa:DS->M (List D)):DS->M (List D):=λδ=>(fa δ).thn λds=>match ds with
 | [.int n]=>if 0<=n/\n<=100000 then M.ret ((List.range n.toNat).map λk:Nat=>PyData.int (k:Int)) else none
 | _=>none
theorem pdn_listR{x y:Str}(hx:x = "list")(hy:y = "range")(hcalm:X.calm=true)(hg:Gl X x)(hm:X.mg x=none)(hg2:Gl X y)(hm2:X.mg y=none)(ha:PDA X G [e] fa)(he:starEach [e] X.env=(false,eval e X.env)::starEach [] X.env:=by rfl) :
  PDN X G (.Call (.Name x p) [.Call (.Name y p') [e] [] pos'] [] pos) (nListR fa):=by
 subst hx hy
 obtain⟨_,t,pa,ha⟩:=ha
 refine⟨_,pe_twoTy (call_listrange hcalm) hg hm PyProof.Rows.boot_list hg2 hm2 boot_range pa (by decide) (by decide) (by decide) (by decide) he,λδ O σ H Q E k=>?_⟩
 refine ha δ O σ H _ E (al (ay k) λds z vs H1 s1 rs=>?_)
 match ds,z with
 | [.int n],z =>
  obtain⟨v,rfl,r⟩:=ge rs
  have z:ok _ (if 0<=n/\n<=100000 then M.ret ((List.range n.toNat).map λk:Nat=>PyData.int (k:Int)) else none) _:=z
  by_cases hn:0<=n/\n<=100000
  ·rw[if_pos hn] at z
   refine⟨n.toNat,by rw[r.int_inv,Int.toNat_of_nonneg hn.1],by omega,λl hl=>z l _ H1 s1 hl ?_⟩
   have:∀(ks:List Nat),Reps X.K O H1 (ks.map λk:Nat=>V.int (k:Int)) (ks.map λk:Nat=>PyData.int (k:Int)):=by
    intro ks
    induction ks with
    | nil=>exact .nil
    | cons a ks ih=>exact .cons (.int _) ih
   exact this _
  ·rw[if_neg hn] at z;exact z.elim
structure DefFM(P:Program)(w:World)(K:PySem.W.Frag)(mg:Str->Option Value)(base:Heap)(k:Nat)(nm m:Str)(n:Nat)(F:List D->M D):Prop where
 ex:∃(C f:Addr) (fd:FuncData) (ps:List Str),PySem.W.nsIn K mainGlobals nm=some (some (.ref C))/\Cls K C/\Meth K C m f/\FnOk P w K mg base CX0 k f fd ps (spDF K n F)/\fU K fd ps []
theorem pdf_methI{pl:Sem Bool}{k n:Nat}{nm m:Str}{F:List D->M D}(h:DefFM X.prog X.w X.K X.mg X.base k nm m n F)(hr:Room k X.A)(hn:(e::es).length+1=n)(ho:PD X G o f)(ha:PDA X G (e::es) fa)
  (hst:starEach (e::es) X.env=(false,eval e X.env)::starEach es X.env:=by rfl) (hpl:(backTo pos (starEach es X.env)).any (·.1)=false:=by rfl)
  (ht:eval (.Call (.Attribute o m apos) (e::es) [] pos) X.env=(do
   let ov <- eval o X.env
   standAt apos.atName
   let (f,first) <- holding [ov] (getMethod ov m pl)
   callWith pos f first (backTo pos (starEach (e::es) X.env)) (backToKw pos (keywordEach [] X.env))):=by rfl) :
  PDF X G (.Call (.Attribute o m apos) (e::es) [] pos) (dMe nm m (λds=>noX (F ds)) f fa):=by
 obtain⟨C,f0,fd,ps,hN,c,hm,F1,hb⟩:=h.ex
 obtain⟨t,p,ho⟩:=ho
 obtain⟨hl,ta,pa,ha⟩:=ha
 refine⟨_,pe_meth (pl:=pl) p c hm F1 hr hb .nil pass0 pa hst hpl ht,λδ O σ H Q E k=>?_⟩
 refine ho δ O σ H _ E (al (ay k) λx z v H1 s1 rx=>?_)
 cases hat:attrs nm x with
 | none=>rw[hat] at z;exact z.elim
 | some r =>
  rw[hat] at z
  have z1:ok _ (if iJ m r=true then (fa δ).thn λds=>noX (F (x::ds)) else none) _:=z
  clear z
  by_cases hf:iJ m r=true
  ·rw[if_pos hf] at z1
   obtain⟨a,C',dx,fs,es',rfl,rfl,hN',h1,hn1,hk,rr⟩:=attrs_inv rx hat
   have hC:C'=C:=by
    have:=hN'.symm.trans hN
    simp at this
    exact this
   subst hC
   refine⟨a,dx,fs,rfl,h1,iX hk hf,?_⟩
   have k1:=ay z1
   refine ha δ O σ H1 _ (E.same s1) ?_
   cases e1:fa δ with
   | none=>rw[e1] at k1;exact k1.elim
   | some q =>
    rw[e1] at k1
    cases q with
    | error y=>exact k1
    | ok ds =>
     refine λvs H2 s2 rs=>?_
     refine⟨O,x::ds,?_,((E.same s1).same s2).oo,?_,al (ok_noX k1) λd z=>?_⟩
     ·show(vs++[]).length+1=n
      rw[List.append_nil,rs.length,hl δ ds e1]
      exact hn
     ·rw[List.append_nil]
      exact .cons (rx.same s2) rs
     ·obtain⟨ds',rfl,hfl,z⟩:=z
      refine⟨ds',rfl,hfl,λl xs H' s hl hx rx=>z l xs H' (s1.trans (s2.trans s)) ?_ hx rx⟩
      cases q:H l with
      | none=>rfl
      | some o=>rw[(s1.trans s2) l o q] at hl;cases hl
  ·rw[if_neg hf] at z1;exact z1.elim
end
end DL
namespace SL
open PySem PySem.Spec PyProof.Rows L2 DL
section
variable{X:Cx}{G:XD->Hp->Prop}{a e tg:Expr}{pos p ipos:Pos}{body:List Stmt}
def sForR(fa:DS->M (List D))(t:D->aq->Option aq)(g:SG):SG:=λn δ μ=>(ofM (fa (viewN 4 μ δ)) μ).thn λxs=>match gZ xs with
 | some ds=>ip t (g n) ds δ μ
 | none=>none
theorem ss_forR{t:D->aq->Option aq}{fa:DS->M (List D)}{g:SG}(hp:PassesOwn (model X.prog X.w) X.A X.env X.xe)(hc:X.calm=true)(hgl:Gl X "range")(hm:X.mg "range" = none)(ha:PDA X G [a] fa)(hg:SGT X tg t)(hb:SSs X G body g)
  (hs1:starEach [a] X.env=[(false,eval a X.env)]:=by rfl) (hs:∀x,foldedSetIterable (.Call (.Name "range" p) [a] [] ipos) X.env x=pure x:=by intro _;rfl):SS X G (.For tg (.Call (.Name "range" p) [a] [] ipos) body [] pos) (sForR fa t g):=by
 obtain⟨_,ta,pa,ha⟩:=ha
 obtain⟨tgt,pt,hg⟩:=hg
 obtain⟨tb,pb,hb⟩:=hb
 refine⟨_,ps_for hp hc (pi_range1 hgl hm pa hs1) pt pb hs,λA δ μ O α σ H Dn E k=>?_⟩
 refine ha (viewN 4 μ δ) A.R0 σ H _ E.viewN (al (ez E.sr (bi (ax k) λx μ h=>Er.go E.st h)) λxs zz vs H1 s1 rs=>?_)
 cases hd:gZ xs with
 | none=>rw[hd] at zz;exact zz.elim
 | some ds =>
  rw[hd] at zz
  have z:okR _ (ip t (g A.α.length) ds δ μ) _:=zz
  have E1:=E.same s1
  unfold gZ at hd
  split at hd
  ·rename_i j
   by_cases hz:b62 j=true
   ·rw[if_pos hz] at hd
    cases hd
    obtain⟨v,rfl,r⟩:=ge rs
    obtain⟨z1,z2⟩:=b62_of hz
    refine⟨j,by rw[r.int_inv],z1,z2,?_⟩
    have Y:Yl X.K (Itr 0 j.toNat) O H1 (b6 0 j.toNat):=yl_range
    generalize b6 0 j.toNat=ds at z Y
    refine⟨λi m σ2 H2=>m=ds.length-i/\i<=ds.length/\∃δ2 μ2 O2 α2,SEv X.K X.mg A O2 α2 H2 σ2 δ2 μ2/\Go O α H1 O2 α2 H2/\okR (Er X.K X.mg G A.R0 A.O A.α A.H) (ip t (g A.α.length) (ds.drop i) δ2 μ2) (FinS X.K X.mg A O α H Dn),⟨_,rfl,Nat.zero_le _,δ,μ,O,α,E1,Go.refl,z⟩,?_⟩
    rintro i m σ2 H2 ⟨rfl,hi,δ2,μ2,O2,α2,E2,T,k2⟩
    have TT:=T.to E1.sr
    by_cases hlt:i<ds.length
    ·right
     have hd:ds[i]?=some ds[i]:=List.getElem?_eq_getElem hlt
     obtain⟨go,yl⟩:=Y.step O2 H2 TT i _ hd
     refine⟨go,λσ' H'=>∃δ2 μ2 O2 α2,SEv X.K X.mg A O2 α2 H' σ' δ2 μ2/\Go O α H1 O2 α2 H'/\okR (Er X.K X.mg G A.R0 A.O A.α A.H) (ip t (g A.α.length) (ds.drop (i+1)) δ2 μ2) (FinS X.K X.mg A O α H Dn),λσ' H' h=>⟨_,by omega,rfl,hlt,h⟩,λx H3 y=>?_⟩
     obtain⟨s3,rx⟩:=yl x H3 y
     rw[gS hd] at k2
     have E3:=E2.same s3
     have T3:=T.trans (Go.same s3)
     unfold ip at k2
     cases h3:t ds[i] δ2 with
     | none=>rw[h3] at k2;exact k2.elim
     | some δ3 =>
      rw[h3] at k2
      refine hg A δ2 δ3 ds[i] x O2 α2 σ2 μ2 H3 _ E3 rx h3 λσ4 E4=>?_
      refine hb A δ3 μ2 O2 α2 σ4 H3 _ E4 (az (ax k2) λo z=>?_)
      cases o with
      | nx δ5 μ5=>exact λO5 α5 σ5 H5 E5 T5=>⟨δ5,μ5,O5,α5,E5,T3.trans T5,z⟩
      | ct δ5 μ5=>exact λO5 α5 σ5 H5 E5 T5=>⟨δ5,μ5,O5,α5,E5,T3.trans T5,z⟩
      | bk δ5 μ5=>exact λO5 α5 σ5 H5 E5 T5=>z O5 α5 σ5 H5 E5 ((Go.same s1).trans (T3.trans T5))
      | rt v μ5=>exact z
    ·left
     have e:i=ds.length:=by omega
     subst e
     rw[List.drop_length] at k2
     exact⟨Y.stop O2 H2 TT,k2 O2 α2 σ2 H2 E2 ((Go.same s1).trans T)⟩
   ·rw[if_neg hz] at hd;cases hd
  ·cases hd
def sRetN(f:DS->M D):SG:=λn δ μ=>if n=0 then (ofM (f (viewN 4 μ δ)) μ).thn λd=>R.ret (.rt (.d d) []) else none
theorem ss_retN{f:DS->M D}(h:PD X G e f):SS X G (.Return (some e) pos) (sRetN f):=by
 obtain⟨t,p,h⟩:=h
 refine⟨_,ps_ret p,λA δ μ O α σ H Dn E k=>?_⟩
 unfold sRetN at k
 by_cases hn:A.α.length=0
 ·rw[if_pos hn] at k
  refine h (viewN 4 μ δ) A.R0 σ H _ E.viewN (al (ez E.sr (bi (ax k) λx μ h=>Er.go E.st h)) λd z v H' s r=>?_)
  have E':=E.same s
  have hα:A.α=[]:=List.length_eq_zero_iff.mp hn
  refine z v A.R0 [] H' ⟨rfl,λi j a h=>by simp at h,λl hl=>E'.sr.oo l (E'.sr.sub l hl),λ_ h=>h,λk a h=>by simp at h⟩ ?_ (.d r)
  have g:=E'.st
  rw[hα] at g
  exact⟨by rw[hα];exact g.keep,λk a hk=>by rw[hα] at hk;simp at hk,by rw[hα];exact Nat.le_refl _,λk b hk=>by simp at hk,λl hl=>g.ol l (E'.sr.sub l hl),g.live⟩
 ·rw[if_neg hn] at k;exact k.elim
end
end SL
namespace DL
open PySem PySem.Spec PyProof.Rows L2
section
variable{X:Cx}{G:XD->Hp->Prop}{f:DS->M D}{c:DS->M Bool}{fi:DS->M (List D)}{t:D->DS->Option DS}
theorem compF_reads{fr:List (Nat×Str)}{tn:List Str}{wi:TI}(hi:∀{Hr:Hp} (δ:DS) (O:List Addr) (σ:St) (H:Hp) (R:It->Hp->Prop),Ev X.K Hr O H σ δ->ok (GS G Hr) (fi δ) (λds=>∀J H1,aG H H1->Yl X.K J O H1 ds->R J H1)->wi σ H R)
  {Hr:Hp} (δ:DS) (O:List Addr) (σ:St) (H:Hp) (Q:VK) (E:Ev X.K Hr O H σ δ) (k:ok (GS G Hr) (cy tn.length (fr.map (·.1)) t fi c f δ) (NewOf X.K H Q)) :
  tCompG tn.length fr wi (gD X.K t) (cD X.K c) (tD X.K (λ_ _=>False) f) σ H Q:=by
 refine hi δ O σ H _ E (al (ay k) λds z J H1 s1 Y=>?_)
 by_cases hsz:aL ds.length=true
 case neg =>
  rw[if_neg hsz] at z
  exact z.elim
 rw[if_pos hsz] at z
 intro l hl
 have E1:=E.same s1
 have hl0:H l=none:=by
  cases q:H l with
  | none=>rfl
  | some o=>rw[s1 l o q] at hl;cases hl
 have kk:=al (ay z) λys (q:NewOf X.K H Q (.list ys))=>(show aM ys=true/\∀xs H2,Kp l H1 H2->H2 l=some (.lst xs)->Reps X.K [] H2 xs ys->Q (.ref l) H2 from by
  obtain⟨ds',e,hf,q⟩:=q
  cases e
  exact⟨hf,λxs H2 kp h2 rx=>q l xs H2 (s1.trans (kp.same hl)) hl0 h2 rx⟩)
 refine⟨λi m τ xs H2=>m=ds.length-i/\i<=ds.length/\xs.length<=i/\H2 l=some (.lst xs)/\∃δc ys,EC X.K O H1 l H2 τ δc/\Reps X.K (l::O) H2 xs ys /\
  ok (GS G Hr) (bZ t (nX c) (nX f) (ds.drop i) δc) (λb7=>aM (ys++b7)=true/\∀xs H3,Kp l H1 H3->H3 l=some (.lst xs)->Reps X.K [] H3 xs (ys++b7)->Q (.ref l) H3),
  ⟨_,rfl,Nat.zero_le _,Nat.le_refl _,aP,_,[],slot_of E1 tn.length hl,.nil,kk⟩,?_⟩
 rintro i m τ xs H2 ⟨rfl,hi,hx,h2,δc,ys,Ec,ry,kc⟩
 have kp:Kp l H1 H2:=λb o hb e=>Ec.keep b o hb e
 refine⟨h2,?_⟩
 have T:To O (l::O) H1 H2:=kp.to hl
 by_cases hlt:i<ds.length
 ·right
  have hd:ds[i]?=some ds[i]:=List.getElem?_eq_getElem hlt
  obtain⟨go,yl⟩:=Y.step (l::O) H2 T i _ hd
  refine⟨go,Nat.lt_of_le_of_lt hx (Nat.lt_of_lt_of_le hlt (bE hsz)),λx H3 y=>?_⟩
  obtain⟨s3,rx⟩:=yl x H3 y
  rw[gS hd] at kc
  obtain⟨δ',ht,kc⟩:=cC (ay (show ok (GS G Hr) ((M.lift (t ds[i] δc)).thn _) _ from kc))
  refine⟨_,_,_,_,δc,δ',ds[i],l::O,Ec.same s3,rx,ht,λτ' H4 E4 s4=>?_⟩
  refine⟨_,δ',l::O,E4.ev,al (ok_nX (ay kc)) λb zb H5 s5=>?_⟩
  have E5:=E4.same s5
  have s25:=(s3.trans s4).trans s5
  dsimp only
  cases b with
  | false =>
   rw[if_neg Bool.false_ne_true] at zb ⊢
   exact⟨_,by omega,rfl,hlt,by omega,s25 _ _ h2,δ',ys,E5,ry.same s25,zb⟩
  | true =>
   rw[if_pos rfl] at zb ⊢
   refine⟨_,δ',l::O,E5.ev,ok_GS0 (al (ok_nX (ay zb)) λy kz v H6 s6 rv=>?_)⟩
   have h6:H6 l=some (.lst xs):=s6 _ _ (s25 _ _ h2)
   have ts:To (l::O) (l::O) H6 (upd H6 l (.lst (xs++[v]))):=To.set h6 List.mem_cons_self
   refine⟨h6,ds.length-(i+1),by omega,rfl,hlt,by rw[List.length_append];show xs.length+1<=i+1;omega,aP,δ',ys++[y],EC.put (E5.same s6) h6,(((ry.same s25).same s6).to ts).append (.cons (rv.to ts) .nil),?_⟩
   exact al (ay kz) λb7 q=>⟨by rw[List.append_assoc];exact q.1,λxs7 H7 kp7 h7 r7=>q.2 xs7 H7 kp7 h7 (by rw[List.append_assoc] at r7;exact r7)⟩
 ·left
  have e:i=ds.length:=by omega
  subst e
  rw[List.drop_length] at kc
  obtain⟨hf,kc⟩:=(show aM (ys++[])=true/\∀xs H3,Kp l H1 H3->H3 l=some (.lst xs)->Reps X.K [] H3 xs (ys++[])->Q (.ref l) H3 from kc)
  refine⟨Y.stop (l::O) H2 T,kc xs H2 kp h2 ?_⟩
  rw[List.append_nil] at hf ⊢
  exact ry.flat hf
theorem pd_methI0{pl:Sem Bool}{o:Expr}{apos pos:Pos}{k:Nat}{nm m:Str}{F:List D->M D}(h:DefM X.prog X.w X.K X.mg X.base k nm m 1 F)(hr:Room k X.A)(ho:PD X G o f)
  (ht:eval (.Call (.Attribute o m apos) [] [] pos) X.env=(do
   let ov <- eval o X.env
   standAt apos.atName
   let (f,first) <- holding [ov] (getMethod ov m pl)
   callWith pos f first (backTo pos (starEach [] X.env)) (backToKw pos (keywordEach [] X.env))):=by rfl) :
  PD X G (.Call (.Attribute o m apos) [] [] pos) (dMe nm m (λds=>noX (F ds)) f aw):=by
 obtain⟨C,f0,fd,ps,hN,c,hm,F1,hb⟩:=h.ex
 obtain⟨t,p,ho⟩:=ho
 refine⟨_,pe_meth0 (pl:=pl) p c hm F1 hr hb .nil pass0 ht,λδ O σ H Q E k=>?_⟩
 refine ho δ O σ H _ E (al (ay k) λx z v H1 s1 rx=>?_)
 cases hat:attrs nm x with
 | none=>rw[hat] at z;exact z.elim
 | some r =>
  rw[hat] at z
  have z1:ok _ (if iJ m r=true then noX (F [x]) else none) _:=z
  clear z
  by_cases hf:iJ m r=true
  ·rw[if_pos hf] at z1
   obtain⟨a,C',dx,fs,es',rfl,rfl,hN',h1,hn1,hk,rr⟩:=attrs_inv rx hat
   have hC:C'=C:=by
    have:=hN'.symm.trans hN
    simp at this
    exact this
   subst hC
   exact⟨a,dx,fs,rfl,h1,iX hk hf,O,[_],rfl,(E.same s1).oo,.cons rx .nil,al (ok_noX z1) λd y v H2 s2 r2=>y v H2 (s1.trans s2) r2⟩
  ·rw[if_neg hf] at z1;exact z1.elim
end
end DL
namespace SL
open PySem PySem.Spec PyProof.Rows L2 DL
section
variable{X:Cx}{G:XD->Hp->Prop}
theorem ss_compFN{y:Str}{py spos:Pos}{iy:Nat}{c:DS->M Bool}{fi:DS->M (List D)}{f:DS->M D}{t:D->DS->Option DS}{cl:List (Str×Addr)}{fr:List (Nat×Str)}{tn:List Str}{elt iter tg:Expr}{ifs:List Expr}{scope:Scope}{pos:Pos}(hc:X.calm=true)
  (hkind:scope.kind=.function) (hcell:∀y∈scope.names,y.2≠.cell) (hclos:closureFor scope X.env=pure cl) (hsub:∀y c,cl.lookup y=some c->X.env.cells.lookup y=some c)
  (hhas:∀y∈(relabel scope X.env).names,(y.2=.cell\/y.2=.free)->∃c,cl.lookup y.1=some c) (hfr:∀p∈fr,X.N[p.1]?=some p.2/\X.env.kindOf p.2=some .cell/\(compEnvC scope cl 0 X.env).kindOf p.2=some .cell/\∃c,cl.lookup p.2=some c) (hnames:∀y∈scope.names,y.2=.local->scope.names.lookup y.1=some .local)
  (hi:PDI X G tg iter fi) (hg:∀C s3 H3 fp,PDG (aJ X scope cl fr tn C s3 H3 fp) tg t) (hcs:∀C s3 H3 fp,PDTs (aJ X scope cl fr tn C s3 H3 fp) ifs c) (he:∀C s3 H3 fp,PD (aJ X scope cl fr tn C s3 H3 fp) (λ_ _=>False) elt f)
  (hN:X.N.Nodup) (hiy:X.N[iy]?=some y) (hly:Loc X.env.scope y) (hs:∀x,foldedSetIterable iter X.env x=pure x:=by intro _;rfl)
  (hsw:swapsWith (.ListComp elt [⟨tg,iter,ifs,0⟩] scope pos) (some (.Name y py)) spos.line X.env=pure true:=by rfl) (hfy:X.fn y=true\/X.env.scope.names.lookup y=some .local:=by first | exact .inl rfl | exact .inr rfl | assumption) :
  SS X G (.Assign [.Name y py] (.ListComp elt [⟨tg,iter,ifs,0⟩] scope pos) spos) (dh iy (iU (cy tn.length (fr.map (·.1)) t fi c f))):=by
 obtain⟨wi,pi,hi⟩:=hi
 refine⟨_,ps_compG (g:=gD X.K t) (tc:=cD X.K c) (te:=tD X.K (λ_ _=>False) f) hc hkind hcell hclos hsub hhas hfr hnames pi (λC s3 H3 fp=>(hg C s3 H3 fp).can) (λC s3 H3 fp=>(hcs C s3 H3 fp).can) (λC s3 H3 fp=>(he C s3 H3 fp).can) hs hsw hN hiy hly hfy,λA δ μ O α σ H Dn E k=>?_⟩
 refine compF_reads hi (viewN 4 μ δ) A.R0 σ H _ E.viewN (al (ez E.sr (ax (bi (ax k) λx μ h=>Er.go E.st h))) λd z=>?_)
 match d,z with
 | .list ds,z =>
  dsimp only at z
  by_cases hf:aM ds=true
  ·rw[if_pos hf] at z
   exact⟨ds,rfl,hf,λl xs H' s hl hx rx=>z (l::O) (α++[some l]) _ H' ((E.go (Go.adopt s hl) (E.sr.adopt s hl hx rx hf)).set (.h E.sr.at_new)) (Go.adopt s hl)⟩
  ·rw[if_neg hf] at z;exact z.elim
end
end SL
namespace CT
open PySem PySem.Spec L2 DL SL
noncomputable def eC:DS->M Out:=(eL (d2 oIs (d2 oIx (ad 0) (dC (.int 3))) (dC .none)))
noncomputable def bh:List D->M D:=run 1 eC
noncomputable def gr:DS->M Out:=(eL (dIf (dAnd (dB (d2 oEq (d2 oIx (ad 0) (dC (.int 0))) (d2 oIx (ad 0) (dC (.int 1))))) (dB (d2 oGt (d2 oIx (ad 0) (dC (.int 2))) (dC (.int 0))))) (d2 oIx (ad 0) (dC (.int 3))) (dC (.int 0))))
noncomputable def dQ:List D->M D:=run 1 gr
noncomputable def ib:SL.SG:=(bG (dh 3 (b9 (dCB fg (ag (ad 1) aw))))
  (bG (dh 4 (b9 (dCB oSumG (ag (cy 1 [] (tgN 0) (gH (ad 2)) (dNot (dB (cf (λds=>noX (bh ds)) (ag (ad 0) aw)))) (d2 oIx (ad 0) (dC (.int 3)))) aw))))
  (bG (et "Tree" "many" (aN 0) (b9 (dCB fg (ag (ad 2) aw))))
  (bG (et "Tree" "rules" (aN 0) (b9 (iC (nCat (iC (nList (ag (ad 2) aw))) (cy 2 [3] (tgTup 2 (cN (tgN 0) (cN (tgN 1) tgNil))) (dEnum (ag (ad 1) aw)) er (gG (ag (ad 0) (ag (ad 2) (ag (d1 oNeg (ad 1)) (ag (dC .none) (ag (gG aw) aw)))))))))))
  (bG (et "Tree" "bounds" (aN 0) (iU (cy 1 [4] (tgN 0) (gH (d1 (bg "Tree" "rules") (ad 0))) er (dIf (dB (cf (λds=>noX (bh ds)) (ag (ad 0) aw))) (d2 cO (ad 1) (dC (.int 1))) (d2 oIx (ad 0) (dC (.int 3)))))))
  (bG (et "Tree" "flow" (aN 0) (iU (cy 1 [] (tgN 0) (gH (d1 (bg "Tree" "rules") (ad 0))) er (cf (λds=>noX (dQ ds)) (ag (ad 0) aw)))))
  (bG (et "Tree" "times" (aN 0) (hG (nCat (iC (nList (ag (ad 1) aw))) (iC (dW (ag (dC (.int 0)) aw))))))
  (bG (et "Tree" "over" (aN 0) (hG (nCat (iC (nRep (dW (ag (ad 3) aw)) (ad 3))) (iC (dW (ag (dC .none) aw))))))
  (bG (et "Tree" "under" (aN 0) (sCat (sCompN (dRng gZ (ag (ad 3) aw)) (dW aw)) (sLst (cA (hG (nListR (ag (ad 3) aw))) sNil))))
  (bG (et "Tree" "hooks" (aN 0) (hG (nCat (cy 1 [0] (tgN 0) (dRng gZ (ag (ad 3) aw)) er (d2 cO (d1 (bg "Tree" "many") (ad 1)) (ad 0))) (iC (dW (ag (dC .none) aw))))))
  (bG (et "Tree" "depths" (aN 0) (hG (nCat (iC (nRep (dW (ag (dC (.int 1)) aw)) (ad 3))) (iC (dW (ag (dC (.int 0)) aw))))))
  (et "Tree" "begin" (aN 0) (b9 (dC (.int 0)))))))))))))))
noncomputable def eW:List SL.Val->SL.Sto->SL.R (SL.Val×SL.Sto):=SL.runS 5 ib
noncomputable def fI:DS->M Out:=(eL (cy 1 [0] (tgN 0) (gH (dCutS (d1 (bg "Tree" "times") (ad 0)) dNoPart (dPart (d1 oNeg (dC (.int 1)))))) er (d2 oSub (ad 0) (d2 oIx (d1 (bg "Tree" "times") (ad 1)) (dC (.int 0))))))
noncomputable def ec:List D->M D:=run 1 fI
noncomputable def cu:DS->M Out:=(eL (dCutS (d1 (bg "Tree" "flow") (ad 0)) dNoPart (dPart (d1 (bg "Tree" "many") (ad 0)))))
noncomputable def bF:List D->M D:=run 1 cu
noncomputable def eK:DS->M Out:=(bq (cx (d2 oIx (d1 (bg "Tree" "rules") (ad 0)) (ad 1)) (tgN 2))
  (eL (d2 cO (d2 oSub (d2 oIx (ad 2) (dC (.int 2))) (d2 oIx (d1 (bg "Tree" "times") (ad 0)) (d2 oIx (ad 2) (dC (.int 1))))) (d2 oIx (d1 (bg "Tree" "times") (ad 0)) (d2 oIx (ad 2) (dC (.int 0)))))))
noncomputable def bC:List D->M D:=run 3 eK
noncomputable def eg:DS->M Out:=(eL (dIf (dB (d2 oGt (ad 2) (dC (.int 0)))) (d2 oLt (d2 oIx (d1 (bg "Tree" "flow") (ad 0)) (ad 1)) (d2 oIx (d1 (bg "Tree" "bounds") (ad 0)) (ad 1))) (d2 oGt (d2 oIx (d1 (bg "Tree" "flow") (ad 0)) (ad 1)) (dC (.int 0)))))
noncomputable def cm:List D->M D:=run 3 eg
noncomputable def bx:DS->M Out:=(bq (cx (dMe "Tree" "lack_of" (λds=>noX (bC ds)) (ad 0) (ag (ad 5) aw)) (tgN 6))
  (gIf (dAnd (dB (d2 oGt (dCB oAbs (ag (ad 6) aw)) (ad 4))) (dB (dMe "Tree" "is_wrong" (λds=>noX (cm ds)) (ad 0) (ag (ad 5) (ag (ad 6) aw))))) (bq (cx (ad 5) (tgN 3))
  (cx (dCB oAbs (ag (ad 6) aw)) (tgN 4))) fQ))
noncomputable def dg:DS->M Out:=(bq (cx (dC .none) (tgN 3))
  (bq (cx (dC (.int 0)) (tgN 4))
  (bq (gForI (dRng rng2 (ag (ad 1) (ag (ad 2) aw))) (tgN 5) bx)
  (eL (ad 3)))))
noncomputable def cv:List D->M D:=run 7 dg
noncomputable def cF:SL.SG:=(bG (dh 2 (bJ (dCB oMin (ag (d2 cO (d1 (bg "Tree" "begin") (ad 0)) (dC (.int 50))) (ag (d1 (bg "Tree" "many") (ad 0)) aw)))))
  (bG (dh 3 (bJ (dMe "Tree" "worst_rule" (λds=>noX (cv ds)) (ad 0) (ag (d1 (bg "Tree" "begin") (ad 0)) (ag (ad 2) aw)))))
  (bG (et "Tree" "begin" (aN 0) (bJ (dIf (dB (d2 oLt (ad 2) (d1 (bg "Tree" "many") (ad 0)))) (ad 2) (dC (.int 0)))))
  (sIf (iF (dB (d2 io (ad 3) (dC .none)))) (sRet (aN 3)) sNext))))
noncomputable def df:SL.SG:=(bG (sForR (ag (d2 cO (d2 oDiv (d1 (bg "Tree" "many") (ad 0)) (dC (.int 50))) (dC (.int 1))) aw) (agN 1) cF)
  (sRet (b9 (dC .none))))
noncomputable def bN:List SL.Val->SL.Sto->SL.R (SL.Val×SL.Sto):=SL.runS 4 df
noncomputable def cL:DS->M Out:=(gIf (dB (d2 oGe (d2 oIx (d1 (bg "Tree" "depths") (ad 0)) (ad 1)) (d2 oIx (d1 (bg "Tree" "depths") (ad 0)) (ad 2)))) (cx (d2 oIx (d1 (bg "Tree" "over") (ad 0)) (ad 1)) (tgN 1)) (cx (d2 oIx (d1 (bg "Tree" "over") (ad 0)) (ad 2)) (tgN 2)))
noncomputable def eJ:DS->M Out:=(bq (dX (dB (d2 oNe (ad 1) (ad 2))) cL)
  (eL (ad 1)))
noncomputable def dG:List D->M D:=run 3 eJ
noncomputable def gJ:DS->M Out:=(bq (gApp 3 (ad 1))
  (cx (d2 oIx (d1 (bg "Tree" "over") (ad 0)) (ad 1)) (tgN 1)))
noncomputable def iZ:DS->M Out:=(bq (gNewL 3 (dW aw))
  (bq (dX (dB (d2 oNe (ad 1) (ad 2))) gJ)
  (gRetO 3)))
noncomputable def fA:List D->M D:=run 4 iZ
noncomputable def dM:DS->M Out:=(eL (gG (ag (ad 1) (ag (d2 oIx (d1 (bg "Tree" "hooks") (ad 0)) (ad 1)) (ag (d2 oEq (d2 oIx (d2 oIx (d1 (bg "Tree" "rules") (ad 0)) (d2 oIx (d1 (bg "Tree" "hooks") (ad 0)) (ad 1))) (dC (.int 1))) (ad 1)) aw)))))
noncomputable def b8:List D->M D:=run 2 dM
noncomputable def eI:DS->M Out:=(eL (gG (ag (ad 1) (ag (d2 oIx (d1 (bg "Tree" "hooks") (ad 0)) (ad 1)) (ag (d2 oEq (d2 oIx (d2 oIx (d1 (bg "Tree" "rules") (ad 0)) (d2 oIx (d1 (bg "Tree" "hooks") (ad 0)) (ad 1))) (dC (.int 0))) (ad 1)) aw)))))
noncomputable def cM:List D->M D:=run 2 eI
noncomputable def hV:DS->M Out:=(bq (cx (d2 oIx (ad 1) (dC (.int 1))) (tgN 2))
  (eL (dIf (dB (d2 oIx (ad 1) (dC (.int 2)))) (d2 oSub (d2 oIx (d1 (bg "Tree" "bounds") (ad 0)) (ad 2)) (d2 oIx (d1 (bg "Tree" "flow") (ad 0)) (ad 2))) (d2 oIx (d1 (bg "Tree" "flow") (ad 0)) (ad 2)))))
noncomputable def b5:List D->M D:=run 3 hV
noncomputable def fy:DS->M Out:=(bq (gApp 3 (ad 1))
  (cx (d2 oIx (d1 (bg "Tree" "over") (ad 0)) (ad 1)) (tgN 1)))
noncomputable def eG:DS->M Out:=(gSeqN (gNewL 3 (dW aw))
  (gSeqN (dX (dB (d2 oNe (ad 1) (ad 2))) fy)
  (gRetF 3)))
noncomputable def dF:List D->M D:=run 4 eG
noncomputable def dD:SL.SG:=(bG (dh 1 (sPop (aN 3)))
  (bG (sAugX (λi j=>i+j) (sAt "Tree" "times" (aN 0)) (aN 1) (aN 2))
  (bG (sSetX (sAt "Tree" "depths" (aN 0)) (aN 1) (bJ (d2 cO (d2 oIx (d1 (bg "Tree" "depths") (ad 0)) (d2 oIx (d1 (bg "Tree" "over") (ad 0)) (ad 1))) (dC (.int 1)))))
  (sDrop (sExt (aN 3) (sIx (sAt "Tree" "under" (aN 0)) (aN 1)))))))
noncomputable def gy:SL.SG:=(bG (dh 3 (hG (dW (ag (ad 1) aw))))
  (ek (sTestN (dTr (ad 3))) dD))
noncomputable def ed:List SL.Val->SL.Sto->SL.R (SL.Val×SL.Sto):=SL.runS 4 gy
noncomputable def cz:SL.SG:=(bG (sDrop (sRem (sIx (sAt "Tree" "under" (aN 0)) (bJ (d2 oIx (d1 (bg "Tree" "over") (ad 0)) (ad 10)))) (aN 10)))
  (bG (sDrop (sApp (sIx (sAt "Tree" "under" (aN 0)) (bJ (d2 oIx (ad 8) (ad 9)))) (aN 10)))
  (bG (sSetX (sAt "Tree" "over" (aN 0)) (aN 10) (bJ (d2 oIx (ad 8) (ad 9))))
  (sSetX (sAt "Tree" "hooks" (aN 0)) (aN 10) (bJ (d2 oIx (ad 7) (ad 9)))))))
noncomputable def ic:SL.SG:=(bG (dh 4 (bJ (d2 oIx (d1 (bg "Tree" "rules") (ad 0)) (ad 3))))
  (bG (dh 5 (bJ (dMe "Tree" "lack_of" (λds=>noX (bC ds)) (ad 0) (ag (ad 3) aw))))
  (bG (dh 6 (iU (dMe "Tree" "way" (λds=>noX (dF ds)) (ad 0) (ag (ad 2) (ag (d2 oIx (d1 (bg "Tree" "over") (ad 0)) (ad 1)) aw)))))
  (bG (dh 7 (hG (nCat (iC (dW (ag (ad 3) aw))) (cy 1 [0] (tgN 0) (gH (ad 6)) er (d2 oIx (d1 (bg "Tree" "hooks") (ad 1)) (ad 0))))))
  (bG (dh 8 (hG (nCat (iC (dW (ag (dIf (dB (d2 oEq (d2 oIx (ad 4) (dC (.int 0))) (ad 2))) (d2 oIx (ad 4) (dC (.int 1))) (d2 oIx (ad 4) (dC (.int 0)))) aw))) (ad 6))))
  (bG (sForTI true (agTup 2 (fz (agN 9) (fz (agN 10) agNil))) (aN 6) cz)
  (sDrop (sMet "Tree" "shift" ed (aN 0) (cA (aN 2) (cA (b9 (dIf (dB (d2 oEq (d2 oIx (ad 4) (dC (.int 1))) (ad 2))) (ad 5) (d1 oNeg (ad 5)))) sNil))))))))))
noncomputable def cU:List SL.Val->SL.Sto->SL.R (SL.Val×SL.Sto):=SL.runS 11 ic
noncomputable def d5:SL.SG:=(sIf (sTestN (dB (d2 oLt (dMe "Tree" "room" (λds=>noX (b5 ds)) (ad 0) (ag (ad 11) aw)) (ad 9)))) (bG (dh 9 (bJ (dMe "Tree" "room" (λds=>noX (b5 ds)) (ad 0) (ag (ad 11) aw))))
  (dh 10 (b9 (gG (ag (d2 oIx (ad 11) (dC (.int 0))) (ag (ad 4) aw)))))) sNext)
noncomputable def d4:SL.SG:=(sIf (sTestN (dB (d2 oLeD (dMe "Tree" "room" (λds=>noX (b5 ds)) (ad 0) (ag (ad 11) aw)) (ad 9)))) (bG (dh 9 (bJ (dMe "Tree" "room" (λds=>noX (b5 ds)) (ad 0) (ag (ad 11) aw))))
  (dh 10 (b9 (gG (ag (d2 oIx (ad 11) (dC (.int 0))) (ag (ad 5) aw)))))) sNext)
noncomputable def fM:SL.SG:=(sAugX (λi j=>i+j) (sAt "Tree" "flow" (aN 0)) (b9 (d2 oIx (ad 11) (dC (.int 1)))) (b9 (dIf (dB (d2 oIx (ad 11) (dC (.int 2)))) (ad 9) (d1 oNeg (ad 9)))))
noncomputable def ia:SL.SG:=(bG (dh 2 (bJ (d2 oIx (d1 (bg "Tree" "rules") (ad 0)) (ad 1))))
  (bG (dh 3 (bJ (d2 oGt (dMe "Tree" "lack_of" (λds=>noX (bC ds)) (ad 0) (ag (ad 1) aw)) (dC (.int 0)))))
  (bG (dh 4 (b9 (dIf (dB (ad 3)) (d2 oIx (ad 2) (dC (.int 0))) (d2 oIx (ad 2) (dC (.int 1))))))
  (bG (dh 5 (b9 (dIf (dB (ad 3)) (d2 oIx (ad 2) (dC (.int 1))) (d2 oIx (ad 2) (dC (.int 0))))))
  (bG (dh 6 (bJ (dMe "Tree" "meeting" (λds=>noX (dG ds)) (ad 0) (ag (ad 4) (ag (ad 5) aw)))))
  (bG (dh 7 (iU (cy 1 [0] (tgN 0) (gH (dMe "Tree" "way" (λds=>noX (fA ds)) (ad 0) (ag (ad 4) (ag (ad 6) aw)))) er (dMe "Tree" "step_down" (λds=>noX (b8 ds)) (ad 1) (ag (ad 0) aw)))))
  (bG (dh 8 (iU (cy 1 [0] (tgN 0) (gH (dMe "Tree" "way" (λds=>noX (fA ds)) (ad 0) (ag (ad 5) (ag (ad 6) aw)))) er (dMe "Tree" "step_up" (λds=>noX (cM ds)) (ad 1) (ag (ad 0) aw)))))
  (bG (dh 9 (bJ (d2 oIx (d1 (bg "Tree" "bounds") (ad 0)) (ad 1))))
  (bG (dh 10 (b9 (dC .none)))
  (bG (sForTI false (agN 11) (aN 7) d5)
  (bG (sForTI false (agN 11) (aN 8) d4)
  (bG (sForTI false (agN 11) (hG (nCat (iC (nCat (iC (dW (ag (gG (ag (dC .none) (ag (ad 1) (ag (ad 3) aw)))) aw))) (ad 7))) (ad 8))) fM)
  (sIf (iF (dB (d2 io (ad 10) (dC .none)))) (sDrop (sMet "Tree" "hang" cU (aN 0) (cA (b9 (d2 oIx (ad 10) (dC (.int 0)))) (cA (b9 (d2 oIx (ad 10) (dC (.int 1)))) (cA (aN 1) sNil))))) sNext)))))))))))))
noncomputable def eV:List SL.Val->SL.Sto->SL.R (SL.Val×SL.Sto):=SL.runS 12 ia
noncomputable def cX:SL.SG:=(bG (sDrop (sMet "Tree" "mend" eV (aN 0) (cA (aN 1) sNil)))
  (dh 1 (sMet "Tree" "wrong_rule" bN (aN 0) sNil)))
noncomputable def fJ:SL.SG:=(bG (dh 1 (sMet "Tree" "wrong_rule" bN (aN 0) sNil))
  (ek (iF (dB (d2 io (ad 1) (dC .none)))) cX))
noncomputable def dH:List SL.Val->SL.Sto->SL.R (SL.Val×SL.Sto):=SL.runS 2 fJ
noncomputable def eQ:DS->M Out:=(cx (d2 oIx (d2 oIx (ad 0) (d2 oIx (ad 1) (ad 2))) (dC (.int 0))) (tgN 2))
noncomputable def eP:DS->M Out:=(bq (gApp 4 (d2 oIx (ad 1) (ad 5)))
  (cx (d2 oIx (d2 oIx (ad 0) (d2 oIx (ad 1) (ad 5))) (dC (.int 0))) (tgN 5)))
noncomputable def gq:DS->M Out:=(bq (gForI (dRng gZ (ag (dCB fg (ag (ad 1) aw)) aw)) (tgN 3) eQ)
  (bq (gNewL 4 (dW (ag (d2 oIx (ad 1) (ad 2)) aw)))
  (bq (cx (d2 oIx (d2 oIx (ad 0) (d2 oIx (ad 1) (ad 2))) (dC (.int 0))) (tgN 5))
  (bq (dX (dB (d2 oNe (ad 5) (ad 2))) eP)
  (gFrz 4 (eL (dCB oListRev (ag (ad 4) aw))))))))
noncomputable def dP:List D->M D:=run 6 gq
noncomputable def cK:SL.SG:=(sIf (iF (dAnd (dB (cf (λds=>noX (bh ds)) (ag (ad 5) aw))) (dB (d2 oGt (d2 cO (d2 oIx (ad 1) (d2 oIx (ad 5) (dC (.int 0)))) (d2 oIx (ad 5) (dC (.int 2)))) (d2 oIx (ad 1) (d2 oIx (ad 5) (dC (.int 1)))))))) (bG (sSetI 1 (b9 (d2 oIx (ad 5) (dC (.int 1)))) (sLend (d2 cO (d2 oIx (ad 1) (d2 oIx (ad 5) (dC (.int 0)))) (d2 oIx (ad 5) (dC (.int 2))))))
  (bG (sSetI 2 (b9 (d2 oIx (ad 5) (dC (.int 1)))) (aN 4))
  (dh 3 (b9 (d2 oIx (ad 5) (dC (.int 1))))))) sNext)
noncomputable def eA:SL.SG:=(bG (dh 3 (b9 (dC .none)))
  (bG (sFor (dEnum (ag (ad 0) aw)) (agTup 2 (fz (agN 4) (fz (agN 5) agNil))) cK)
  (sRet (aN 3))))
noncomputable def bT:List SL.Val->SL.Sto->SL.R (SL.Val×SL.Sto):=SL.runS 6 eA
noncomputable def F_raise_points:List D->M D:=SL.asD bT
noncomputable def dA:SL.SG:=(bG (dh 5 (sCall bT (cA (aN 1) (cA (aN 2) (cA (aN 3) sNil)))))
  (sIf (iF (dB (d2 oIs (ad 5) (dC .none)))) (sRetF (gG (ag (dC (.str "kept")) (ag (cy 1 [2] (tgN 0) (gH (ad 2)) er (d2 oSub (ad 0) (d2 oIx (ad 1) (dC (.int 0))))) aw)))) sNext))
noncomputable def g_keeping:SL.SG:=(bG (sNewL 2 (nRep (dW (ag (dC (.int 0)) aw)) (d2 cO (ad 0) (dC (.int 1)))))
  (bG (sNewL 3 (nRep (dW (ag (dC .none) aw)) (d2 cO (ad 0) (dC (.int 1)))))
  (bG (sFor (dRng gZ (ag (d2 cO (ad 0) (dC (.int 1))) aw)) (agN 4) dA)
  (sRetF (gG (ag (dC (.str "ring")) (ag (cf (λds=>noX (dP ds)) (ag (ad 1) (ag (ad 3) (ag (ad 5) aw)))) aw)))))))
noncomputable def cS:List SL.Val->SL.Sto->SL.R (SL.Val×SL.Sto):=SL.runS 6 g_keeping
noncomputable def F_keeping:List D->M D:=SL.asD cS
noncomputable def dn:SL.SG:=(bG (dh 2 (sCall cS (cA (aN 0) (cA (aN 1) sNil))))
  (bG (sIf (iF (dB (d2 oEq (d2 oIx (ad 2) (dC (.int 0))) (dC (.str "ring"))))) (sRet (aN 2)) sNext)
  (bG (dh 3 (sMk "Tree" eW (cA (b9 (d2 oIx (ad 2) (dC (.int 1)))) (cA (aN 1) sNil))))
  (bG (sDrop (sMet "Tree" "settle" dH (aN 3) sNil))
  (sRetN (gG (ag (dC (.str "timed")) (ag (dMe "Tree" "timing" (λds=>noX (ec ds)) (ad 3) aw) (ag (dMe "Tree" "flow_of_rules" (λds=>noX (bF ds)) (ad 3) aw) aw)))))))))
noncomputable def cZ:List SL.Val->SL.Sto->SL.R (SL.Val×SL.Sto):=SL.runS 4 dn
noncomputable def bR:List D->M D:=SL.asD cZ
end CT
open PySem PySem.Spec L2 DL
open PySem PySem.Spec L2 DL NumText
namespace TX
def S(l:List Nat):Str:=⟨l.toArray⟩
theorem S_len(l:List Nat):(S l).length=l.length:=by unfold S;show l.toArray.size=_;simp
decreasing_by omega
end TX
namespace DL
open PySem PySem.Spec L2
section
variable{δ:DS}{f g k:DS->M D}{fa:DS->M (List D)}{x d:D}
theorem ev_cutS{fl fh:DS->M (Option Int)}{lo hi:Option Int}(h1:f δ=M.ret x)(h2:fl δ=M.ret lo)(h3:fh δ=M.ret hi)(h4:oCutS lo hi x=some d):dCutS f fl fh δ=M.ret d:=by
 unfold dCutS;rw[h1,aQ,h2,aQ,h3,aQ,h4];rfl
end
end DL
namespace TX
open PySem PySem.Spec L2 DL NumText
def isF(c:Nat):Bool:=decide (48<=c/\c<=57)
def isFig(l:List Nat):Bool:=!decide (l=[])&&l.all isF
def hasF(k:Nat)(l:List Nat):Bool:=decide (l.length=k)&&isFig l
def hrs(l:List Nat):Bool:=hasF 2 l||(decide (3<=l.length/\l.length<=20)&&(isFig l&&!decide (l.head?=some 48)))
def pre(c:Nat)(l:List Nat):List Nat:=l.takeWhile (· != c)
def post(c:Nat)(l:List Nat):List Nat:=(l.dropWhile (· != c)).drop 1
end TX
open PySem PySem.Spec L2 DL CT TX NumText
namespace TX
theorem lenT{l:List Nat}(h:l.length<=1000):fg [.str (S l)]=some (.int ((l.length:Nat):Int)):=by
 show(if aL (S l).length=true then _ else _)=_
 rw[S_len,if_pos (aF (by omega))]
end TX
open PySem PySem.Spec L2 DL TX NumText
namespace TX
end TX
open PySem PySem.Spec L2 DL
namespace DL
section
variable{δ δ':DS}{c:DS->M Bool}{f:DS->M D}{t:D->DS->Option DS}{y d:D}{ds ys:List D}
theorem ev_compT(h1:t d δ=some δ')(hc:c δ'=M.ret true)(h2:f δ'=M.ret y)(h3:bZ t (nX c) (nX f) ds δ'=M.ret ys):bZ t (nX c) (nX f) (d::ds) δ=M.ret (y::ys):=by
 show(M.lift (t d δ)).thn _=_
 rw[h1,lift_some,aQ]
 show(noX (c δ')).thn _=_
 rw[hc]
 show(noX (f δ')).thn _=_
 rw[h2]
 show(bZ _ _ _ _ _).thn _=_
 rw[h3]
 rfl
theorem ev_compS(h1:t d δ=some δ')(hc:c δ'=M.ret false)(h3:bZ t (nX c) (nX f) ds δ'=M.ret ys):bZ t (nX c) (nX f) (d::ds) δ=M.ret ys:=by
 show(M.lift (t d δ)).thn _=_
 rw[h1,lift_some,aQ]
 show(noX (c δ')).thn _=_
 rw[hc]
 exact h3
end
theorem dL{T:List Int}{i:Nat}(h:i<T.length):oIx (.list (T.map PyData.int)) (.int (i:Int))=some (.int (T.getD i 0)):=by
 refine ix_nat (by omega) ?_
 rw[Int.toNat_natCast,List.getElem?_map,List.getElem?_eq_getElem h,List.getD_eq_getElem?_getD,List.getElem?_eq_getElem h]
 rfl
theorem ints_of(l:List Int):gP (l.map PyData.int)=some l:=by
 induction l with
 | nil=>rfl
 | cons a r ih=>show(gP (r.map PyData.int)).map (a :: ·)=_;rw[ih];rfl
end DL
namespace DL
theorem gK{body:D->DS->M Out}{d:D}{ds:List D}{δ δ':DS}{r:M Out}(h1:body d δ=M.ret (.nx δ'))(h2:forD body ds δ'=r):forD body (d::ds) δ=r:=by
 show(body d δ).thn _=_
 rw[h1]
 exact h2
end DL
namespace DL
section
variable{f fi:DS->M D}{δ:DS}{ds es:List D}{d:D}{i j m:Nat}{k n a:Int}
end
end DL
namespace DL
end DL
open PySem PySem.Spec L2 DL CT TX NumText
namespace CT
def jn(c:Nat):List (List Nat)->List Nat
 | []=>[]
 | [a]=>a
 | a::b::r=>a++c::jn c (b::r)
def tot:List (List Nat)->Nat
 | []=>0
 | a::r=>a.length+1+tot r
theorem tot_app(a b:List (List Nat)):tot (a++b)=tot a+tot b:=by
 induction a with
 | nil=>simp [tot]
 | cons x a ih=>rw[List.cons_append,tot,tot,ih];omega
end CT
open PySem PySem.Spec L2 DL CT TX NumText
namespace CT
abbrev tx(l:List Nat):D:=.str (S l)
end CT
open PySem PySem.Spec L2 DL
namespace CT
structure Rl where
 lo:Nat
 hi:Nat
 le:Int
 w:Option Int
 why:D
def wD:Option Int->D
 | none=>.none
 | some w=>.int w
def rl(r:Rl):D:=.tuple [.int (r.lo:Int),.int (r.hi:Int),.int r.le,wD r.w,r.why]
def lk(T:List Int)(r:Rl):Int:=max 0 (r.le-(T.getD r.hi 0-T.getD r.lo 0))
def Pts(n:Nat)(rs:List Rl):Prop:=∀r∈rs,r.lo<n/\r.hi<n
theorem kept_ev(r:Rl):bh [rl r]=M.ret (.bool r.w.isNone):=by
 refine ck ?_
 unfold eC
 refine dv (ak (x:=wD r.w) (y:=.none) (ak (ac rfl) ar rfl) ar ?_)
 cases r.w<;>rfl
def brk(T:List Int):Nat->List Rl->List Int
 | _,[]=>[]
 | k,r::rs=>if r.w.isNone=true/\0<lk T r then (k:Int)::brk T (k+1) rs else brk T (k+1) rs
theorem iK:∀(n:Nat) (xs:List D) (i:Nat),(cb n xs)[i]?=xs[i]?.map λx=>.tuple [.int ((n+i:Nat):Int),x]
 | n,[],i=>by simp [cb]
 | n,x::xs,0=>by simp [cb]
 | n,x::xs,i+1=>by
  rw[cb,List.getElem?_cons_succ,List.getElem?_cons_succ,iK (n+1) xs i,show n+1+i=n+(i+1) by omega]
end CT
open PySem PySem.Spec L2 DL
namespace DL
theorem cutL_take{α:Type}(xs:List α)(n:Nat):cutD xs none (some (n:Int))=xs.take n:=by
 unfold cutD
 rw[HT.sIx_none,HT.sIx_nat,List.drop_zero,Nat.sub_zero]
 rcases Nat.le_total n xs.length with h | h
 ·rw[Nat.min_eq_left h]
 ·rw[Nat.min_eq_right h,List.take_length,List.take_of_length_le h]
theorem cutL_drop{α:Type}(xs:List α)(n:Nat):cutD xs (some (n:Int)) none=xs.drop n:=by
 unfold cutD
 rw[HT.sIx_none,HT.sIx_nat]
 rcases Nat.le_total n xs.length with h | h
 ·rw[Nat.min_eq_left h,List.take_of_length_le (by rw[List.length_drop];omega)]
 ·rw[Nat.min_eq_right h,List.drop_eq_nil_of_le (Nat.le_refl _),List.drop_eq_nil_of_le h,List.take_nil]
theorem o_sumG(l:List Int):oSumG [.list (l.map PyData.int)]=some (.int l.sum):=by
 show(gP (l.map PyData.int)).map _=_
 rw[ints_of]
 rfl
def freshL:List Int->List Int->Bool
 | _,[]=>true
 | acc,a::l=>!(acc.any (·==a))&&freshL (acc++[a]) l
end DL
namespace CT
def loI(r:Rl):Int:=(r.lo:Int)
def hiI(r:Rl):Int:=(r.hi:Int)
def noW(r:Rl):Bool:=r.w.isNone
def leI(r:Rl):Int:=r.le
def ringB(q:List Rl):Bool:=decide (q.map hiI=(q.map loI).drop 1++(q.map loI).take 1)&&freshL [] (q.map loI)&&(q.all noW&&decide (0<(q.map leI).sum))
def okE(n:Nat):D->Bool
 | .int i=>decide (0<=i)&&decide (i<(n:Int))
 | _=>false
def r0:Rl:=⟨0,0,0,none,.none⟩
def atR(rs:List Rl):D->Rl
 | .int i=>rs.getD i.toNat r0
 | _=>r0
def ringD(rs:List Rl)(ds:List D):Bool:=!ds.isEmpty&&(ds.all (okE rs.length)&&ringB (ds.map (atR rs)))
end CT
open PySem PySem.Spec L2 DL
namespace CT
structure KS where
 T:List Int
 Z:List (Option Nat)
 z:Option Nat
def KS.t(s:KS)(v:Nat):Int:=s.T.getD v 0
def stp(j:Nat)(r:Rl)(s:KS):KS :=
 if r.w=none/\s.t r.hi<s.t r.lo+r.le then ⟨s.T.set r.hi (s.t r.lo+r.le),s.Z.set r.hi (some j),some r.hi⟩ else s
def iI:Nat->List Rl->KS->KS
 | _,[],s=>s
 | j,r::q,s=>iI (j+1) q (stp j r s)
def eZ(rs:List Rl):Nat->KS->Bool×KS
 | 0,s=>(false,s)
 | m+1,s=>if (iI 0 rs { s with z:=none }).z=none then (true,iI 0 rs { s with z:=none }) else eZ rs m (iI 0 rs { s with z:=none })
def exam(R k i j:Nat):Nat:=if j<i then k*R+j+1 else k*R+j+1-R
structure KInv(n:Nat)(rs:List Rl)(k i:Nat)(st:Nat->Nat)(s:KS):Prop where
 lT:s.T.length=n
 lZ:s.Z.length=n
 ev:∀v,st v<=k*rs.length+i
 zr:∀v,v<n->0<st v->∃j r,s.Z[v]?=some (some j)/\rs[j]?=some r/\r.w=none/\r.hi=v/\(s.t v<s.t r.lo+r.le\/(s.t v=s.t r.lo+r.le/\st r.lo<st v))/\st v<=st r.lo+rs.length
 ex:∀j r,rs[j]?=some r->r.w=none->st r.lo<exam rs.length k i j->s.t r.lo+r.le<=s.t r.hi
 zp:∀p,s.z=some p->p<n/\k*rs.length<st p
 zn:s.z=none->∀j r,j<i->rs[j]?=some r->r.w=none->s.t r.lo+r.le<=s.t r.hi
theorem getD_set{l:List Int}{i v:Nat}{x:Int}(h:i<l.length):(l.set i x).getD v 0=if v=i then x else l.getD v 0:=by
 rw[List.getD_eq_getElem?_getD,List.getD_eq_getElem?_getD,List.getElem?_set]
 by_cases e:i=v
 ·subst e;rw[if_pos rfl,if_pos h,if_pos rfl];rfl
 ·rw[if_neg e,if_neg (λz=>e z.symm)]
theorem stp_inv{n:Nat}{rs:List Rl}{k i:Nat}{st:Nat->Nat}{s:KS}{r:Rl}(hp:Pts n rs)(I:KInv n rs k i st s)(hr:rs[i]?=some r):∃st',KInv n rs k (i+1) st' (stp i r s):=by
 have hi:i<rs.length:=(List.getElem?_eq_some_iff.mp hr).1
 obtain⟨hlo,hhi⟩:=hp r (List.mem_of_getElem? hr)
 have hex:∀j,j≠i->exam rs.length k (i+1) j=exam rs.length k i j:=λj hj=>by
  unfold exam
  by_cases h:j<i
  ·rw[if_pos h,if_pos (by omega)]
  ·rw[if_neg h,if_neg (by omega)]
 unfold stp
 by_cases hc:r.w=none/\s.t r.hi<s.t r.lo+r.le
 ·rw[if_pos hc]
  obtain⟨hw,hlt⟩:=hc
  have hge:exam rs.length k i i<=st r.lo:=by
   apply Nat.le_of_not_lt
   intro z
   have:=I.ex i r hr hw z
   omega
  have hge2:k*rs.length+i+1<=st r.lo+rs.length:=by
   unfold exam at hge
   rw[if_neg (Nat.lt_irrefl i)] at hge
   omega
  obtain⟨s',hs'⟩:∃s':KS,s'=⟨s.T.set r.hi (s.t r.lo+r.le),s.Z.set r.hi (some i),some r.hi⟩:=⟨_,rfl⟩
  rw[<-hs']
  have ht:∀v,s'.t v=if v=r.hi then s.t r.lo+r.le else s.t v:=λv=>by
   rw[hs']
   exact getD_set (by rw[I.lT];exact hhi)
  have hZ:∀v,v≠r.hi->s'.Z[v]?=s.Z[v]?:=λv hv=>by
   rw[hs']
   show(s.Z.set r.hi (some i))[v]?=_
   rw[List.getElem?_set,if_neg (λz=>hv z.symm)]
  have hZ0:s'.Z[r.hi]?=some (some i):=by
   rw[hs']
   show(s.Z.set r.hi (some i))[r.hi]?=_
   rw[List.getElem?_set,if_pos rfl,if_pos (by rw[I.lZ];exact hhi)]
  have hst:∀v,st v<=k*rs.length+i:=I.ev
  refine⟨λv=>if v=r.hi then k*rs.length+i+1 else st v,⟨?_,?_,λv=>?_,λv hv h0=>?_,λj q hj hq hlt2=>?_,λp hz=>?_,λhz=>?_⟩⟩
  ·rw[hs'];show(s.T.set _ _).length=n;rw[List.length_set];exact I.lT
  ·rw[hs'];show(s.Z.set _ _).length=n;rw[List.length_set];exact I.lZ
  ·try dsimp only
   have:=hst v
   split<;>omega
  ·try dsimp only at h0 ⊢
   by_cases e:v=r.hi
   ·rw[e]
    refine⟨i,r,hZ0,hr,hw,rfl,?_,?_⟩
    ·rw[ht,ht,if_pos rfl]
     by_cases e2:r.lo=r.hi
     ·left
      rw[if_pos e2]
      rw[e2] at hlt ⊢
      omega
     ·right
      rw[if_neg e2,if_neg e2,if_pos rfl]
      have:=hst r.lo
      exact⟨rfl,by omega⟩
    ·rw[if_pos rfl]
     have:=hst r.lo
     split<;>omega
   ·rw[if_neg e] at h0 ⊢
    obtain⟨j,q,h1,h2,h3,h4,h5,h6⟩:=I.zr v hv h0
    refine⟨j,q,by rw[hZ v e];exact h1,h2,h3,h4,?_,?_⟩
    ·rw[ht,ht,if_neg e]
     by_cases e2:q.lo=r.hi
     ·left
      rw[if_pos e2]
      rw[e2] at h5
      omega
     ·rw[if_neg e2,if_neg e2]
      exact h5
    ·have:=hst q.lo
     split
     ·rename_i e2;rw[e2] at h6;have:=hst r.hi;omega
     ·exact h6
  ·try dsimp only at hlt2
   rw[ht,ht]
   by_cases e2:q.lo=r.hi
   ·rw[if_pos e2] at hlt2
    exfalso
    have:exam rs.length k (i+1) j<=k*rs.length+i+1:=by
     have hjl:j<rs.length:=(List.getElem?_eq_some_iff.mp hj).1
     unfold exam
     split<;>omega
    omega
   ·rw[if_neg e2] at hlt2 ⊢
    by_cases ej:j=i
    ·subst ej
     rw[hr] at hj
     cases hj
     rw[if_pos rfl]
     exact Int.le_refl _
    ·rw[hex j ej] at hlt2
     have:=I.ex j q hj hq hlt2
     by_cases e3:q.hi=r.hi
     ·rw[if_pos e3]
      rw[e3] at this
      omega
     ·rw[if_neg e3]
      exact this
  ·rw[hs'] at hz
   cases hz
   refine⟨hhi,?_⟩
   try dsimp only
   rw[if_pos rfl]
   omega
  ·rw[hs'] at hz
   cases hz
 ·rw[if_neg hc]
  have hkeep:r.w=none->s.t r.lo+r.le<=s.t r.hi:=λhw=>by
   apply Int.le_of_not_gt
   intro z
   exact hc ⟨hw,z⟩
  refine⟨st,I.lT,I.lZ,λv=>by have:=I.ev v;omega,I.zr,λj q hj hq hlt=>?_,I.zp,λhz j q hj hq hw=>?_⟩
  ·by_cases ej:j=i
   ·subst ej
    rw[hr] at hj
    cases hj
    exact hkeep hq
   ·rw[hex j ej] at hlt
    exact I.ex j q hj hq hlt
  ·by_cases ej:j=i
   ·subst ej
    rw[hr] at hq
    cases hq
    exact hkeep hw
   ·exact I.zn hz j q (by omega) hq hw
theorem pass_inv{n:Nat}{rs:List Rl}{k:Nat}(hp:Pts n rs):∀(q:List Rl) (i:Nat) (st:Nat->Nat) (s:KS),rs.drop i=q->KInv n rs k i st s->∃st',KInv n rs k (i+q.length) st' (iI i q s)
 | [],i,st,s,_,I=>⟨st,I⟩
 | r::q,i,st,s,hq,I=>by
  have hr:rs[i]?=some r:=by
   have:=congrArg List.head? hq
   rw[List.head?_drop] at this
   exact this
  have hq':rs.drop (i+1)=q:=by rw[<-List.drop_drop,hq];rfl
  obtain⟨st1,I1⟩:=stp_inv hp I hr
  obtain⟨st2,I2⟩:=pass_inv hp q (i+1) st1 _ hq' I1
  refine⟨st2,?_⟩
  rw[List.length_cons,show i+(q.length+1)=i+1+q.length by omega]
  exact I2
theorem KInv.next{n:Nat}{rs:List Rl}{k:Nat}{st:Nat->Nat}{s:KS}(I:KInv n rs k rs.length st s):KInv n rs (k+1) 0 st { s with z:=none }:=by
 have e:(k+1)*rs.length=k*rs.length+rs.length:=Nat.succ_mul _ _
 refine⟨I.lT,I.lZ,λv=>by have:=I.ev v;omega,I.zr,λj r hj hr hlt=>I.ex j r hj hr ?_,(λp h=>nomatch h),λ_ j r h=>absurd h (Nat.not_lt_zero j)⟩
 have hjl:j<rs.length:=(List.getElem?_eq_some_iff.mp hj).1
 unfold exam at hlt ⊢
 rw[if_pos hjl]
 rw[if_neg (Nat.not_lt_zero j)] at hlt
 omega
def KeptT(t:Nat->Int)(rs:List Rl):Prop:=∀r∈rs,r.w=none->t r.lo+r.le<=t r.hi
theorem keep_inv{n:Nat}{rs:List Rl}(hp:Pts n rs):∀(m k:Nat) (st:Nat->Nat) (s:KS),KInv n rs k 0 st { s with z:=none }->∃b s',eZ rs m s=(b,s')/\(b=true->s'.T.length=n/\KeptT s'.t rs)/\(b=false->(m=0/\s'=s)\/∃st' p,KInv n rs (k+m-1) rs.length st' s'/\s'.z=some p)
 | 0,k,st,s,I=>⟨false,s,rfl,λh=>(nomatch h),λ_=>.inl ⟨rfl,rfl⟩⟩
 | m+1,k,st,s,I=>by
  obtain⟨st1,I1⟩:=pass_inv hp rs 0 st _ rfl I
  rw[Nat.zero_add] at I1
  rw[eZ]
  obtain⟨s1,hs1⟩:∃s1,s1=iI 0 rs { s with z:=none }:=⟨_,rfl⟩
  rw[<-hs1] at I1 ⊢
  cases hz:s1.z with
  | none =>
   rw[if_pos rfl]
   refine⟨true,s1,rfl,λ_=>⟨I1.lT,λr hr hw=>?_⟩,λh=>(nomatch h)⟩
   obtain⟨j,hj⟩:=List.mem_iff_getElem?.mp hr
   exact I1.zn hz j r (List.getElem?_eq_some_iff.mp hj).1 hj hw
  | some p =>
   rw[if_neg (λz=>nomatch z)]
   obtain⟨b,s',h1,h2,h3⟩:=keep_inv hp m (k+1) st1 s1 I1.next
   refine⟨b,s',h1,h2,λhb=>.inr ?_⟩
   rcases h3 hb with ⟨h4,h5⟩ | ⟨st',p',h4,h5⟩
   ·subst h4 h5
    exact⟨st1,p,by rw[show k+(0+1)-1=k by omega];exact I1,hz⟩
   ·exact⟨st',p',by rw[show k+(m+1)-1=k+1+m-1 by omega];exact h4,h5⟩
def lowOf(rs:List Rl)(Z:List (Option Nat))(v:Nat):Nat:=match Z[v]? with
 | some (some j)=>match rs[j]? with
  | some r=>r.lo
  | none=>0
 | _=>0
def ups(rs:List Rl)(Z:List (Option Nat)):Nat->Nat->Nat
 | 0,v=>v
 | i+1,v=>lowOf rs Z (ups rs Z i v)
theorem fE(rs:List Rl)(Z:List (Option Nat))(v:Nat)(i:Nat):∀j,ups rs Z (i+j) v=ups rs Z j (ups rs Z i v)
 | 0=>rfl
 | j+1=>by rw[<-Nat.add_assoc,ups,fE rs Z v i j,ups]
structure Raised(n:Nat)(rs:List Rl)(s:KS)(st:Nat->Nat)(v:Nat):Prop where
 lt:v<n
 ex:∃j r,s.Z[v]?=some (some j)/\rs[j]?=some r/\r.w=none/\r.hi=v/\lowOf rs s.Z v=r.lo/\(s.t v<s.t r.lo+r.le\/(s.t v=s.t r.lo+r.le/\st r.lo<st v))/\st v<=st r.lo+rs.length
theorem KInv.raised{n:Nat}{rs:List Rl}{k i:Nat}{st:Nat->Nat}{s:KS}(I:KInv n rs k i st s){v:Nat}(hv:v<n)(h:0<st v):Raised n rs s st v:=by
 obtain⟨j,r,h1,h2,h3,h4,h5,h6⟩:=I.zr v hv h
 refine⟨hv,j,r,h1,h2,h3,h4,?_,h5,h6⟩
 unfold lowOf
 rw[h1]
 try dsimp only
 rw[h2]
theorem pigeon:∀(n:Nat) (f:Nat->Nat),(∀i,i<=n->f i<n)->∃a b,a<b/\b<=n/\f a=f b
 | 0,f,h=>absurd (h 0 (Nat.le_refl 0)) (Nat.not_lt_zero _)
 | n+1,f,h=>by
  by_cases hx:∃i,i<=n/\f i=f (n+1)
  ·obtain⟨i,h1,h2⟩:=hx
   exact⟨i,n+1,by omega,Nat.le_refl _,h2⟩
  ·
   obtain⟨a,b,h1,h2,h3⟩:=pigeon n (λi=>if f i=n then f (n+1) else f i) λi hi=>by
    have h1:=h i (by omega)
    have h2:=h (n+1) (Nat.le_refl _)
    have h3:f i≠f (n+1):=λz=>hx ⟨i,hi,z⟩
    try dsimp only
    split<;>omega
   refine⟨a,b,h1,by omega,?_⟩
   have ha:f a≠f (n+1):=λz=>hx ⟨a,by omega,z⟩
   have hb:f b≠f (n+1):=λz=>hx ⟨b,by omega,z⟩
   try dsimp only at h3
   split at h3<;>split at h3<;>omega
theorem ring_at{n:Nat}{rs:List Rl}{k:Nat}{st:Nat->Nat}{s:KS}{p:Nat}(hp:Pts n rs)(I:KInv n rs k rs.length st s)(hz:s.z=some p)(hn:n<=k+1) :
  (∀i,i<n->Raised n rs s st (ups rs s.Z i p))/\∃c,0<c/\c<=n/\ups rs s.Z c (ups rs s.Z n p)=ups rs s.Z n p/\∀i,Raised n rs s st (ups rs s.Z i (ups rs s.Z n p)):=by
 obtain⟨h1,h2⟩:=I.zp p hz
 have hst:∀i,i<=k+1->(k+1-i)*rs.length<st (ups rs s.Z i p)+rs.length/\ups rs s.Z i p<n:=by
  intro i
  induction i with
  | zero =>
   intro _
   refine⟨?_,h1⟩
   show(k+1)*rs.length<st p+_
   rw[Nat.succ_mul]
   omega
  | succ i ih =>
   intro hi
   obtain⟨g1,g2⟩:=ih (by omega)
   have g3:0<st (ups rs s.Z i p):=by
    have:rs.length<=(k+1-i)*rs.length:=Nat.le_mul_of_pos_left _ (by omega)
    omega
   obtain⟨_,j,r,e1,e2,e3,e4,e5,e6,e7⟩:=I.raised g2 g3
   rw[ups,e5]
   refine⟨?_,(hp r (List.mem_of_getElem? e2)).1⟩
   have:(k+1-i)*rs.length=(k+1-(i+1))*rs.length+rs.length:=by
    rw[<-Nat.succ_mul]
    congr 1
    omega
   omega
 have hr:∀i,i<n->Raised n rs s st (ups rs s.Z i p):=λi hi=>by
  obtain⟨g1,g2⟩:=hst i (by omega)
  refine I.raised g2 ?_
  have:rs.length<=(k+1-i)*rs.length:=Nat.le_mul_of_pos_left _ (by omega)
  omega
 refine⟨hr,?_⟩
 obtain⟨a,b,hab,hbn,he⟩:=pigeon n (λi=>ups rs s.Z i p) λi hi=>(hst i (by omega)).2
 try dsimp only at he
 have e1:∀t,ups rs s.Z (a+t) p=ups rs s.Z (b+t) p:=λt=>by rw[fE,fE,he]
 have e2:ups rs s.Z (n-(b-a)) p=ups rs s.Z n p:=by
  have:=e1 (n-b)
  rw[show b+(n-b)=n by omega,show a+(n-b)=n-(b-a) by omega] at this
  exact this
 have e3:ups rs s.Z (b-a) (ups rs s.Z n p)=ups rs s.Z n p:=by
  have h:=fE rs s.Z p (n-(b-a)) (b-a)
  rw[e2,show n-(b-a)+(b-a)=n by omega] at h
  exact h.symm
 have e4:∀q,ups rs s.Z (q*(b-a)) (ups rs s.Z n p)=ups rs s.Z n p:=by
  intro q
  induction q with
  | zero=>rw[Nat.zero_mul];rfl
  | succ q ih=>rw[Nat.succ_mul,fE,ih,e3]
 refine⟨b-a,by omega,by omega,e3,λi=>?_⟩
 have hc:0<b-a:=by omega
 have e5:ups rs s.Z i (ups rs s.Z n p)=ups rs s.Z (i % (b-a)) (ups rs s.Z n p):=by
  have h:=fE rs s.Z (ups rs s.Z n p) ((b-a)*(i / (b-a))) (i % (b-a))
  rw[Nat.div_add_mod,Nat.mul_comm,e4] at h
  exact h
 rw[e5,<-e2,<-fE]
 have:=Nat.mod_lt i hc
 exact hr _ (by omega)
def sumL(rs:List Rl)(Z:List (Option Nat)):Nat->Nat->Int
 | 0,_=>0
 | i+1,v=>sumL rs Z i v+(match Z[ups rs Z i v]? with | some (some j)=>(match rs[j]? with | some r=>r.le | none=>0) | _=>0)
theorem sum_pos{n:Nat}{rs:List Rl}{s:KS}{st:Nat->Nat}{q:Nat}(hr:∀i,Raised n rs s st (ups rs s.Z i q)){m:Nat}(hm:0<m)(he:ups rs s.Z m q=q):0<sumL rs s.Z m q:=by
 have main:∀i,(i=0/\sumL rs s.Z i q=0)\/(s.t q<s.t (ups rs s.Z i q)+sumL rs s.Z i q\/(s.t q=s.t (ups rs s.Z i q)+sumL rs s.Z i q/\st (ups rs s.Z i q)<st q)):=by
  intro i
  induction i with
  | zero=>exact .inl ⟨rfl,rfl⟩
  | succ i ih =>
   obtain⟨_,j,r,e1,e2,e3,e4,e5,e6,e7⟩:=hr i
   refine .inr ?_
   have hs:sumL rs s.Z (i+1) q=sumL rs s.Z i q+r.le:=by
    rw[sumL,e1]
    try dsimp only
    rw[e2]
   rw[hs,ups,e5]
   rcases ih with ⟨rfl,ih⟩ | ih
   ·rw[ih]
    have e6:s.t q<s.t r.lo+r.le\/(s.t q=s.t r.lo+r.le/\st r.lo<st q):=e6
    rcases e6 with e6 | e6
    ·left;omega
    ·right;exact⟨by omega,e6.2⟩
   ·rcases ih with ih | ih<;>rcases e6 with e6 | e6
    ·left;omega
    ·left;omega
    ·left;omega
    ·right;exact⟨by omega,by omega⟩
 rcases main m with ⟨h,_⟩ | h
 ·omega
 ·rw[he] at h
  omega
end CT
open PySem PySem.Spec L2 DL SL
namespace CT
theorem ixN_pt{n i:Nat}(h:i<n):L2.ixN n (i:Int)=some i:=by
 unfold L2.ixN
 simp
 omega
def zd:Option Nat->D
 | none=>.none
 | some j=>.int (j:Int)
def tD(T:List Int):List Val:=(T.map PyData.int).map Val.d
def zD(Z:List (Option Nat)):List Val:=(Z.map zd).map Val.d
def kst(s:KS):Sto:=[.lst (tD s.T),.lst (zD s.Z)]
theorem tD_set{T:List Int}{i:Nat}{x:Int}:(tD T).set i (.d (.int x))=tD (T.set i x):=by unfold tD;rw[List.map_set,List.map_set]
theorem zD_set{Z:List (Option Nat)}{i:Nat}{x:Option Nat}:(zD Z).set i (.d (zd x))=zD (Z.set i x):=by unfold zD;rw[List.map_set,List.map_set]
theorem kst_T(s:KS):v1 0 (kst s) (some (.h 0))=.vl (.list (s.T.map PyData.int)):=v1_h (Nat.le_refl 0) rfl
theorem kst_Z(s:KS):v1 0 (kst s) (some (.h 1))=.vl (.list (s.Z.map zd)):=v1_h (Nat.zero_le 1) rfl
theorem view6{s:KS}{a b c d:Val->D}{RS z3:D}{x4 x5:D}:viewL 0 (kst s) [some (.d RS),some (.h 0),some (.h 1),some (.d z3),some (.d x4),some (.d x5)]=[.vl RS,.vl (.list (s.T.map PyData.int)),.vl (.list (s.Z.map zd)),.vl z3,.vl x4,.vl x5]:=by
 show [Sl.vl RS,v1 0 (kst s) (some (.h 0)),v1 0 (kst s) (some (.h 1)),.vl z3,.vl x4,.vl x5]=_
 rw[kst_T,kst_Z]
theorem gO(r:Rl):oIx (rl r) (.int 0)=some (.int (r.lo:Int)):=rfl
theorem fX(r:Rl):oIx (rl r) (.int 1)=some (.int (r.hi:Int)):=rfl
theorem ix_rl2(r:Rl):oIx (rl r) (.int 2)=some (.int r.le):=rfl
theorem ix_rl3(r:Rl):oIx (rl r) (.int 3)=some (wD r.w):=rfl
theorem raise_step{n:Nat}{r:Rl}(h1:r.lo<n)(h2:r.hi<n)(RS:D)(j:Nat)(s:KS)(lT:s.T.length=n)(lZ:s.Z.length=n)(N:Nat):cK N [some (.d RS),some (.h 0),some (.h 1),some (.d (zd s.z)),some (.d (.int (j:Int))),some (.d (rl r))] (kst s)=R.ret (.nx [some (.d RS),some (.h 0),some (.h 1),some (.d (zd (stp j r s).z)),some (.d (.int (j:Int))),some (.d (rl r))] (kst (stp j r s))):=by
 have g1:oIx (.list (s.T.map PyData.int)) (.int (r.lo:Int))=some (.int (s.t r.lo)):=dL (by omega)
 have g2:oIx (.list (s.T.map PyData.int)) (.int (r.hi:Int))=some (.int (s.t r.hi)):=dL (by omega)
 have hv:=view6 (s:=s) (a:=λ_=>.none) (b:=λ_=>.none) (c:=λ_=>.none) (d:=λ_=>.none) (RS:=RS) (z3:=zd s.z) (x4:=.int (j:Int)) (x5:=rl r)
 have hc:(dAnd (dB (cf (λds=>noX (bh ds)) (ag (ad 5) aw))) (dB (d2 oGt (d2 cO (d2 oIx (ad 1) (d2 oIx (ad 5) (dC (.int 0)))) (d2 oIx (ad 5) (dC (.int 2)))) (d2 oIx (ad 1) (d2 oIx (ad 5) (dC (.int 1))))))) (viewL 0 (kst s) [some (.d RS),some (.h 0),some (.h 1),some (.d (zd s.z)),some (.d (.int (j:Int))),some (.d (rl r))])=M.ret (r.w.isNone&&decide (s.t r.hi<s.t r.lo+r.le)):=by
  rw[hv]
  exact ev_and (bj (cP (af (ac rfl) ao) (kept_ev r))) (bj (ak (ak (ak (ac rfl) (ak (ac rfl) ar (gO r)) g1) (ak (ac rfl) ar (ix_rl2 r)) eY) (ak (ac rfl) (ak (ac rfl) ar (fX r)) g2) o_gt))
 unfold cK stp
 by_cases hb:r.w=none/\s.t r.hi<s.t r.lo+r.le
 ·rw[if_pos hb]
  rw[hb.1,decide_eq_true hb.2] at hc
  refine ig (b:=true) (eh hc) (fP rfl ?_)
  refine aD (es_setI (k:=0) (j:=r.hi) (m:=(r.hi:Int)) (xs:=tD s.T) (v:=.d (.int (s.t r.lo+r.le))) (μ1:=kst s) (μ':=kst s) (es_lend (by rw[hv];exact ak (ak (ac rfl) (ak (ac rfl) ar (gO r)) g1) (ak (ac rfl) ar (ix_rl2 r)) eY) rfl) rfl (bP (ak (ac rfl) ar (fX r))) rfl (by unfold tD;rw[List.length_map,List.length_map,lT];exact ixN_pt h2)) ?_
  refine aD (es_setI (k:=1) (j:=r.hi) (m:=(r.hi:Int)) (xs:=zD s.Z) (v:=.d (.int (j:Int))) (aO rfl) rfl (bP (ak (ac rfl) ar (fX r))) rfl (by unfold zD;rw[List.length_map,List.length_map,lZ];exact ixN_pt h2)) ?_
  have hμ:((kst s).set 0 (Ob.lst ((tD s.T).set r.hi (Val.d (.int (s.t r.lo+r.le)))))).set 1 (Ob.lst ((zD s.Z).set r.hi (Val.d (.int (j:Int)))))=kst ⟨s.T.set r.hi (s.t r.lo+r.le),s.Z.set r.hi (some j),some r.hi⟩:=by
   show [Ob.lst ((tD s.T).set r.hi (Val.d (.int (s.t r.lo+r.le)))),Ob.lst ((zD s.Z).set r.hi (Val.d (zd (some j))))]=_
   rw[tD_set,zD_set]
   rfl
  rw[hμ]
  exact bA (bP (d:=.int (r.hi:Int)) (ak (ac rfl) ar (fX r)))
 ·rw[if_neg hb]
  have hf:(r.w.isNone&&decide (s.t r.hi<s.t r.lo+r.le))=false:=by
   cases e:r.w with
   | none=>rw[e] at hb;rw[decide_eq_false (λz=>hb ⟨rfl,z⟩)];rfl
   | some w=>rfl
  rw[hf] at hc
  exact ig (b:=false) (eh hc) (gg rfl rfl)
theorem stp_len{j:Nat}{r:Rl}{s:KS}:(stp j r s).T.length=s.T.length/\(stp j r s).Z.length=s.Z.length:=by
 unfold stp
 split
 ·exact⟨List.length_set,List.length_set⟩
 ·exact⟨rfl,rfl⟩
theorem pass_len:∀(q:List Rl) (j:Nat) (s:KS),(iI j q s).T.length=s.T.length/\(iI j q s).Z.length=s.Z.length
 | [],j,s=>⟨rfl,rfl⟩
 | r::q,j,s=>by
  obtain⟨h1,h2⟩:=pass_len q (j+1) (stp j r s)
  obtain⟨h3,h4⟩:=stp_len (j:=j) (r:=r) (s:=s)
  exact⟨h1.trans h3,h2.trans h4⟩
theorem raise_ev{n:Nat}{rs:List Rl}(hp:Pts n rs)(s:KS)(lT:s.T.length=n)(lZ:s.Z.length=n):bT [.d (.list (rs.map rl)),.h 0,.h 1] (kst s)=R.ret (.d (zd (iI 0 rs { s with z:=none }).z),kst (iI 0 rs { s with z:=none })):=by
 refine es_run ?_
 unfold eA
 obtain⟨RS,hRS⟩:∃RS:D,RS=.list (rs.map rl):=⟨_,rfl⟩
 have main:∀(q:List Rl) (j:Nat) (s:KS) (x4 x5:Option Val),Pts n q->s.T.length=n->s.Z.length=n->∃y4 y5,ip (agTup 2 (fz (agN 4) (fz (agN 5) agNil))) (cK 2) (cb j (q.map rl)) [some (.d RS),some (.h 0),some (.h 1),some (.d (zd s.z)),x4,x5] (kst s)=R.ret (.nx [some (.d RS),some (.h 0),some (.h 1),some (.d (zd (iI j q s).z)),y4,y5] (kst (iI j q s))):=by
  intro q
  induction q with
  | nil=>intro j s x4 x5 _ _ _;exact⟨x4,x5,rfl⟩
  | cons r q ih =>
   intro j s x4 x5 hq l1 l2
   obtain⟨p1,p2⟩:=hq r List.mem_cons_self
   obtain⟨s1,s2⟩:=stp_len (j:=j) (r:=r) (s:=s)
   obtain⟨y4,y5,hI⟩:=ih (j+1) (stp j r s) (some (.d (.int (j:Int)))) (some (.d (rl r))) (λa ha=>hq a (List.mem_cons_of_mem _ ha)) (s1.trans l1) (s2.trans l2)
   exact⟨y4,y5,forS_cons (δ1:=[some (.d RS),some (.h 0),some (.h 1),some (.d (zd s.z)),some (.d (.int (j:Int))),some (.d (rl r))]) rfl (raise_step p1 p2 RS j s l1 l2 2) hI⟩
 obtain⟨y4,y5,hm⟩:=main rs 0 { s with z:=none } none none hp lT lZ
 rw[<-hRS]
 refine aD (bA (v:=.d .none) (bP (d:=.none) ar)) ?_
 refine aD (es_for (ds:=cb 0 (rs.map rl)) (ev_enumS (af (by rw[<-hRS];exact ac rfl) ao)) hm) ?_
 exact es_ret (aO rfl)
def keptD(T:List Int):D:=.tuple [.str "kept",.list ((T.map λt=>t-T.getD 0 0).map PyData.int)]
theorem norm_ev(T:List Int)(T0:Int)(h0:0<T.length)(hT:T.getD 0 0=T0)(A:D)(hA:oIx A (.int 0)=some (.int T0)):∀(q:List Int) (x:Sl),bZ (tgN 0) (nX er) (nX (d2 oSub (ad 0) (d2 oIx (ad 1) (dC (.int 0))))) (q.map PyData.int) [x,.vl A]=M.ret ((q.map λt=>t-T0).map PyData.int)
 | [],x=>rfl
 | t::q,x=>dw (δ':=[.vl (.int t),.vl A]) rfl (ak (ac rfl) (ak (ac rfl) ar hA) o_sub) (norm_ev T T0 h0 hT A hA q _)
theorem keep_loop{n:Nat}{rs:List Rl}(hp:Pts n rs)(h0:0<n)(hn:n<=1000000)(RS:D)(hRS:RS=.list (rs.map rl))(MN:D):∀(m:Nat) (a:Int) (s:KS) (x4:Option Val) (x5:Option Val),s.T.length=n->s.Z.length=n->∃y4,ip (agN 4) (dA 0) (b6 a m) [some (.d MN),some (.d RS),some (.h 0),some (.h 1),x4,x5] (kst s)=(if (eZ rs m s).1=true then R.ret (.rt (.d (keptD (eZ rs m s).2.T)) []) else R.ret (.nx [some (.d MN),some (.d RS),some (.h 0),some (.h 1),y4,if m=0 then x5 else some (.d (zd (eZ rs m s).2.z))] (kst (eZ rs m s).2)))
 | 0,a,s,x4,x5,_,_=>⟨x4,rfl⟩
 | m+1,a,s,x4,x5,lT,lZ=>by
  obtain⟨s1,hs1⟩:∃s1,s1=iI 0 rs { s with z:=none }:=⟨_,rfl⟩
  have hr:=raise_ev hp s lT lZ
  obtain⟨l1,l2⟩:=pass_len rs 0 { s with z:=none }
  rw[<-hs1] at l1 l2 hr
  have l1:s1.T.length=n:=l1.trans lT
  have l2:s1.Z.length=n:=l2.trans lZ
  rw[<-hRS] at hr
  have hrng:b6 a (m+1)=.int a::b6 (a+1) m:=by
   unfold b6
   rw[List.range_succ_eq_map,List.map_cons,List.map_map]
   refine congr (congrArg _ (congrArg _ (by push_cast;omega))) (List.map_congr_left λi _=>?_)
   show PyData.int _=PyData.int _
   congr 1
   push_cast
   omega
  rw[hrng,eZ,<-hs1]
  have hv:viewL 0 (kst s1) [some (.d MN),some (.d RS),some (.h 0),some (.h 1),some (.d (.int a)),some (.d (zd s1.z))]=[.vl MN,.vl RS,.vl (.list (s1.T.map PyData.int)),.vl (.list (s1.Z.map zd)),.vl (.int a),.vl (zd s1.z)]:=by
   show [Sl.vl MN,.vl RS,v1 0 (kst s1) (some (.h 0)),v1 0 (kst s1) (some (.h 1)),.vl (.int a),.vl (zd s1.z)]=_
   rw[kst_T,kst_Z]
  have hcall:dh 5 (sCall bT (cA (aN 1) (cA (aN 2) (cA (aN 3) sNil)))) 0 [some (.d MN),some (.d RS),some (.h 0),some (.h 1),some (.d (.int a)),x5] (kst s)=R.ret (.nx [some (.d MN),some (.d RS),some (.h 0),some (.h 1),some (.d (.int a)),some (.d (zd s1.z))] (kst s1)):=bA (es_call (cE (aO rfl) (cE (aO rfl) (cE (aO rfl) gQ))) hr)
  cases hz:s1.z with
  | none =>
   rw[if_pos rfl]
   refine⟨none,?_⟩
   rw[if_pos rfl]
   refine forS_ret (δ1:=[some (.d MN),some (.d RS),some (.h 0),some (.h 1),some (.d (.int a)),x5]) rfl ?_
   unfold dA
   refine aD hcall ?_
   refine ig (b:=true) (eh (by rw[hv,hz];exact bj (ak (x:=.none) (ac rfl) ar rfl))) (fP rfl ?_)
   have hA:oIx (.list (s1.T.map PyData.int)) (.int 0)=some (.int (s1.T.getD 0 0)):=dL (T:=s1.T) (i:=0) (by omega)
   refine es_retF (d:=keptD s1.T) rfl ?_
   rw[hv]
   exact du (af ar (af (cH (ds:=s1.T.map PyData.int) (fv (x:=.list (s1.T.map PyData.int)) (ac rfl) rfl) (aF (by rw[List.length_map];omega)) (norm_ev s1.T _ (by omega) rfl (.list (s1.T.map PyData.int)) hA s1.T .un)) ao)) rfl
  | some p =>
   rw[if_neg (λz=>nomatch z)]
   obtain⟨y4,hI⟩:=keep_loop hp h0 hn RS hRS MN m (a+1) s1 (some (.d (.int a))) (some (.d (zd s1.z))) l1 l2
   refine⟨y4,?_⟩
   have hb:dA 0 [some (.d MN),some (.d RS),some (.h 0),some (.h 1),some (.d (.int a)),x5] (kst s)=R.ret (.nx [some (.d MN),some (.d RS),some (.h 0),some (.h 1),some (.d (.int a)),some (.d (zd s1.z))] (kst s1)):=by
    unfold dA
    refine aD hcall ?_
    exact ig (b:=false) (eh (by rw[hv,hz];exact bj (ak (x:=.int (p:Int)) (ac rfl) ar rfl))) (gg rfl rfl)
   rw[forS_cons (δ1:=[some (.d MN),some (.d RS),some (.h 0),some (.h 1),some (.d (.int a)),x5]) rfl hb hI]
   by_cases hk:(eZ rs m s1).1=true
   ·rw[if_pos hk,if_pos hk]
   ·rw[if_neg hk,if_neg hk,if_neg (Nat.succ_ne_zero m)]
    by_cases hm:m=0
    ·subst hm;rfl
    ·rw[if_neg hm]
def ks0(n:Nat):KS:=⟨List.replicate n 0,List.replicate n none,none⟩
theorem keeping_evS{m:Nat}{rs:List Rl}(hp:Pts (m+1) rs)(hm:m<=1000){x:D}(hring:(eZ rs (m+1) (ks0 (m+1))).1=false->dP [.list (rs.map rl),.list ((eZ rs (m+1) (ks0 (m+1))).2.Z.map zd),zd (eZ rs (m+1) (ks0 (m+1))).2.z]=M.ret x) :
  cS [.d (.int (m:Int)),.d (.list (rs.map rl))] []=R.ret (.d (if (eZ rs (m+1) (ks0 (m+1))).1=true then keptD (eZ rs (m+1) (ks0 (m+1))).2.T else .tuple [.str "ring",x]),[]):=by
 obtain⟨RS,hRS⟩:∃RS:D,RS=.list (rs.map rl):=⟨_,rfl⟩
 obtain⟨y4,hl⟩:=keep_loop hp (by omega) (by omega) RS hRS (.int (m:Int)) (m+1) 0 (ks0 (m+1)) none none (by show(List.replicate _ _).length=_;rw[List.length_replicate]) (by show(List.replicate _ _).length=_;rw[List.length_replicate])
 rw[if_neg (Nat.succ_ne_zero m)] at hl
 have hmm:((m:Int)+1).toNat=m+1:=by omega
 have key:cS [.d (.int (m:Int)),.d RS] []=R.ret (.d (if (eZ rs (m+1) (ks0 (m+1))).1=true then keptD (eZ rs (m+1) (ks0 (m+1))).2.T else .tuple [.str "ring",x]),[]):=by
  refine es_run ?_
  unfold g_keeping
  refine aD (es_newL (ds:=List.replicate (m+1) (.int 0)) (by rw[<-hmm];exact ev_nRep (cg (af ar ao) rfl) (ak (ac rfl) ar eY) (by omega) (by omega))) ?_
  refine aD (es_newL (ds:=List.replicate (m+1) .none) (by rw[<-hmm];exact ev_nRep (cg (af ar ao) rfl) (ak (ac rfl) ar eY) (by omega) (by omega))) ?_
  have hst:([Ob.lst ((List.replicate (m+1) (PyData.int 0)).map Val.d)]++[Ob.lst ((List.replicate (m+1) PyData.none).map Val.d)]:Sto)=kst (ks0 (m+1)):=by
   unfold kst ks0 tD zD
   simp only[List.map_replicate]
   rfl
  have hrg:gZ [.int ((m:Int)+1)]=some (b6 0 (m+1)):=by
   show(if b62 ((m:Int)+1)=true then some (b6 0 ((m:Int)+1).toNat) else none)=_
   rw[if_pos (by unfold b62;simp;omega),hmm]
  rw[<-hst] at hl
  have hfor:=es_for (g:=dA) (n:=0) (fi:=dRng gZ (ag (d2 cO (ad 0) (dC (.int 1))) aw)) (ds:=b6 0 (m+1)) (ev_rngS (af (ak (ac rfl) ar eY) ao) hrg) hl
  by_cases hk:(eZ rs (m+1) (ks0 (m+1))).1=true
  ·rw[if_pos hk] at hfor ⊢
   exact es_seqR hfor
  ·rw[if_neg hk] at hfor ⊢
   refine aD hfor ?_
   obtain⟨s1,hs1⟩:∃s1,s1=(eZ rs (m+1) (ks0 (m+1))).2:=⟨_,rfl⟩
   have hr:=hring (by simpa using hk)
   rw[<-hs1,<-hRS] at hr
   rw[<-hs1]
   refine es_retF (d:=.tuple [.str "ring",x]) rfl ?_
   have hv:∃z4,viewL 0 (kst s1) [some (.d (.int (m:Int))),some (.d RS),some (.h 0),some (.h 1),y4,some (.d (zd s1.z))]=[.vl (.int (m:Int)),.vl RS,.vl (.list (s1.T.map PyData.int)),.vl (.list (s1.Z.map zd)),z4,.vl (zd s1.z)]:=by
    refine⟨v1 0 (kst s1) y4,?_⟩
    show [Sl.vl (.int (m:Int)),.vl RS,v1 0 (kst s1) (some (.h 0)),v1 0 (kst s1) (some (.h 1)),v1 0 (kst s1) y4,.vl (zd s1.z)]=_
    rw[kst_T,kst_Z]
   obtain⟨z4,hv⟩:=hv
   rw[show([]:Sto).length=0 from rfl,hv]
   exact du (af ar (af (cP (af (ac rfl) (af (ac rfl) (af (ac rfl) ao))) hr) ao)) rfl
 rw[<-hRS]
 exact key
end CT
open PySem PySem.Spec L2 DL SL
namespace CT
def zj(Z:List (Option Nat))(v:Nat):Nat:=match Z[v]? with
 | some (some j)=>j
 | _=>0
section
variable{n:Nat}{rs:List Rl}{s:KS}{st:Nat->Nat}
theorem Raised.zix{v:Nat}(h:Raised n rs s st v):oIx (.list (s.Z.map zd)) (.int (v:Int))=some (.int (zj s.Z v:Int)):=by
 obtain⟨_,j,r,e1,_⟩:=h
 refine ix_nat (by omega) ?_
 rw[Int.toNat_natCast,List.getElem?_map,e1]
 unfold zj
 rw[e1]
 rfl
theorem Raised.rix{v:Nat}(h:Raised n rs s st v):∃r,oIx (.list (rs.map rl)) (.int (zj s.Z v:Int))=some (rl r)/\rs[zj s.Z v]?=some r/\r.w=none/\r.hi=v/\r.lo=lowOf rs s.Z v:=by
 obtain⟨_,j,r,e1,e2,e3,e4,e5,_⟩:=h
 have hz:zj s.Z v=j:=by unfold zj;rw[e1]
 rw[hz]
 refine⟨r,ix_nat (by omega) ?_,e2,e3,e4,e5.symm⟩
 rw[Int.toNat_natCast,List.getElem?_map,e2]
 rfl
def rgl(rs:List Rl)(Z:List (Option Nat))(q:Nat):Nat->List Int
 | 0=>[]
 | k+1=>(zj Z (ups rs Z k q):Int)::rgl rs Z q k
theorem rgl_len(q:Nat):∀k,(rgl rs s.Z q k).length=k
 | 0=>rfl
 | k+1=>by rw[rgl,List.length_cons,rgl_len q k]
theorem min_ex(P:Nat->Prop):∀c,0<c->P c->∃m,0<m/\m<=c/\P m/\∀i,0<i->i<m->¬P i:=by
 intro c
 induction c using Nat.strongRecOn with
 | ind c ih =>
  intro h0 hP
  by_cases hx:∃i,0<i/\i<c/\P i
  ·obtain⟨i,h1,h2,h3⟩:=hx
   obtain⟨m,a,b,c1,d⟩:=ih i h2 h1 h3
   exact⟨m,a,by omega,c1,d⟩
  ·exact⟨c,h0,Nat.le_refl c,hP,λi h1 h2 h3=>hx ⟨i,h1,h2,h3⟩⟩
theorem above_ev{q p:Nat}(hn:s.Z.length=n)(hn1:n<=1001)(hr1:∀i,i<n->Raised n rs s st (ups rs s.Z i p))(hq:q=ups rs s.Z n p)(hr:∀i,Raised n rs s st (ups rs s.Z i q)){m:Nat}(hm:0<m)(hmn:m<=n)(he:ups rs s.Z m q=q)(hmin:∀i,0<i->i<m->ups rs s.Z i q≠q) :
  dP [.list (rs.map rl),.list (s.Z.map zd),.int (p:Int)]=M.ret (.list ((rgl rs s.Z q m).map PyData.int)):=by
 have hlen:fg [.list (s.Z.map zd)]=some (.int (n:Int)):=by rw[o_lenL,List.length_map,hn]
 have zix:∀{v:Nat},Raised n rs s st v->oIx (.list (s.Z.map zd)) (.int (v:Int))=some (.int (zj s.Z v:Int)):=λh=>h.zix
 have rix:∀{v:Nat},Raised n rs s st v->∃r,oIx (.list (rs.map rl)) (.int (zj s.Z v:Int))=some (rl r)/\r.lo=lowOf rs s.Z v:=λh=>let ⟨r,a,_,_,_,b⟩:=h.rix;⟨r,a,b⟩
 obtain⟨RS,hRS⟩:∃RS:D,RS=.list (rs.map rl):=⟨_,rfl⟩
 obtain⟨ZL,hZL⟩:∃ZL:D,ZL=.list (s.Z.map zd):=⟨_,rfl⟩
 rw[<-hRS] at rix ⊢
 rw[<-hZL] at zix hlen ⊢
 have low:∀{v k:Nat} {δ:DS},Raised n rs s st v->δ[0]?=some (.vl RS)->δ[1]?=some (.vl ZL)->δ[k]?=some (.vl (.int (v:Int)))->d2 oIx (d2 oIx (ad 0) (d2 oIx (ad 1) (ad k))) (dC (.int 0)) δ=M.ret (.int (lowOf rs s.Z v:Int)):=λ{v k δ} h h0 h1 h2=>by
  obtain⟨r,g1,g2⟩:=rix h
  rw[<-g2]
  exact ak (ak (ac h0) (ak (ac h1) (ac h2) (zix h)) g1) ar (gO r)
 have loop:∀(j:Nat) (v:Nat) (a:Int) (x3:Sl),(∀i,i<j->Raised n rs s st (ups rs s.Z i v))->∃y3,forD (e8 (tgN 3) eQ) (b6 a j) [.vl RS,.vl ZL,.vl (.int (v:Int)),x3,.un,.un]=M.ret (.nx [.vl RS,.vl ZL,.vl (.int (ups rs s.Z j v:Int)),y3,.un,.un]):=by
  intro j
  induction j with
  | zero=>intro v a x3 _;exact⟨x3,rfl⟩
  | succ j ih =>
   intro v a x3 h
   have hrng:b6 a (j+1)=.int a::b6 (a+1) j:=by
    unfold b6
    rw[List.range_succ_eq_map,List.map_cons,List.map_map]
    refine congr (congrArg _ (congrArg _ (by push_cast;omega))) (List.map_congr_left λi _=>?_)
    show PyData.int _=PyData.int _
    congr 1
    push_cast
    omega
   have hv:=h 0 (Nat.succ_pos j)
   have hu:∀i,ups rs s.Z (i+1) v=ups rs s.Z i (lowOf rs s.Z v):=λi=>by rw[show i+1=1+i by omega,fE];rfl
   obtain⟨y3,hI⟩:=ih (lowOf rs s.Z v) (a+1) (.vl (.int a)) λi hi=>by rw[<-hu];exact h (i+1) (by omega)
   refine⟨y3,?_⟩
   rw[hrng,hu]
   refine gK (ie (δ':=[.vl RS,.vl ZL,.vl (.int (v:Int)),.vl (.int a),.un,.un]) rfl ?_) hI
   unfold eQ
   exact bo (low hv rfl rfl rfl)
 have wl:∀(d i:Nat) (x3:Sl),i+1+d=m->dX (dB (d2 oNe (ad 5) (ad 2))) eP [.vl RS,.vl ZL,.vl (.int (q:Int)),x3,.ow ((rgl rs s.Z q (i+1)).reverse.map PyData.int),.vl (.int (ups rs s.Z (i+1) q:Int))]=M.ret (.nx [.vl RS,.vl ZL,.vl (.int (q:Int)),x3,.ow ((rgl rs s.Z q m).reverse.map PyData.int),.vl (.int (q:Int))]):=by
  intro d
  induction d with
  | zero =>
   intro i x3 hi
   rw[show i+1=m by omega,he]
   exact ev_while_f (bj (ak (ac rfl) (ac rfl) (by rw[o_ne,decide_eq_true rfl];rfl)))
  | succ d ih =>
   intro i x3 hi
   have hne:=hmin (i+1) (by omega) (by omega)
   have hR:=hr (i+1)
   refine i0 (δ':=[.vl RS,.vl ZL,.vl (.int (q:Int)),x3,.ow ((rgl rs s.Z q (i+2)).reverse.map PyData.int),.vl (.int (ups rs s.Z (i+2) q:Int))]) (bj (ak (ac rfl) (ac rfl) (by rw[o_ne,decide_eq_false (by omega)];rfl))) ?_ (ih (i+1) x3 (by omega))
   unfold eP
   have hz:rgl rs s.Z q (i+2)=(zj s.Z (ups rs s.Z (i+1) q):Int)::rgl rs s.Z q (i+1):=rfl
   rw[hz,List.reverse_cons,List.map_append]
   refine aT (ev_app (ds:=(rgl rs s.Z q (i+1)).reverse.map PyData.int) (d:=.int (zj s.Z (ups rs s.Z (i+1) q):Int)) rfl (ak (ac rfl) (ac rfl) (zix hR)) (aF (by rw[List.length_map,List.length_reverse,rgl_len];omega))) ?_
   exact bo (low hR rfl rfl rfl)
 have hrg:gZ [.int (n:Int)]=some (b6 0 n):=by
  show(if b62 (n:Int)=true then some (b6 0 (n:Int).toNat) else none)=_
  rw[if_pos (by unfold b62;simp;omega),Int.toNat_natCast]
 obtain⟨y3,hl⟩:=loop n p 0 .un hr1
 rw[<-hq] at hl
 refine ck ?_
 unfold gq
 have hR0:=hr 0
 refine aT (ja (ds:=b6 0 n) (ev_rngS (af (el (af (ac rfl) ao) hlen) ao) hrg) hl) ?_
 refine aT (ev_newL (ds:=[.int (zj s.Z q:Int)]) (cg (af (ak (ac rfl) (ac rfl) (zix hR0)) ao) rfl)) ?_
 refine aT (bo (d:=.int (lowOf rs s.Z q:Int)) (low hR0 rfl rfl rfl)) ?_
 refine aT (wl (m-1) 0 y3 (by omega)) ?_
 refine ev_frz (dv (el (af (ac rfl) ao) ?_))
 show some (PyData.list (List.reverse _))=_
 rw[List.map_reverse,List.reverse_reverse]
def rlA(rs:List Rl)(Z:List (Option Nat))(v:Nat):Rl:=atR rs (.int (zj Z v:Int))
theorem rlA_at{v:Nat}(h:Raised n rs s st v):okE rs.length (.int (zj s.Z v:Int))=true/\(rlA rs s.Z v).w=none/\(rlA rs s.Z v).hi=v/\(rlA rs s.Z v).lo=lowOf rs s.Z v/\rs[zj s.Z v]?=some (rlA rs s.Z v):=by
 obtain⟨r,_,h2,h3,h4,h5⟩:=h.rix
 have hlt:zj s.Z v<rs.length:=(List.getElem?_eq_some_iff.mp h2).1
 have e:rlA rs s.Z v=r:=by
  show(rs.getD (zj s.Z v:Int).toNat r0)=r
  rw[Int.toNat_natCast,List.getD_eq_getElem?_getD,h2]
  rfl
 refine⟨?_,by rw[e];exact h3,by rw[e];exact h4,by rw[e];exact h5,by rw[e];exact h2⟩
 unfold okE
 simp
 omega
def dnR(rs:List Rl)(Z:List (Option Nat))(q:Nat):Nat->List Rl
 | 0=>[]
 | k+1=>rlA rs Z (ups rs Z k q)::dnR rs Z q k
theorem dn_map(q:Nat):∀k,((rgl rs s.Z q k).map PyData.int).map (atR rs)=dnR rs s.Z q k
 | 0=>rfl
 | k+1=>by rw[rgl,List.map_cons,List.map_cons,dn_map q k];rfl
theorem dn_round{q:Nat}(hr:∀i,Raised n rs s st (ups rs s.Z i q)):∀k,(ups rs s.Z k q:Int)::(dnR rs s.Z q k).map hiI=(dnR rs s.Z q k).map loI++[(q:Int)]
 | 0=>rfl
 | k+1=>by
  obtain⟨_,_,h3,h4,_⟩:=rlA_at (hr k)
  have ih:=dn_round hr k
  rw[dnR,List.map_cons,List.map_cons,List.cons_append]
  have e1:hiI (rlA rs s.Z (ups rs s.Z k q))=(ups rs s.Z k q:Int):=by unfold hiI;rw[h3]
  have e2:loI (rlA rs s.Z (ups rs s.Z k q))=(ups rs s.Z (k+1) q:Int):=by unfold loI;rw[h4];rfl
  rw[e1,e2,ih]
theorem dn_fresh{q:Nat}(hr:∀i,Raised n rs s st (ups rs s.Z i q)){m:Nat}(hd:∀a b,0<a->a<b->b<=m->ups rs s.Z a q≠ups rs s.Z b q):∀(k:Nat) (acc:List Int),k<=m->(∀x∈acc,∃b,k<b/\b<=m/\x=(ups rs s.Z b q:Int))->freshL acc ((dnR rs s.Z q k).map loI)=true
 | 0,acc,_,_=>rfl
 | k+1,acc,hk,h=>by
  obtain⟨_,_,h3,h4,_⟩:=rlA_at (hr k)
  have e2:loI (rlA rs s.Z (ups rs s.Z k q))=(ups rs s.Z (k+1) q:Int):=by unfold loI;rw[h4];rfl
  rw[dnR,List.map_cons,e2,freshL,Bool.and_eq_true]
  refine⟨?_,dn_fresh hr hd k _ (by omega) λx hx=>?_⟩
  ·rw[Bool.not_eq_true',List.any_eq_false]
   intro x hx z
   obtain⟨b,b1,b2,rfl⟩:=h x hx
   have z:(ups rs s.Z b q:Int)=(ups rs s.Z (k+1) q:Int):=by simpa using z
   exact hd (k+1) b (by omega) b1 b2 (by omega)
  ·rcases List.mem_append.mp hx with hx | hx
   ·obtain⟨b,b1,b2,b3⟩:=h x hx
    exact⟨b,by omega,b2,b3⟩
   ·rw[List.mem_singleton] at hx
    exact⟨k+1,by omega,hk,hx⟩
theorem dn_sum{q:Nat}(hr:∀i,Raised n rs s st (ups rs s.Z i q)):∀k,((dnR rs s.Z q k).map leI).sum=sumL rs s.Z k q
 | 0=>rfl
 | k+1=>by
  obtain⟨_,j,r,e1,e2,_⟩:=hr k
  have hz:zj s.Z (ups rs s.Z k q)=j:=by unfold zj;rw[e1]
  have h5:=(rlA_at (hr k)).2.2.2.2
  rw[hz,e2] at h5
  have hs:sumL rs s.Z (k+1) q=sumL rs s.Z k q+r.le:=by
   rw[sumL,e1]
   try dsimp only
   rw[e2]
  rw[dnR,List.map_cons,List.sum_cons,dn_sum hr k,hs,Int.add_comm]
  congr 1
  unfold leI
  rw[<-Option.some.inj h5]
theorem dn_now{q:Nat}(hr:∀i,Raised n rs s st (ups rs s.Z i q)):∀k,(dnR rs s.Z q k).all noW=true
 | 0=>rfl
 | k+1=>by
  rw[dnR,List.all_cons,dn_now hr k,Bool.and_true]
  unfold noW
  rw[(rlA_at (hr k)).2.1]
  rfl
theorem ok_all{q:Nat}(hr:∀i,Raised n rs s st (ups rs s.Z i q)):∀k,((rgl rs s.Z q k).map PyData.int).all (okE rs.length)=true
 | 0=>rfl
 | k+1=>by rw[rgl,List.map_cons,List.all_cons,ok_all hr k,(rlA_at (hr k)).1];rfl
theorem ring_true{q m:Nat}(hr:∀i,Raised n rs s st (ups rs s.Z i q))(hm:0<m)(he:ups rs s.Z m q=q)(hmin:∀i,0<i->i<m->ups rs s.Z i q≠q):ringD rs ((rgl rs s.Z q m).map PyData.int)=true:=by
 obtain⟨k,rfl⟩:∃k,m=k+1:=⟨m-1,by omega⟩
 have hd:∀a b,0<a->a<b->b<=k+1->ups rs s.Z a q≠ups rs s.Z b q:=λa b h0 h1 h2 z=>by
  refine hmin (a+(k+1-b)) (by omega) (by omega) ?_
  rw[fE,z,<-fE,show b+(k+1-b)=k+1 by omega,he]
 unfold ringD ringB
 rw[dn_map,ok_all hr,dn_now hr,dn_sum hr,dn_fresh hr hd (k+1) [] (Nat.le_refl _) (λx hx=>nomatch hx),decide_eq_true (sum_pos hr hm he)]
 have hrd:=dn_round hr (k+1)
 rw[he] at hrd
 have e2:(dnR rs s.Z q (k+1)).map loI=(q:Int)::(dnR rs s.Z q k).map loI:=by
  rw[dnR,List.map_cons]
  congr 1
  unfold loI
  rw[(rlA_at (hr k)).2.2.2.1]
  show((ups rs s.Z (k+1) q:Nat):Int)=_
  rw[he]
 rw[e2] at hrd
 rw[List.cons_append] at hrd
 have h4:=(List.cons.inj hrd).2
 rw[e2,h4]
 have:decide ((dnR rs s.Z q k).map loI++[(q:Int)]=List.drop 1 ((q:Int)::(dnR rs s.Z q k).map loI)++List.take 1 ((q:Int)::(dnR rs s.Z q k).map loI))=true:=decide_eq_true rfl
 rw[this]
 rfl
end
theorem keeping_fullS{m:Nat}{rs:List Rl}(hp:Pts (m+1) rs)(hm:m<=1000):(∃T:List Int,cS [.d (.int (m:Int)),.d (.list (rs.map rl))] []=R.ret (.d (.tuple [.str "kept",.list (T.map PyData.int)]),[])/\T.length=m+1/\T.getD 0 0=0/\KeptT (λv=>T.getD v 0) rs)\/(∃L:List Int,cS [.d (.int (m:Int)),.d (.list (rs.map rl))] []=R.ret (.d (.tuple [.str "ring",.list (L.map PyData.int)]),[])/\0<L.length/\L.length<=m+1/\ringD rs (L.map PyData.int)=true):=by
 have I0:KInv (m+1) rs 0 0 (λ_=>0) { ks0 (m+1) with z:=none }:=by
  refine⟨by show(List.replicate _ _).length=_;rw[List.length_replicate],by show(List.replicate _ _).length=_;rw[List.length_replicate],λv=>Nat.zero_le _,λv _ h=>absurd h (Nat.lt_irrefl 0),λj r hj _ h=>?_,(λp h=>nomatch h),λ_ j r h=>absurd h (Nat.not_lt_zero j)⟩
  have hjl:j<rs.length:=(List.getElem?_eq_some_iff.mp hj).1
  unfold exam at h
  rw[if_neg (Nat.not_lt_zero j)] at h
  omega
 obtain⟨b,s',h1,h2,h3⟩:=keep_inv hp (m+1) 0 (λ_=>0) (ks0 (m+1)) I0
 cases b with
 | true =>
  left
  obtain⟨g1,g2⟩:=h2 rfl
  have hk:=keeping_evS (x:=.none) hp hm (λz=>by rw[h1] at z;cases z)
  rw[h1] at hk
  refine⟨s'.T.map λt=>t-s'.T.getD 0 0,hk,by rw[List.length_map];exact g1,?_,λr hr hw=>?_⟩
  ·rw[List.getD_eq_getElem?_getD,List.getElem?_map]
   have:s'.T[0]?=some (s'.T.getD 0 0):=by rw[List.getD_eq_getElem?_getD,List.getElem?_eq_getElem (by omega)];rfl
   rw[this]
   show s'.T.getD 0 0-s'.T.getD 0 0=0
   omega
  ·have h:=g2 r hr hw
   obtain⟨p1,p2⟩:=hp r hr
   have hg:∀v,v<m+1->(s'.T.map λt=>t-s'.T.getD 0 0).getD v 0=s'.t v-s'.T.getD 0 0:=λv hv=>by
    unfold KS.t
    generalize s'.T.getD 0 0=c
    rw[List.getD_eq_getElem?_getD,List.getElem?_map,List.getD_eq_getElem?_getD,List.getElem?_eq_getElem (show v<s'.T.length by omega)]
    rfl
   show(s'.T.map λt=>t-s'.T.getD 0 0).getD r.lo 0+r.le<=(s'.T.map λt=>t-s'.T.getD 0 0).getD r.hi 0
   rw[hg _ p1,hg _ p2]
   omega
 | false =>
  right
  rcases h3 rfl with ⟨h4,_⟩ | ⟨st,p,I,hz⟩
  ·omega
  ·rw[show 0+(m+1)-1=m by omega] at I
   obtain⟨hr1,c,c0,c1,c2,hr⟩:=ring_at hp I hz (Nat.le_refl _)
   obtain⟨mm,m0,m1,m2,m3⟩:=min_ex (λi=>ups rs s'.Z i (ups rs s'.Z (m+1) p)=ups rs s'.Z (m+1) p) c c0 c2
   have ha:=above_ev I.lZ (by omega) hr1 rfl hr m0 (by omega) m2 m3
   have hk:=keeping_evS (x:=.list ((rgl rs s'.Z (ups rs s'.Z (m+1) p) mm).map PyData.int)) hp hm (λ_=>by rw[h1,show(false,s').2=s' from rfl,hz];exact ha)
   rw[h1] at hk
   exact⟨_,hk,by rw[rgl_len];exact m0,by rw[rgl_len];omega,ring_true hr m0 m2 m3⟩
end CT
namespace TR
def upN(f:Nat->Nat):Nat->Nat->Nat
 | 0,p=>p
 | k+1,p=>upN f k (f p)
def aC(f:Nat->Nat):Nat->Nat->List Nat
 | 0,_=>[]
 | k+1,p=>p::aC f k (f p)
def put{α:Type}(f:Nat->α)(i:Nat)(x:α):Nat->α:=λj=>if j=i then x else f j
theorem bv{α:Type}{f:Nat->α}{i:Nat}{x:α}:put f i x i=x:=if_pos rfl
theorem bK{α:Type}{f:Nat->α}{i j:Nat}{x:α}(h:j≠i):put f i x j=f j:=if_neg h
def sm:Nat->(Nat->Int)->Int
 | 0,_=>0
 | k+1,f=>sm k f+f k
theorem bz{f g:Nat->Int}:∀{k:Nat},(∀j,j<k->f j=g j)->sm k f=sm k g
 | 0,_=>rfl
 | k+1,h=>by rw[sm,sm,bz λj hj=>h j (by omega),h k (by omega)]
theorem sm_le{f g:Nat->Int}:∀{k:Nat},(∀j,j<k->f j<=g j)->sm k f<=sm k g
 | 0,_=>Int.le_refl _
 | k+1,h=>by
  have h1:=sm_le (k:=k) λj hj=>h j (by omega)
  have h2:=h k (by omega)
  rw[sm,sm];omega
theorem sm_lt{f g:Nat->Int}{i:Nat}:∀{k:Nat},(∀j,j<k->f j<=g j)->i<k->f i<g i->sm k f<sm k g
 | 0,_,h,_=>absurd h (Nat.not_lt_zero _)
 | k+1,h,hi,hl=>by
  have h2:=h k (by omega)
  rw[sm,sm]
  by_cases e:i=k
  ·subst e
   have h1:=sm_le (k:=i) λj hj=>h j (by omega)
   omega
  ·have h1:=sm_lt (k:=k) (λj hj=>h j (by omega)) (by omega) hl
   omega
theorem sm_add(f g:Nat->Int):∀k,sm k (λj=>f j+g j)=sm k f+sm k g
 | 0=>rfl
 | k+1=>by rw[sm,sm,sm,sm_add f g k];omega
theorem sm_sub(f g:Nat->Int):∀k,sm k (λj=>f j-g j)=sm k f-sm k g
 | 0=>rfl
 | k+1=>by rw[sm,sm,sm,sm_sub f g k];omega
theorem sm_mul(c:Int)(f:Nat->Int):∀k,sm k (λj=>c*f j)=c*sm k f
 | 0=>(Int.mul_zero c).symm
 | k+1=>by rw[sm,sm,sm_mul c f k,Int.mul_add]
theorem sm_nn{f:Nat->Int}:∀{k:Nat},(∀j,j<k->0<=f j)->0<=sm k f
 | 0,_=>Int.le_refl _
 | k+1,h=>by
  have h1:=sm_nn (k:=k) λj hj=>h j (by omega)
  have h2:=h k (by omega)
  rw[sm];omega
theorem sm_one{f:Nat->Int}:∀{k i:Nat},(∀j,j<k->0<=f j)->i<k->f i<=sm k f
 | 0,_,_,h=>absurd h (Nat.not_lt_zero _)
 | k+1,i,h,hi=>by
  have h2:=h k (by omega)
  rw[sm]
  by_cases e:i=k
  ·subst e
   have h1:=sm_nn (k:=i) λj hj=>h j (by omega)
   omega
  ·have h1:=sm_one (k:=k) (i:=i) (λj hj=>h j (by omega)) (by omega)
   omega
theorem sm_put{f c:Nat->Int}{i:Nat}{x:Int}:∀{k:Nat},i<k->sm k (λj=>put f i (f i+x) j*c j)=sm k (λj=>f j*c j)+x*c i
 | 0,h=>absurd h (Nat.not_lt_zero _)
 | k+1,h=>by
  rw[sm,sm]
  by_cases e:i=k
  ·subst e
   rw[bv,bz (g:=λj=>f j*c j) λj hj=>by rw[bK (by omega)],Int.add_mul]
   omega
  ·rw[sm_put (k:=k) (by omega),bK (λz=>e z.symm)]
   omega
theorem sm_pick{g:Nat->Int}{i:Nat}:∀{k:Nat},i<k->sm k (λj=>if i=j then g j else 0)=g i
 | 0,h=>absurd h (Nat.not_lt_zero _)
 | k+1,h=>by
  rw[sm]
  by_cases e:i=k
  ·subst e
   rw[if_pos rfl,bz (g:=λ_=>0) λj hj=>if_neg (by omega)]
   have:∀k,sm k (λ_=>0)=0:=λk=>by
    induction k with
    | zero=>rfl
    | succ k ih=>rw[sm,ih];rfl
   rw[this];omega
  ·rw[sm_pick (k:=k) (by omega),if_neg e];omega
theorem iT:∀k,sm k (λ_=>0)=0
 | 0=>rfl
 | k+1=>by rw[sm,iT k];rfl
theorem sm_swap(f:Nat->Nat->Int)(n:Nat):∀k,sm k (λj=>sm n (f j))=sm n (λp=>sm k (λj=>f j p))
 | 0=>(iT n).symm
 | k+1=>by
  rw[sm,sm_swap f n k,<-sm_add]
  rfl
structure Net where
 n:Nat
 m:Nat
 lo:Nat->Nat
 hi:Nat->Nat
 ln:Nat->Int
 bd:Nat->Int
structure Tree(n:Nat)(ov dp:Nat->Nat):Prop where
 o:ov n=n
 r:dp n=0
 d:∀p,p<n->ov p<=n/\dp p=dp (ov p)+1
section
variable{n:Nat}{ov dp:Nat->Nat}
theorem upN_add(i:Nat):∀(j p:Nat),upN ov (j+i) p=upN ov i (upN ov j p)
 | 0,p=>by rw[Nat.zero_add];rfl
 | j+1,p=>by rw[show j+1+i=(j+i)+1 by omega];exact upN_add i j (ov p)
theorem dY(j p:Nat):upN ov (j+1) p=ov (upN ov j p):=upN_add 1 j p
theorem Tree.pos(T:Tree n ov dp){p:Nat}(h:p<=n)(h0:0<dp p):p<n:=by
 rcases Nat.lt_or_ge p n with z | z
 ·exact z
 ·have:p=n:=by omega
  subst this
  rw[T.r] at h0;omega
theorem Tree.le(T:Tree n ov dp){p:Nat}(h:p<=n):ov p<=n:=by
 rcases Nat.lt_or_ge p n with z | z
 ·exact(T.d p z).1
 ·rw[show p=n by omega,T.o];exact Nat.le_refl _
theorem Tree.up(T:Tree n ov dp):∀(k:Nat) {p:Nat},p<=n->k<=dp p->upN ov k p<=n/\dp (upN ov k p)+k=dp p
 | 0,p,h,_=>⟨h,rfl⟩
 | k+1,p,h,hk=>by
  have hp:=T.pos h (by omega)
  obtain⟨h1,h2⟩:=T.d p hp
  obtain⟨h3,h4⟩:=T.up k h1 (by omega)
  exact⟨h3,by rw[upN];omega⟩
theorem Tree.ups(T:Tree n ov dp):∀(k:Nat) {p:Nat},p<=n->upN ov k p<=n/\dp (upN ov k p)<=dp p
 | 0,p,h=>⟨h,Nat.le_refl _⟩
 | k+1,p,h=>by
  obtain⟨h3,h4⟩:=T.ups k (T.le h)
  rcases Nat.lt_or_ge p n with z | z
  ·have:=(T.d p z).2
   exact⟨h3,by rw[upN];omega⟩
  ·have e:p=n:=by omega
   subst e
   rw[T.o] at h3 h4
   exact⟨by rw[upN,T.o];exact h3,by rw[upN,T.o];exact h4⟩
theorem way_mem:∀{k p x:Nat},x∈aC ov k p->∃j,j<k/\x=upN ov j p
 | 0,p,x,h=>by cases h
 | k+1,p,x,h=>by
  rcases List.mem_cons.mp h with rfl | h
  ·exact⟨0,by omega,rfl⟩
  ·obtain⟨j,h1,h2⟩:=way_mem h
   exact⟨j+1,by omega,h2⟩
theorem ee:∀{k j p:Nat},j<k->upN ov j p∈aC ov k p
 | 0,_,_,h=>absurd h (Nat.not_lt_zero _)
 | k+1,0,p,_=>List.mem_cons_self
 | k+1,j+1,p,h=>List.mem_cons_of_mem _ (ee (by omega))
theorem Tree.inway(T:Tree n ov dp){k p x:Nat}(hp:p<=n)(hk:k<=dp p)(h:x∈aC ov k p):x<n/\dp x<=dp p/\(x=p\/dp x<dp p)/\dp p<dp x+k:=by
 obtain⟨j,h1,rfl⟩:=way_mem h
 obtain⟨h2,h3⟩:=T.up j hp (by omega)
 refine⟨T.pos h2 (by omega),by omega,?_,by omega⟩
 rcases Nat.eq_zero_or_pos j with rfl | z
 ·exact .inl rfl
 ·exact .inr (by omega)
theorem Tree.way_nd(T:Tree n ov dp):∀{k p:Nat},p<=n->k<=dp p->(aC ov k p).Nodup
 | 0,_,_,_=>List.nodup_nil
 | k+1,p,hp,hk=>by
  obtain⟨h1,h2⟩:=T.d p (T.pos hp (by omega))
  refine List.nodup_cons.mpr ⟨λh=>?_,T.way_nd h1 (by omega)⟩
  have:=(T.inway h1 (by omega) h).2.1
  omega
theorem iO:∀(k p:Nat),(aC ov k p).length=k
 | 0,_=>rfl
 | k+1,p=>by rw[aC,List.length_cons,iO]
theorem way_app:∀(i j p:Nat),aC ov (i+j) p=aC ov i p++aC ov j (upN ov i p)
 | 0,j,p=>by rw[Nat.zero_add];rfl
 | i+1,j,p=>by rw[show i+1+j=(i+j)+1 by omega,aC,way_app i j (ov p)];rfl
theorem fC{p q:Nat}:∀{k x:Nat},p∉aC ov k x->aC (put ov p q) k x=aC ov k x
 | 0,_,_=>rfl
 | k+1,x,h=>by
  have hx:x≠p:=λz=>h (z▸List.mem_cons_self)
  rw[aC,aC,bK hx,fC λz=>h (List.mem_cons_of_mem _ z)]
theorem up_put{p q:Nat}:∀{i x:Nat},(∀j,j<i->upN ov j x≠p)->upN (put ov p q) i x=upN ov i x
 | 0,_,_=>rfl
 | i+1,x,h=>by
  have hx:x≠p:=h 0 (by omega)
  rw[upN,upN,bK hx,up_put λj hj=>h (j+1) (by omega)]
theorem Tree.hang(T:Tree n ov dp){p q:Nat}(hp:p<n)(hq:q<=n)(hc:∀i,upN ov i q≠p):∃dp',Tree n (put ov p q) dp'/\∀x,(∀i,upN ov i x≠p)->dp' x=dp x:=by
 refine⟨λx=>open Classical in if ∃i,upN ov i x=p then dp x+dp q+1-dp p else dp x,⟨?_,?_,λx hx=>?_⟩,λx h=>if_neg λ⟨i,z⟩=>h i z⟩
 ·rw[bK (by omega)];exact T.o
 ·have:∀i,upN ov i n=n:=λi=>by
   induction i with
   | zero=>rfl
   | succ i ih=>rw[dY,ih,T.o]
  try dsimp only
  rw[if_neg λ⟨i,z⟩=>by rw[this] at z;omega]
  exact T.r
 ·obtain⟨h1,h2⟩:=T.d x hx
  by_cases e:x=p
  ·subst e
   rw[bv]
   refine⟨hq,?_⟩
   try dsimp only
   rw[if_pos ⟨0,rfl⟩,if_neg λ⟨i,z⟩=>hc i z]
   omega
  ·rw[bK e]
   refine⟨h1,?_⟩
   try dsimp only
   by_cases hs:∃i,upN ov i (ov x)=p
   ·have hx2:∃i,upN ov i x=p:=hs.elim λi z=>⟨i+1,z⟩
    rw[if_pos hs,if_pos hx2]
    obtain⟨i,z⟩:=hs
    have:=(T.ups i h1).2
    rw[z] at this
    omega
   ·have hx2:¬∃i,upN ov i x=p:=λ⟨i,z⟩=>by
     cases i with
     | zero=>exact e z
     | succ i=>exact hs ⟨i,z⟩
    rw[if_neg hs,if_neg hx2]
    exact h2
inductive Meet(ov dp:Nat->Nat):Nat->Nat->Nat->Prop
 | done (p:Nat):Meet ov dp p p p
 | one {p q t:Nat} (h:p≠q) (hd:dp q<=dp p) (m:Meet ov dp (ov p) q t):Meet ov dp p q t
 | two {p q t:Nat} (h:p≠q) (hd:dp p<dp q) (m:Meet ov dp p (ov q) t):Meet ov dp p q t
theorem Tree.meet(T:Tree n ov dp):∀(k p q:Nat),dp p+dp q<=k->p<=n->q<=n->∃t,Meet ov dp p q t
 | k,p,q,hk,hp,hq=>by
  by_cases e:p=q
  ·subst e;exact⟨p,.done p⟩
  ·rcases Nat.lt_or_ge (dp p) (dp q) with hd | hd
   ·obtain⟨h1,h2⟩:=T.d q (T.pos hq (by omega))
    cases k with
    | zero=>omega
    | succ k =>
     obtain⟨t,m⟩:=T.meet k p (ov q) (by omega) hp h1
     exact⟨t,.two e hd m⟩
   ·have hpn:p<n:=by
     rcases Nat.lt_or_ge p n with z | z
     ·exact z
     ·have:p=n:=by omega
      subst this
      rw[T.r] at hd
      rcases Nat.lt_or_ge q p with z | z
      ·have:=(T.d q z).2;omega
      ·omega
    obtain⟨h1,h2⟩:=T.d p hpn
    cases k with
    | zero=>omega
    | succ k =>
     obtain⟨t,m⟩:=T.meet k (ov p) q (by omega) h1 hq
     exact⟨t,.one e hd m⟩
structure Met(ov dp:Nat->Nat)(p q t a b:Nat):Prop where
 la:a<=dp p
 lb:b<=dp q
 ta:upN ov a p=t
 tb:upN ov b q=t
 dj:∀x,x∈aC ov a p->x∉aC ov b q
theorem Tree.met(T:Tree n ov dp){p q t:Nat}(m:Meet ov dp p q t)(hp:p<=n)(hq:q<=n):∃a b,Met ov dp p q t a b:=by
 induction m with
 | done p=>exact⟨0,0,Nat.zero_le _,Nat.zero_le _,rfl,rfl,λ_ h=>by cases h⟩
 | @one p q t h hd m ih =>
  have hpn:p<n:=by
   rcases Nat.lt_or_ge p n with z | z
   ·exact z
   ·have:p=n:=by omega
    subst this
    rw[T.r] at hd
    rcases Nat.lt_or_ge q p with z | z
    ·have:=(T.d q z).2;omega
    ·omega
  obtain⟨h1,h2⟩:=T.d p hpn
  obtain⟨a,b,M⟩:=ih h1 hq
  refine⟨a+1,b,by have:=M.la;omega,M.lb,M.ta,M.tb,λx hx=>?_⟩
  rcases List.mem_cons.mp hx with rfl | hx
  ·intro z
   obtain⟨_,_,z3,_⟩:=T.inway hq M.lb z
   rcases z3 with z3 | z3
   ·exact h z3
   ·omega
  ·exact M.dj x hx
 | @two p q t h hd m ih =>
  obtain⟨h1,h2⟩:=T.d q (T.pos hq (by omega))
  obtain⟨a,b,M⟩:=ih hp h1
  refine⟨a,b+1,M.la,by have:=M.lb;omega,M.ta,M.tb,λx hx z=>?_⟩
  rcases List.mem_cons.mp z with rfl | z
  ·have:=(T.inway hp M.la hx).2.1
   omega
  ·exact M.dj x hx z
end
end TR
namespace TR
def sg(a:Int)(b:Bool):Int:=if b=true then a else -a
def push(a:Int):List (Nat×Bool)->(Nat->Int)->Nat->Int
 | [],f=>f
 | (k,b)::L,f=>push a L (put f k (f k+sg a b))
theorem push_out{a:Int}:∀{L:List (Nat×Bool)} {f:Nat->Int} {k:Nat},k∉L.map (·.1)->push a L f k=f k
 | [],_,_,_=>rfl
 | (i,b)::L,f,k,h=>by
  rw[List.map_cons,List.mem_cons,not_or] at h
  rw[push,push_out h.2,bK h.1]
theorem push_in{a:Int}:∀{L:List (Nat×Bool)} {f:Nat->Int} {k:Nat} {b:Bool},(L.map (·.1)).Nodup->(k,b)∈L->push a L f k=f k+sg a b
 | (i,c)::L,f,k,b,hn,h=>by
  rw[List.map_cons,List.nodup_cons] at hn
  rcases List.mem_cons.mp h with h | h
  ·cases h
   rw[push,push_out hn.1,bv]
  ·have hk:k≠i:=λz=>hn.1 (z▸(List.mem_map_of_mem (f:=Prod.fst) h:k∈L.map (·.1)))
   rw[push,push_in hn.2 h,bK hk]
def tot(c:Nat->Int):List (Nat×Bool)->Int
 | []=>0
 | (k,b)::L=>sg (c k) b+tot c L
theorem tot_app(c:Nat->Int):∀(L M:List (Nat×Bool)),tot c (L++M)=tot c L+tot c M
 | [],M=>by rw[List.nil_append,tot];omega
 | (k,b)::L,M=>by rw[List.cons_append,tot,tot,tot_app c L M];omega
theorem push_sm{a:Int}{c:Nat->Int}{m:Nat}:∀{L:List (Nat×Bool)} {f:Nat->Int},(∀s∈L,s.1<m)->sm m (λj=>push a L f j*c j)=sm m (λj=>f j*c j)+a*tot c L
 | [],f,_=>by rw[tot,Int.mul_zero,Int.add_zero];rfl
 | (k,b)::L,f,h=>by
  have h1:=push_sm (a:=a) (c:=c) (L:=L) (f:=put f k (f k+sg a b)) λs hs=>h s (List.mem_cons_of_mem _ hs)
  have h2:=sm_put (f:=f) (c:=c) (i:=k) (x:=sg a b) (show k<m from h (k,b) List.mem_cons_self)
  have h3:a*(sg (c k) b+tot c L)=sg a b*c k+a*tot c L:=by
   rw[Int.mul_add]
   unfold sg
   cases b with
   | true=>rfl
   | false=>rw[if_neg Bool.false_ne_true,if_neg Bool.false_ne_true,Int.mul_neg,Int.neg_mul]
  show sm m (λj=>push a L (put f k (f k+sg a b)) j*c j)=_
  rw[h1,h2,tot,h3]
  omega
def Jn(N:Net)(k p q:Nat):Prop:=(N.lo k=p/\N.hi k=q)\/(N.hi k=p/\N.lo k=q)
theorem Jn.symm{N:Net}{k p q:Nat}(h:Jn N k p q):Jn N k q p:=h.elim (λz=>.inr ⟨z.2,z.1⟩) λz=>.inl ⟨z.2,z.1⟩
def dnS(N:Net)(hk:Nat->Nat)(q:Nat):Nat×Bool:=(hk q,decide (N.hi (hk q)=q))
def upS(N:Net)(hk:Nat->Nat)(q:Nat):Nat×Bool:=(hk q,decide (N.lo (hk q)=q))
section
variable{N:Net}{ov dp hk:Nat->Nat}
theorem tot_dn{c π:Nat->Int}:∀{k p:Nat},(∀q∈aC ov k p,Jn N (hk q) q (ov q)/\q≠ov q/\c (hk q)=π (N.hi (hk q))-π (N.lo (hk q)))->tot c ((aC ov k p).map (dnS N hk))=π p-π (upN ov k p)
 | 0,p,_=>by rw[upN];show(0:Int)=_;omega
 | k+1,p,h=>by
  obtain⟨h1,h2,h3⟩:=h p List.mem_cons_self
  have ih:=tot_dn (c:=c) (π:=π) (k:=k) (p:=ov p) λq hq=>h q (List.mem_cons_of_mem _ hq)
  show sg (c (hk p)) (decide (N.hi (hk p)=p))+tot c _=_
  rw[ih,upN,h3]
  rcases h1 with ⟨z1,z2⟩ | ⟨z1,z2⟩
  ·rw[decide_eq_false (by rw[z2];exact λz=>h2 z.symm),z1,z2]
   unfold sg
   rw[if_neg Bool.false_ne_true];omega
  ·rw[decide_eq_true z1,z1,z2]
   unfold sg
   rw[if_pos rfl];omega
theorem tot_up{c π:Nat->Int}:∀{k p:Nat},(∀q∈aC ov k p,Jn N (hk q) q (ov q)/\q≠ov q/\c (hk q)=π (N.hi (hk q))-π (N.lo (hk q)))->tot c ((aC ov k p).map (upS N hk))=π (upN ov k p)-π p
 | 0,p,_=>by rw[upN];show(0:Int)=_;omega
 | k+1,p,h=>by
  obtain⟨h1,h2,h3⟩:=h p List.mem_cons_self
  have ih:=tot_up (c:=c) (π:=π) (k:=k) (p:=ov p) λq hq=>h q (List.mem_cons_of_mem _ hq)
  show sg (c (hk p)) (decide (N.lo (hk p)=p))+tot c _=_
  rw[ih,upN,h3]
  rcases h1 with ⟨z1,z2⟩ | ⟨z1,z2⟩
  ·rw[decide_eq_true z1,z1,z2]
   unfold sg
   rw[if_pos rfl];omega
  ·rw[decide_eq_false (by rw[z2];exact λz=>h2 z.symm),z1,z2]
   unfold sg
   rw[if_neg Bool.false_ne_true];omega
end
def room(N:Net)(fl:Nat->Int)(k p:Nat):Int:=if N.lo k=p then N.bd k-fl k else fl k
section
variable{N:Net}{fl fl':Nat->Int}{k p:Nat}{a:Int}{b:Bool}
theorem room_fwd(hb:b=decide (N.lo k=p))(h:fl' k=fl k+sg a b):room N fl' k p=room N fl k p-a:=by
 unfold room
 rw[h,hb]
 unfold sg
 by_cases e:N.lo k=p
 ·rw[if_pos e,if_pos e,decide_eq_true e,if_pos rfl];omega
 ·rw[if_neg e,if_neg e,decide_eq_false e,if_neg Bool.false_ne_true];omega
theorem room_bwd(hb:b=!decide (N.lo k=p))(h:fl' k=fl k+sg a b):room N fl' k p=room N fl k p+a:=by
 unfold room
 rw[h,hb]
 unfold sg
 by_cases e:N.lo k=p
 ·rw[if_pos e,if_pos e,decide_eq_true e,Bool.not_true,if_neg Bool.false_ne_true];omega
 ·rw[if_neg e,if_neg e,decide_eq_false e,Bool.not_false,if_pos rfl]
theorem room_nn(h:0<=fl k/\fl k<=N.bd k):0<=room N fl k p/\room N fl k p<=N.bd k:=by
 unfold room
 split<;>omega
theorem room_eq(h:fl' k=fl k):room N fl' k p=room N fl k p:=by unfold room;rw[h]
theorem bd_fwd(hb:b=decide (N.lo k=p))(h:fl' k=fl k+sg a b)(h0:0<=fl k/\fl k<=N.bd k)(ha:0<=a)(hr:a<=room N fl k p):0<=fl' k/\fl' k<=N.bd k:=by
 unfold room at hr
 rw[h,hb]
 unfold sg
 by_cases e:N.lo k=p
 ·rw[if_pos e] at hr;rw[decide_eq_true e,if_pos rfl];omega
 ·rw[if_neg e] at hr;rw[decide_eq_false e,if_neg Bool.false_ne_true];omega
end
def chD(rm:Nat->Int):List Nat->Int->Option Nat->Int×Option Nat
 | [],a,l=>(a,l)
 | q::L,a,l=>if rm q<a then chD rm L (rm q) (some q) else chD rm L a l
def chU(rm:Nat->Int):List Nat->Int->Option Nat->Int×Option Nat
 | [],a,l=>(a,l)
 | q::L,a,l=>if rm q<=a then chU rm L (rm q) (some q) else chU rm L a l
theorem chD_ok(rm:Nat->Int):∀(L:List Nat) (a:Int) (l:Option Nat),(chD rm L a l=(a,l)/\∀q∈L,a<=rm q)\/(∃x L1 L2,L=L1++x::L2/\chD rm L a l=(rm x,some x)/\rm x<a/\(∀q∈L1,rm x<rm q)/\∀q∈L2,rm x<=rm q)
 | [],a,l=>.inl ⟨rfl,λ_ h=>by cases h⟩
 | q::L,a,l=>by
  unfold chD
  by_cases h:rm q<a
  ·rw[if_pos h]
   rcases chD_ok rm L (rm q) (some q) with ⟨h1,h2⟩ | ⟨x,L1,L2,h1,h2,h3,h4,h5⟩
   ·exact .inr ⟨q,[],L,rfl,h1,h,(λ_ z=>by cases z),h2⟩
   ·refine .inr ⟨x,q::L1,L2,by rw[h1];rfl,h2,by omega,λy hy=>?_,h5⟩
    rcases List.mem_cons.mp hy with rfl | hy
    ·exact h3
    ·exact h4 y hy
  ·rw[if_neg h]
   rcases chD_ok rm L a l with ⟨h1,h2⟩ | ⟨x,L1,L2,h1,h2,h3,h4,h5⟩
   ·refine .inl ⟨h1,λy hy=>?_⟩
    rcases List.mem_cons.mp hy with rfl | hy
    ·omega
    ·exact h2 y hy
   ·refine .inr ⟨x,q::L1,L2,by rw[h1];rfl,h2,h3,λy hy=>?_,h5⟩
    rcases List.mem_cons.mp hy with rfl | hy
    ·omega
    ·exact h4 y hy
theorem chU_ok(rm:Nat->Int):∀(L:List Nat) (a:Int) (l:Option Nat),(chU rm L a l=(a,l)/\∀q∈L,a<rm q)\/(∃x L1 L2,L=L1++x::L2/\chU rm L a l=(rm x,some x)/\rm x<=a/\(∀q∈L1,rm x<=rm q)/\∀q∈L2,rm x<rm q)
 | [],a,l=>.inl ⟨rfl,λ_ h=>by cases h⟩
 | q::L,a,l=>by
  unfold chU
  by_cases h:rm q<=a
  ·rw[if_pos h]
   rcases chU_ok rm L (rm q) (some q) with ⟨h1,h2⟩ | ⟨x,L1,L2,h1,h2,h3,h4,h5⟩
   ·exact .inr ⟨q,[],L,rfl,h1,h,(λ_ z=>by cases z),h2⟩
   ·refine .inr ⟨x,q::L1,L2,by rw[h1];rfl,h2,by omega,λy hy=>?_,h5⟩
    rcases List.mem_cons.mp hy with rfl | hy
    ·exact h3
    ·exact h4 y hy
  ·rw[if_neg h]
   rcases chU_ok rm L a l with ⟨h1,h2⟩ | ⟨x,L1,L2,h1,h2,h3,h4,h5⟩
   ·refine .inl ⟨h1,λy hy=>?_⟩
    rcases List.mem_cons.mp hy with rfl | hy
    ·omega
    ·exact h2 y hy
   ·refine .inr ⟨x,q::L1,L2,by rw[h1];rfl,h2,h3,λy hy=>?_,h5⟩
    rcases List.mem_cons.mp hy with rfl | hy
    ·omega
    ·exact h4 y hy
def Und(n:Nat)(ov:Nat->Nat)(un:Nat->List Nat):Prop:=∀q,q<=n->(un q).Nodup/\∀p,p∈un q↔p<n/\ov p=q
def reU(un:Nat->List Nat)(o p q:Nat):Nat->List Nat:=put (put un o ((un o).erase p)) q (put un o ((un o).erase p) q++[p])
theorem Und.re{n:Nat}{ov:Nat->Nat}{un:Nat->List Nat}(U:Und n ov un){p q:Nat}(hp:p<n)(ho:ov p<=n)(hq:q<=n):Und n (put ov p q) (reU un (ov p) p q):=by
 have h0:∀x,x<=n->(put un (ov p) ((un (ov p)).erase p) x).Nodup/\∀y,y∈put un (ov p) ((un (ov p)).erase p) x↔y≠p/\y<n/\ov y=x:=λx hx=>by
  obtain⟨u1,u2⟩:=U x hx
  by_cases e:x=ov p
  ·subst e
   rw[bv]
   refine⟨u1.erase p,λy=>?_⟩
   rw[u1.mem_erase_iff,u2]
  ·rw[bK e]
   refine⟨u1,λy=>?_⟩
   rw[u2]
   exact⟨λz=>⟨λw=>e (by rw[<-z.2,w]),z⟩,λz=>z.2⟩
 intro x hx
 unfold reU
 obtain⟨g1,g2⟩:=h0 x hx
 by_cases e:x=q
 ·subst e
  rw[bv]
  refine⟨List.nodup_append.mpr ⟨g1,List.nodup_cons.mpr ⟨(λh=>by cases h),List.nodup_nil⟩,λa ha b hb=>?_⟩,λy=>?_⟩
  ·rw[List.mem_singleton] at hb
   rw[hb]
   exact((g2 a).mp ha).1
  ·rw[List.mem_append,List.mem_singleton,g2]
   by_cases ey:y=p
   ·subst ey
    rw[bv]
    exact⟨λ_=>⟨hp,rfl⟩,λ_=>.inr rfl⟩
   ·rw[bK ey]
    exact⟨λz=>z.elim (λw=>w.2) λw=>absurd w ey,λz=>.inl ⟨ey,z⟩⟩
 ·rw[bK e]
  refine⟨g1,λy=>?_⟩
  rw[g2]
  by_cases ey:y=p
  ·subst ey
   rw[bv]
   exact⟨λz=>absurd rfl z.1,λz=>absurd z.2.symm e⟩
  ·rw[bK ey]
   exact⟨λz=>z.2,λz=>⟨ey,z⟩⟩
structure Tr where
 ov:Nat->Nat
 hk:Nat->Nat
 un:Nat->List Nat
def Tr.re(s:Tr)(p q r:Nat):Tr:=⟨put s.ov p q,put s.hk p r,reU s.un (s.ov p) p q⟩
def eX:Nat->Nat->Nat->Nat->Tr->Tr
 | 0,_,_,_,s=>s
 | j+1,p,q,r,s=>eX j (s.ov p) p (s.hk p) (s.re p q r)
structure Rv(N:Net)(j p q r:Nat)(s:Tr):Prop where
 tr:∃dp,Tree N.n s.ov dp/\j<=dp p
 lp:p<=N.n
 lq:q<=N.n
 cl:∀i,upN s.ov i q∉aC s.ov j p
 un:Und N.n s.ov s.un
 jn:∀x,x<N.n->s.hk x<N.m/\Jn N (s.hk x) x (s.ov x)
 rm:r<N.m
 rj:0<j->Jn N r p q
section
variable{N:Net}
theorem Rv.p_lt{j p q r:Nat}{s:Tr}(R:Rv N (j+1) p q r s):p<N.n:=by
 obtain⟨dp,T,h⟩:=R.tr
 exact T.pos R.lp (by omega)
theorem Rv.not_in{j p q r:Nat}{s:Tr}(R:Rv N (j+1) p q r s):p∉aC s.ov j (s.ov p):=λz=>by
 obtain⟨dp,T,h⟩:=R.tr
 obtain⟨h1,h2⟩:=T.d p R.p_lt
 have:=(T.inway h1 (by omega) z).2.1
 omega
theorem Rv.next{j p q r:Nat}{s:Tr}(R:Rv N (j+1) p q r s):Rv N j (s.ov p) p (s.hk p) (s.re p q r):=by
 have hp:=R.p_lt
 have hno:=R.not_in
 obtain⟨dp,T,hj⟩:=R.tr
 obtain⟨h1,h2⟩:=T.d p hp
 have hc:∀i,upN s.ov i q≠p:=λi z=>R.cl i (by rw[z];exact List.mem_cons_self)
 obtain⟨dp',T',hd⟩:=T.hang hp R.lq hc
 have hw:aC (put s.ov p q) j (s.ov p)=aC s.ov j (s.ov p):=fC hno
 refine⟨⟨dp',T',?_⟩,h1,Nat.le_of_lt hp,λi=>?_,R.un.re hp h1 R.lq,λx hx=>?_,(R.jn p hp).1,λ_=>(R.jn p hp).2.symm⟩
 ·rw[hd _ λi z=>?_]
  ·omega
  ·have:=(T.ups i h1).2
   rw[z] at this
   omega
 ·show upN (put s.ov p q) i p∉aC (put s.ov p q) j (s.ov p)
  rw[hw]
  cases i with
  | zero=>exact hno
  | succ i =>
   rw[upN,bv,up_put λk _=>hc k]
   exact λz=>R.cl i (List.mem_cons_of_mem _ z)
 ·show put s.hk p r x<N.m/\Jn N (put s.hk p r x) x (put s.ov p q x)
  by_cases e:x=p
  ·subst e
   rw[bv,bv]
   exact⟨R.rm,R.rj (by omega)⟩
  ·rw[bK e,bK e]
   exact R.jn x hx
theorem Rv.fin:∀{j p q r:Nat} {s:Tr},Rv N j p q r s->∃p' q' r',Rv N 0 p' q' r' (eX j p q r s)
 | 0,p,q,r,s,R=>⟨p,q,r,R⟩
 | j+1,p,q,r,s,R=>R.next.fin
theorem Rv.out:∀{j p q r:Nat} {s:Tr},Rv N j p q r s->∀x,x∉aC s.ov j p->(eX j p q r s).ov x=s.ov x/\(eX j p q r s).hk x=s.hk x
 | 0,p,q,r,s,R,x,_=>⟨rfl,rfl⟩
 | j+1,p,q,r,s,R,x,h=>by
  have hx:x≠p:=λz=>h (z▸List.mem_cons_self)
  have hw:aC (put s.ov p q) j (s.ov p)=aC s.ov j (s.ov p):=fC R.not_in
  obtain⟨h1,h2⟩:=R.next.out x (by show x∉aC (put s.ov p q) j (s.ov p);rw[hw];exact λz=>h (List.mem_cons_of_mem _ z))
  exact⟨h1.trans (bK hx),h2.trans (bK hx)⟩
theorem Rv.sf{fl:Nat->Int}:∀{j p q r:Nat} {s:Tr},Rv N j p q r s->(∀x,x<N.n->x∉aC s.ov j p->0<room N fl (s.hk x) x)->(0<j->0<room N fl r p)->(∀i,i+1<j->0<room N fl (s.hk (upN s.ov i p)) (upN s.ov (i+1) p))->∀x,x<N.n->0<room N fl ((eX j p q r s).hk x) x
 | 0,p,q,r,s,R,h1,_,_,x,hx=>h1 x hx λz=>by cases z
 | j+1,p,q,r,s,R,h1,h2,h3,x,hx=>by
  have hw:aC (put s.ov p q) j (s.ov p)=aC s.ov j (s.ov p):=fC R.not_in
  have hu:∀i,i<j->upN (put s.ov p q) i (s.ov p)=upN s.ov i (s.ov p):=λi hi=>up_put λk hk z=>R.not_in (by have w:=ee (ov:=s.ov) (p:=s.ov p) (show k<j by omega);rw[z] at w;exact w)
  refine R.next.sf (fl:=fl) (λy hy hny=>?_) (λhj=>?_) (λi hi=>?_) x hx
  ·have hny:y∉aC s.ov j (s.ov p):=by rw[<-hw];exact hny
   show 0<room N fl (put s.hk p r y) y
   by_cases e:y=p
   ·subst e;rw[bv];exact h2 (by omega)
   ·rw[bK e]
    exact h1 y hy λz=>(List.mem_cons.mp z).elim e hny
  ·exact h3 0 (by omega)
  ·show 0<room N fl (put s.hk p r (upN (put s.ov p q) i (s.ov p))) (upN (put s.ov p q) (i+1) (s.ov p))
   rw[hu i (by omega),hu (i+1) (by omega),bK λz=>R.not_in (by have w:=ee (ov:=s.ov) (p:=s.ov p) (show i<j by omega);rw[z] at w;exact w)]
   exact h3 (i+1) (by omega)
theorem Rv.keep:∀{j p q r:Nat} {s:Tr},Rv N j p q r s->∀k,(k=r\/∃x,x<N.n/\s.hk x=k)->(k=(if j=0 then r else s.hk (upN s.ov (j-1) p)))\/∃x,x<N.n/\(eX j p q r s).hk x=k
 | 0,p,q,r,s,R,k,h=>by
  rw[if_pos rfl]
  exact h
 | j+1,p,q,r,s,R,k,h=>by
  have hp:=R.p_lt
  have hu:∀i,i<j->upN (put s.ov p q) i (s.ov p)=upN s.ov i (s.ov p):=λi hi=>up_put λk hk z=>R.not_in (by have w:=ee (ov:=s.ov) (p:=s.ov p) (show k<j by omega);rw[z] at w;exact w)
  have h':k=s.hk p\/∃x,x<N.n/\put s.hk p r x=k:=by
   rcases h with rfl | ⟨x,hx,rfl⟩
   ·exact .inr ⟨p,hp,bv⟩
   ·by_cases e:x=p
    ·subst e;exact .inl rfl
    ·exact .inr ⟨x,hx,bK e⟩
  rcases R.next.keep k h' with z | z
  ·left
   rw[if_neg (Nat.succ_ne_zero j),z]
   by_cases e:j=0
   ·subst e;rfl
   ·rw[if_neg e]
    show put s.hk p r (upN (put s.ov p q) (j-1) (s.ov p))=s.hk (upN s.ov (j+1-1) p)
    rw[hu (j-1) (by omega),bK λz=>R.not_in (by have w:=ee (ov:=s.ov) (p:=s.ov p) (show j-1<j by omega);rw[z] at w;exact w),show j+1-1=(j-1)+1 by omega]
    rfl
  ·exact .inr z
theorem Rv.all{Z:Nat->Prop}{p0:Nat}:∀{j p q r:Nat} {s:Tr},Rv N j p q r s->(∀x,x<N.n->x≠p0->Z (s.hk x))->p≠p0\/0<j->(p0∉aC s.ov j p)->Z r->∀x,x<N.n->x≠p0->Z ((eX j p q r s).hk x)
 | 0,p,q,r,s,R,h,_,_,_,x,hx,hne=>h x hx hne
 | j+1,p,q,r,s,R,h,_,hn,hr,x,hx,hne=>by
  have hp0:p≠p0:=λz=>hn (z▸List.mem_cons_self)
  have hw:aC (put s.ov p q) j (s.ov p)=aC s.ov j (s.ov p):=fC R.not_in
  have hn':p0∉aC (put s.ov p q) j (s.ov p):=by rw[hw];exact λz=>hn (List.mem_cons_of_mem _ z)
  have hh:∀x,x<N.n->x≠p0->Z (put s.hk p r x):=λx hx hne=>by
   by_cases e:x=p
   ·subst e;rw[bv];exact hr
   ·rw[bK e];exact h x hx hne
  have hz:Z (s.hk p):=h p R.p_lt hp0
  cases j with
  | zero=>exact hh x hx hne
  | succ j=>exact R.next.all (Z:=Z) (p0:=p0) hh (.inr (by omega)) hn' hz x hx hne
end
end TR
namespace TR
structure St where
 fl:Nat->Int
 tm:Nat->Int
 t:Tr
 dp:Nat->Nat
def lack(N:Net)(tm:Nat->Int)(k:Nat):Int:=N.ln k-tm (N.hi k)+tm (N.lo k)
def inc(N:Net)(p k:Nat):Int:=(if N.hi k=p then 1 else 0)-(if N.lo k=p then 1 else 0)
structure Inv(N:Net)(s:St):Prop where
 tr:Tree N.n s.t.ov s.dp
 un:Und N.n s.t.ov s.t.un
 jn:∀p,p<N.n->s.t.hk p<N.m/\Jn N (s.t.hk p) p (s.t.ov p)
 lk:∀p,p<N.n->lack N s.tm (s.t.hk p)=0
 bb:∀k,k<N.m->0<=s.fl k/\s.fl k<=N.bd k
 nb:∀k,k<N.m->(∀p,p<N.n->s.t.hk p≠k)->s.fl k=0\/s.fl k=N.bd k
 cs:∀p,sm N.m (λk=>s.fl k*inc N p k)=0
 sf:∀p,p<N.n->0<room N s.fl (s.t.hk p) p
 sl:∀k,k<N.m->N.lo k=N.hi k->(0<N.ln k->s.fl k=N.bd k)/\(N.ln k<=0->s.fl k=0)
 rt:s.tm N.n=0
def Wr(N:Net)(s:St)(k:Nat):Prop:=k<N.m/\((0<lack N s.tm k/\s.fl k<N.bd k)\/(lack N s.tm k<0/\0<s.fl k))
def more(N:Net)(s:St)(k:Nat):Bool:=decide (0<lack N s.tm k)
def tl(N:Net)(s:St)(k:Nat):Nat:=if more N s k=true then N.lo k else N.hi k
def hd(N:Net)(s:St)(k:Nat):Nat:=if more N s k=true then N.hi k else N.lo k
def wo(N:Net)(fl:Nat->Int):Int:=sm N.m (λk=>fl k*N.ln k)
structure En(N:Net)(s:St)(k:Nat):Prop where
 km:k<N.m
 ne:tl N s k≠hd N s k
 jn:Jn N k (tl N s k) (hd N s k)
 mo:more N s k=decide (N.lo k=tl N s k)
 rt:room N s.fl k (tl N s k)=N.bd k
 rh:room N s.fl k (hd N s k)=0
 bp:0<N.bd k
 nh:∀p,p<N.n->s.t.hk p≠k
 ga:0<sg (N.ln k) (more N s k)-(s.tm (hd N s k)-s.tm (tl N s k))
 dt:(if N.hi k=tl N s k then lack N s.tm k else-lack N s.tm k)<0
theorem Inv.en{N:Net}{s:St}(I:Inv N s){k:Nat}(w:Wr N s k):En N s k:=by
 obtain⟨km,w⟩:=w
 have nh:∀p,p<N.n->s.t.hk p≠k:=λp hp z=>by
  have:=I.lk p hp
  rw[z] at this
  omega
 have ne:N.lo k≠N.hi k:=λz=>by
  obtain⟨h1,h2⟩:=I.sl k km z
  unfold lack at w
  rw[z] at w
  rcases w with w | w
  ·have:=h1 (by omega);omega
  ·have:=h2 (by omega);omega
 have hb:=I.bb k km
 have hn:=I.nb k km nh
 rcases w with ⟨w1,w2⟩ | ⟨w1,w2⟩
 ·have hm:more N s k=true:=decide_eq_true w1
  have ht:tl N s k=N.lo k:=if_pos hm
  have hh:hd N s k=N.hi k:=if_pos hm
  refine⟨km,by rw[ht,hh];exact ne,.inl ⟨ht.symm,hh.symm⟩,by rw[hm,ht,decide_eq_true rfl],?_,?_,by omega,nh,?_,?_⟩
  ·rw[ht];unfold room;rw[if_pos rfl];omega
  ·rw[hh];unfold room;rw[if_neg ne];omega
  ·rw[hm,ht,hh];unfold sg lack at *;rw[if_pos rfl];omega
  ·rw[ht,if_neg (λz=>ne z.symm)];omega
 ·have hm:more N s k=false:=decide_eq_false (by omega)
  have ht:tl N s k=N.hi k:=if_neg (by rw[hm];exact Bool.false_ne_true)
  have hh:hd N s k=N.lo k:=if_neg (by rw[hm];exact Bool.false_ne_true)
  refine⟨km,by rw[ht,hh];exact λz=>ne z.symm,.inr ⟨ht.symm,hh.symm⟩,by rw[hm,ht,decide_eq_false ne],?_,?_,by omega,nh,?_,?_⟩
  ·rw[ht];unfold room;rw[if_neg ne];omega
  ·rw[hh];unfold room;rw[if_pos rfl];omega
  ·rw[hm,ht,hh];unfold sg lack at *;rw[if_neg Bool.false_ne_true];omega
  ·rw[ht,if_pos rfl];omega
theorem nodup_map{f:Nat->Nat}:∀{L:List Nat},L.Nodup->(∀x∈L,∀y∈L,f x=f y->x=y)->(L.map f).Nodup
 | [],_,_=>List.nodup_nil
 | x::L,h,hi=>by
  obtain⟨h1,h2⟩:=List.nodup_cons.mp h
  refine List.nodup_cons.mpr ⟨λz=>?_,nodup_map h2 λa ha b hb=>hi a (List.mem_cons_of_mem _ ha) b (List.mem_cons_of_mem _ hb)⟩
  obtain⟨y,hy,e⟩:=List.mem_map.mp z
  have:=hi y (List.mem_cons_of_mem _ hy) x List.mem_cons_self e
  exact h1 (this▸hy)
section
variable{N:Net}{s:St}
theorem Inv.ne(I:Inv N s){p:Nat}(h:p<N.n):p≠s.t.ov p:=λz=>by
 have:=(I.tr.d p h).2
 rw[<-z] at this
 omega
theorem Inv.inj(I:Inv N s){p q:Nat}(hp:p<N.n)(hq:q<N.n)(e:s.t.hk p=s.t.hk q):p=q:=by
 have h1:=(I.jn p hp).2
 have h2:=(I.jn q hq).2
 rw[e] at h1
 have d1:=(I.tr.d p hp).2
 have d2:=(I.tr.d q hq).2
 rcases h1 with ⟨a,b⟩ | ⟨a,b⟩<;>rcases h2 with ⟨c,d⟩ | ⟨c,d⟩
 ·exact a.symm.trans c
 ·rw[<-a.symm.trans d] at d2;rw[<-b.symm.trans c] at d2;omega
 ·rw[<-a.symm.trans d] at d2;rw[<-b.symm.trans c] at d2;omega
 ·exact a.symm.trans c
def ring(N:Net)(s:St)(k a b:Nat):List (Nat×Bool):=(k,more N s k)::((aC s.t.ov a (tl N s k)).map (dnS N s.t.hk)++(aC s.t.ov b (hd N s k)).map (upS N s.t.hk))
def rmD(N:Net)(s:St)(q:Nat):Int:=room N s.fl (s.t.hk q) (s.t.ov q)
def rmU(N:Net)(s:St)(q:Nat):Int:=room N s.fl (s.t.hk q) q
structure Pv(N:Net)(s:St)(k a b:Nat)(A:Int)(fl:Nat->Int):Prop where
 kt:room N fl k (tl N s k)=N.bd k-A
 kh:room N fl k (hd N s k)=A
 d:∀q∈aC s.t.ov a (tl N s k),room N fl (s.t.hk q) q=rmU N s q+A/\room N fl (s.t.hk q) (s.t.ov q)=rmD N s q-A
 u:∀q∈aC s.t.ov b (hd N s k),room N fl (s.t.hk q) q=rmU N s q-A/\room N fl (s.t.hk q) (s.t.ov q)=rmD N s q+A
 o:∀j,j≠k->(∀q∈aC s.t.ov a (tl N s k),s.t.hk q≠j)->(∀q∈aC s.t.ov b (hd N s k),s.t.hk q≠j)->fl j=s.fl j
 bb:∀j,j<N.m->0<=fl j/\fl j<=N.bd j
 cs:∀p,sm N.m (λk=>fl k*inc N p k)=0
 sl:∀k,k<N.m->N.lo k=N.hi k->(0<N.ln k->fl k=N.bd k)/\(N.ln k<=0->fl k=0)
 wo:wo N fl=wo N s.fl+A*(sg (N.ln k) (more N s k)-(s.tm (hd N s k)-s.tm (tl N s k)))
theorem Inv.pv(I:Inv N s){k a b t:Nat}(e:En N s k)(ht:tl N s k<=N.n)(hh:hd N s k<=N.n)(M:Met s.t.ov s.dp (tl N s k) (hd N s k) t a b){A:Int}(A0:0<=A)(A1:A<=N.bd k)(A2:∀q∈aC s.t.ov a (tl N s k),A<=rmD N s q)(A3:∀q∈aC s.t.ov b (hd N s k),A<=rmU N s q):Pv N s k a b A (push A (ring N s k a b) s.fl):=by
 have hD:∀q∈aC s.t.ov a (tl N s k),q<N.n:=λq hq=>(I.tr.inway ht M.la hq).1
 have hU:∀q∈aC s.t.ov b (hd N s k),q<N.n:=λq hq=>(I.tr.inway hh M.lb hq).1
 have hfst:(ring N s k a b).map (·.1)=k::(aC s.t.ov a (tl N s k)++aC s.t.ov b (hd N s k)).map s.t.hk:=by
  unfold ring
  rw[List.map_cons,List.map_append,List.map_map,List.map_map,List.map_append]
  rfl
 have hmem:∀q∈aC s.t.ov a (tl N s k)++aC s.t.ov b (hd N s k),q<N.n:=λq hq=>(List.mem_append.mp hq).elim (hD q) (hU q)
 have hnd:((ring N s k a b).map (·.1)).Nodup:=by
  rw[hfst]
  refine List.nodup_cons.mpr ⟨λz=>?_,nodup_map (List.nodup_append.mpr ⟨I.tr.way_nd ht M.la,I.tr.way_nd hh M.lb,λx hx y hy z=>M.dj x hx (z▸hy)⟩) λx hx y hy z=>I.inj (hmem x hx) (hmem y hy) z⟩
  obtain⟨y,hy,z⟩:=List.mem_map.mp z
  exact e.nh y (hmem y hy) z
 have fk:push A (ring N s k a b) s.fl k=s.fl k+sg A (more N s k):=push_in hnd List.mem_cons_self
 have fd:∀q∈aC s.t.ov a (tl N s k),push A (ring N s k a b) s.fl (s.t.hk q)=s.fl (s.t.hk q)+sg A (decide (N.hi (s.t.hk q)=q)):=λq hq=>push_in hnd (List.mem_cons_of_mem _ (List.mem_append.mpr (.inl (List.mem_map_of_mem (f:=dnS N s.t.hk) hq))))
 have fu:∀q∈aC s.t.ov b (hd N s k),push A (ring N s k a b) s.fl (s.t.hk q)=s.fl (s.t.hk q)+sg A (decide (N.lo (s.t.hk q)=q)):=λq hq=>push_in hnd (List.mem_cons_of_mem _ (List.mem_append.mpr (.inr (List.mem_map_of_mem (f:=upS N s.t.hk) hq))))
 have fo:∀j,j≠k->(∀q∈aC s.t.ov a (tl N s k),s.t.hk q≠j)->(∀q∈aC s.t.ov b (hd N s k),s.t.hk q≠j)->push A (ring N s k a b) s.fl j=s.fl j:=λj h1 h2 h3=>by
  refine push_out ?_
  rw[hfst]
  intro z
  rcases List.mem_cons.mp z with z | z
  ·exact h1 z
  ·obtain⟨y,hy,z⟩:=List.mem_map.mp z
   exact(List.mem_append.mp hy).elim (λw=>h2 y w z) λw=>h3 y w z
 have xd:∀q,q<N.n->decide (N.hi (s.t.hk q)=q)=!decide (N.lo (s.t.hk q)=q)/\decide (N.hi (s.t.hk q)=q)=decide (N.lo (s.t.hk q)=s.t.ov q)/\decide (N.lo (s.t.hk q)=q)=!decide (N.lo (s.t.hk q)=s.t.ov q):=λq hq=>by
  have hne:=I.ne hq
  rcases (I.jn q hq).2 with ⟨a,b⟩ | ⟨a,b⟩
  ·rw[a,b,decide_eq_true (rfl:q=q),decide_eq_false (λz=>hne z.symm),decide_eq_false hne];exact⟨rfl,rfl,rfl⟩
  ·rw[a,b,decide_eq_true (rfl:q=q),decide_eq_false (λz=>hne z.symm),decide_eq_true (rfl:s.t.ov q=s.t.ov q)];exact⟨rfl,rfl,rfl⟩
 have mh:more N s k=!decide (N.lo k=hd N s k):=by
  rw[e.mo]
  rcases e.jn with ⟨a,b⟩ | ⟨a,b⟩
  ·rw[a,decide_eq_true rfl,decide_eq_false e.ne];rfl
  ·rw[b,decide_eq_false (λz=>e.ne z.symm),decide_eq_true rfl];rfl
 have hL:∀x∈ring N s k a b,x.1<N.m:=λx hx=>by
  rcases List.mem_cons.mp hx with rfl | hx
  ·exact e.km
  ·rcases List.mem_append.mp hx with hx | hx
   ·obtain⟨q,hq,rfl⟩:=List.mem_map.mp hx
    exact(I.jn q (hD q hq)).1
   ·obtain⟨q,hq,rfl⟩:=List.mem_map.mp hx
    exact(I.jn q (hU q hq)).1
 have pot:∀(c π:Nat->Int),(∀q,q<N.n->c (s.t.hk q)=π (N.hi (s.t.hk q))-π (N.lo (s.t.hk q)))->tot c (ring N s k a b)=sg (c k) (more N s k)-(π (hd N s k)-π (tl N s k)):=λc π h=>by
  have h1:=tot_dn (N:=N) (hk:=s.t.hk) (c:=c) (π:=π) (k:=a) (p:=tl N s k) λq hq=>⟨(I.jn q (hD q hq)).2,I.ne (hD q hq),h q (hD q hq)⟩
  have h2:=tot_up (N:=N) (hk:=s.t.hk) (c:=c) (π:=π) (k:=b) (p:=hd N s k) λq hq=>⟨(I.jn q (hU q hq)).2,I.ne (hU q hq),h q (hU q hq)⟩
  rw[M.ta] at h1
  rw[M.tb] at h2
  unfold ring
  rw[tot,tot_app,h1,h2]
  omega
 refine⟨?_,?_,λq hq=>⟨room_bwd (xd q (hD q hq)).1 (fd q hq),room_fwd (xd q (hD q hq)).2.1 (fd q hq)⟩,λq hq=>⟨room_fwd rfl (fu q hq),room_bwd (xd q (hU q hq)).2.2 (fu q hq)⟩,fo,λj hj=>?_,λp=>?_,λj hj hl=>?_,?_⟩
 ·rw[room_fwd e.mo fk,e.rt]
 ·rw[room_bwd mh fk,e.rh];omega
 ·by_cases h1:j=k
  ·subst h1
   exact bd_fwd e.mo fk (I.bb j hj) A0 (by rw[e.rt];exact A1)
  ·by_cases h2:∃q∈aC s.t.ov a (tl N s k),s.t.hk q=j
   ·obtain⟨q,hq,rfl⟩:=h2
    exact bd_fwd (xd q (hD q hq)).2.1 (fd q hq) (I.bb _ hj) A0 (A2 q hq)
   ·by_cases h3:∃q∈aC s.t.ov b (hd N s k),s.t.hk q=j
    ·obtain⟨q,hq,rfl⟩:=h3
     exact bd_fwd rfl (fu q hq) (I.bb _ hj) A0 (A3 q hq)
    ·rw[fo j h1 (λq hq z=>h2 ⟨q,hq,z⟩) λq hq z=>h3 ⟨q,hq,z⟩]
     exact I.bb j hj
 ·rw[push_sm hL,I.cs p,pot (inc N p) (λx=>if x=p then 1 else 0) λq _=>rfl]
  have:sg (inc N p k) (more N s k)=(if hd N s k=p then 1 else 0)-(if tl N s k=p then 1 else 0):=by
   unfold inc hd tl sg
   cases more N s k with
   | true=>rw[if_pos rfl,if_pos rfl,if_pos rfl]
   | false=>rw[if_neg Bool.false_ne_true,if_neg Bool.false_ne_true,if_neg Bool.false_ne_true];omega
  rw[this,Int.sub_self,Int.mul_zero]
  rfl
 ·have:push A (ring N s k a b) s.fl j=s.fl j:=fo j (λz=>by
    subst z
    rcases e.jn with ⟨a,b⟩ | ⟨a,b⟩
    ·exact e.ne (a.symm.trans (hl.trans b))
    ·exact e.ne (a.symm.trans (hl.symm.trans b))) (λq hq z=>by
    rcases (I.jn q (hD q hq)).2 with ⟨a,b⟩ | ⟨a,b⟩
    ·rw[z] at a b;exact I.ne (hD q hq) (a.symm.trans (hl.trans b))
    ·rw[z] at a b;exact I.ne (hD q hq) (a.symm.trans (hl.symm.trans b))) (λq hq z=>by
    rcases (I.jn q (hU q hq)).2 with ⟨a,b⟩ | ⟨a,b⟩
    ·rw[z] at a b;exact I.ne (hU q hq) (a.symm.trans (hl.trans b))
    ·rw[z] at a b;exact I.ne (hU q hq) (a.symm.trans (hl.symm.trans b)))
  rw[this]
  exact I.sl j hj hl
 ·unfold TR.wo
  rw[push_sm hL,pot N.ln s.tm λq hq=>?_]
  have:=I.lk q hq
  unfold lack at this
  omega
theorem Inv.flip(I:Inv N s){k a b t:Nat}(e:En N s k)(ht:tl N s k<=N.n)(hh:hd N s k<=N.n)(M:Met s.t.ov s.dp (tl N s k) (hd N s k) t a b){fl:Nat->Int}(P:Pv N s k a b (N.bd k) fl)(A3:∀q∈aC s.t.ov b (hd N s k),N.bd k<rmU N s q):Inv N { s with fl:=fl }:=by
 refine⟨I.tr,I.un,I.jn,I.lk,P.bb,λj hj hn=>?_,P.cs,λp hp=>?_,P.sl,I.rt⟩
 ·by_cases h:j=k
  ·subst h
   have h1:=P.kt
   have h2:=P.kh
   show fl j=0\/fl j=N.bd j
   unfold room at h1 h2
   have h3:=e.ne
   rcases e.jn with ⟨z1,z2⟩ | ⟨z1,z2⟩
   ·rw[if_pos z1] at h1;omega
   ·rw[if_neg (by rw[z2];exact λz=>h3 z.symm)] at h1;omega
  ·show fl j=0\/fl j=N.bd j
   rw[P.o j h (λq hq=>hn q (I.tr.inway ht M.la hq).1) λq hq=>hn q (I.tr.inway hh M.lb hq).1]
   exact I.nb j hj hn
 ·show 0<room N fl (s.t.hk p) p
  have h0:=I.sf p hp
  have hb:=e.bp
  by_cases h1:p∈aC s.t.ov a (tl N s k)
  ·rw[(P.d p h1).1];unfold rmU;omega
  ·by_cases h2:p∈aC s.t.ov b (hd N s k)
   ·rw[(P.u p h2).1];have:=A3 p h2;omega
   ·rw[room_eq (P.o _ (e.nh p hp) (λq hq z=>h1 (I.inj (I.tr.inway ht M.la hq).1 hp z▸hq)) λq hq z=>h2 (I.inj (I.tr.inway hh M.lb hq).1 hp z▸hq))]
    exact h0
def sub(ov:Nat->Nat)(p x:Nat):Prop:=∃i,upN ov i x=p
open Classical in
noncomputable def shf(ov:Nat->Nat)(p:Nat)(δ:Int)(tm:Nat->Int):Nat->Int:=λx=>if sub ov p x then tm x+δ else tm x
structure Hg(N:Net)(s:St)(k i p q:Nat)(fl:Nat->Int):Prop where
 km:k<N.m
 nh:∀x,x<N.n->s.t.hk x≠k
 jn:Jn N k p q
 pn:p<=N.n
 qn:q<=N.n
 id:i<s.dp p
 cl:∀j,upN s.t.ov j q∉aC s.t.ov (i+1) p
 bb:∀j,j<N.m->0<=fl j/\fl j<=N.bd j
 cs:∀p,sm N.m (λk=>fl k*inc N p k)=0
 sl:∀k,k<N.m->N.lo k=N.hi k->(0<N.ln k->fl k=N.bd k)/\(N.ln k<=0->fl k=0)
 nb:∀j,j<N.m->j≠k->(∀x,x<N.n->s.t.hk x≠j)->fl j=0\/fl j=N.bd j
 nx:fl (s.t.hk (upN s.t.ov i p))=0\/fl (s.t.hk (upN s.t.ov i p))=N.bd (s.t.hk (upN s.t.ov i p))
 s1:∀x,x<N.n->x∉aC s.t.ov (i+1) p->0<room N fl (s.t.hk x) x
 s2:0<room N fl k p
 s3:∀j,j<i->0<room N fl (s.t.hk (upN s.t.ov j p)) (upN s.t.ov (j+1) p)
def dlt(N:Net)(s:St)(k p:Nat):Int:=if N.hi k=p then lack N s.tm k else-lack N s.tm k
theorem Hg.rv{k i p q:Nat}{fl:Nat->Int}(I:Inv N s)(h:Hg N s k i p q fl):Rv N (i+1) p q k s.t :=
 ⟨⟨s.dp,I.tr,h.id⟩,h.pn,h.qn,h.cl,I.un,I.jn,h.km,λ_=>h.jn⟩
theorem Hg.inv{k i p q:Nat}{fl:Nat->Int}(I:Inv N s)(h:Hg N s k i p q fl):∃dp,Tree N.n (eX (i+1) p q k s.t).ov dp/\Und N.n (eX (i+1) p q k s.t).ov (eX (i+1) p q k s.t).un/\Inv N ⟨fl,shf (eX (i+1) p q k s.t).ov p (dlt N s k p) s.tm,eX (i+1) p q k s.t,dp⟩/\p<N.n:=by
 have R:=h.rv I
 have hp:=R.p_lt
 obtain⟨p',q',r',RF⟩:=R.fin
 obtain⟨dp,T,_⟩:=RF.tr
 obtain⟨o1,o2⟩:=R.next.out p (by
  show p∉aC (put s.t.ov p q) i (s.t.ov p)
  rw[fC R.not_in]
  exact R.not_in)
 have o1:(eX (i+1) p q k s.t).ov p=q:=o1.trans bv
 have o2:(eX (i+1) p q k s.t).hk p=k:=o2.trans bv
 have hal:∀x,x<N.n->x≠p->lack N s.tm ((eX (i+1) p q k s.t).hk x)=0:=λx hx hne=>by
  have hh:∀x,x<N.n->x≠p->lack N s.tm ((s.t.re p q k).hk x)=0:=λx hx hne=>by
   show lack N s.tm (put s.t.hk p k x)=0
   rw[bK hne]
   exact I.lk x hx
  cases i with
  | zero=>exact hh x hx hne
  | succ i =>
   exact R.next.all (Z:=λj=>lack N s.tm j=0) (p0:=p) hh (.inr (by omega)) (by
    show p∉aC (put s.t.ov p q) (i+1) (s.t.ov p)
    rw[fC R.not_in]
    exact R.not_in) (I.lk p hp) x hx hne
 have hkeep:=R.keep
 have hsf:=R.sf (fl:=fl) h.s1 (λ_=>h.s2) (λj hj=>h.s3 j (by omega))
 rw[if_neg (Nat.succ_ne_zero i),Nat.add_sub_cancel] at hkeep
 have hjn:=RF.jn
 have hun:=RF.un
 generalize hu:eX (i+1) p q k s.t=u at *
 refine⟨dp,T,hun,⟨T,hun,hjn,λx hx=>?_,h.bb,λj hj hn=>?_,h.cs,hsf,h.sl,?_⟩,hp⟩
 ·show lack N (shf u.ov p (dlt N s k p) s.tm) (u.hk x)=0
  have nq:¬sub u.ov p q:=λ⟨i,z⟩=>by
   have h1:=(T.ups i (h.qn)).2
   have h2:=(T.d p hp).2
   rw[z] at h1
   rw[o1] at h2
   omega
  by_cases e:x=p
  ·subst e
   rw[o2]
   have hs:sub u.ov x x:=⟨0,rfl⟩
   have hne:x≠q:=λz=>nq (z▸hs)
   unfold lack shf dlt
   rcases h.jn with ⟨z1,z2⟩ | ⟨z1,z2⟩
   ·rw[z1,z2,if_neg nq,if_pos hs,if_neg (λz=>hne z.symm)]
    unfold lack
    rw[z1,z2]
    omega
   ·rw[z1,z2,if_pos hs,if_neg nq,if_pos rfl]
    unfold lack
    rw[z1,z2]
    omega
  ·have h1:=hal x hx e
   have hiff:sub u.ov p x↔sub u.ov p (u.ov x):=⟨λ⟨i,z⟩=>by
    cases i with
    | zero=>exact absurd z e
    | succ i=>exact⟨i,z⟩,λ⟨i,z⟩=>⟨i+1,z⟩⟩
   unfold lack shf at *
   by_cases hs:sub u.ov p x
   ·have hs2:=hiff.mp hs
    rcases (hjn x hx).2 with ⟨z1,z2⟩ | ⟨z1,z2⟩
    ·rw[z1,z2] at h1 ⊢;rw[if_pos hs,if_pos hs2];omega
    ·rw[z1,z2] at h1 ⊢;rw[if_pos hs,if_pos hs2];omega
   ·have hs2:¬sub u.ov p (u.ov x):=λz=>hs (hiff.mpr z)
    rcases (hjn x hx).2 with ⟨z1,z2⟩ | ⟨z1,z2⟩
    ·rw[z1,z2] at h1 ⊢;rw[if_neg hs,if_neg hs2];omega
    ·rw[z1,z2] at h1 ⊢;rw[if_neg hs,if_neg hs2];omega
 ·show fl j=0\/fl j=N.bd j
  by_cases e1:j=k
  ·exact absurd (o2.trans e1.symm) (hn p hp)
  ·by_cases e2:∃x,x<N.n/\s.t.hk x=j
   ·rcases hkeep j (.inr e2) with z | ⟨x,hx,z⟩
    ·rw[z];exact h.nx
    ·exact absurd z (hn x hx)
   ·exact h.nb j hj e1 λx hx z=>e2 ⟨x,hx,z⟩
 ·show shf u.ov p (dlt N s k p) s.tm N.n=0
  have hr:∀i,upN u.ov i N.n=N.n:=λi=>by
   induction i with
   | zero=>rfl
   | succ i ih=>rw[dY,ih,T.o]
  have hs:¬sub u.ov p N.n:=λ⟨i,z⟩=>by
   rw[hr] at z
   omega
  unfold shf
  rw[if_neg hs]
  exact I.rt
end
end TR
namespace TR
section
variable{N:Net}{s:St}
theorem way_split{ov:Nat->Nat}{k p x:Nat}{L1 L2:List Nat}(h:aC ov k p=L1++x::L2):L1.length<k/\x=upN ov L1.length p/\L1=aC ov L1.length p/\L2=aC ov (k-L1.length-1) (upN ov (L1.length+1) p):=by
 have hl:=congrArg List.length h
 rw[iO,List.length_append,List.length_cons] at hl
 have hk:k=L1.length+((k-L1.length-1)+1):=by omega
 rw[hk,way_app] at h
 obtain⟨h1,h2⟩:=List.append_inj h (iO _ _)
 rw[aC,List.cons.injEq] at h2
 exact⟨by omega,h2.1.symm,h1.symm,by rw[<-h2.2,dY]⟩
theorem room_zero{fl:Nat->Int}{k p:Nat}(h:room N fl k p=0):fl k=0\/fl k=N.bd k:=by
 unfold room at h
 split at h
 ·exact .inr (by omega)
 ·exact .inl h
theorem Inv.clear(I:Inv N s){p q t a b:Nat}(hp:p<=N.n)(hq:q<=N.n)(M:Met s.t.ov s.dp p q t a b):(∀j,upN s.t.ov j q∉aC s.t.ov a p)/\∀j,upN s.t.ov j p∉aC s.t.ov b q:=by
 have h1:=I.tr.up a hp M.la
 have h2:=I.tr.up b hq M.lb
 rw[M.ta] at h1
 rw[M.tb] at h2
 constructor
 ·intro j z
  obtain⟨z1,z2,z3,z4⟩:=I.tr.inway hp M.la z
  rcases Nat.lt_or_ge j b with hj | hj
  ·exact M.dj _ z (ee hj)
  ·have:=(I.tr.ups (j-b) h2.1).2
   rw[<-M.tb,<-upN_add,show b+(j-b)=j by omega,M.tb] at this
   omega
 ·intro j z
  obtain⟨z1,z2,z3,z4⟩:=I.tr.inway hq M.lb z
  rcases Nat.lt_or_ge j a with hj | hj
  ·exact M.dj _ (ee hj) z
  ·have:=(I.tr.ups (j-a) h1.1).2
   rw[<-M.ta,<-upN_add,show a+(j-a)=j by omega,M.ta] at this
   omega
theorem way_sub{ov:Nat->Nat}{i k p x:Nat}(h:i<=k)(hx:x∈aC ov i p):x∈aC ov k p:=by
 obtain⟨j,h1,rfl⟩:=way_mem hx
 exact ee (by omega)
theorem Inv.mend(I:Inv N s){k a b t:Nat}(w:Wr N s k)(ht:tl N s k<=N.n)(hh:hd N s k<=N.n)(M:Met s.t.ov s.dp (tl N s k) (hd N s k) t a b) :
  (chD (rmD N s) (aC s.t.ov a (tl N s k)) (N.bd k) none=(N.bd k,none)/\chU (rmU N s) (aC s.t.ov b (hd N s k)) (N.bd k) none=(N.bd k,none)/\Inv N { s with fl:=push (N.bd k) (ring N s k a b) s.fl }/\wo N s.fl<wo N (push (N.bd k) (ring N s k a b) s.fl)) \/
  (∃i A,i<a/\chD (rmD N s) (aC s.t.ov a (tl N s k)) (N.bd k) none=(A,some (upN s.t.ov i (tl N s k)))/\chU (rmU N s) (aC s.t.ov b (hd N s k)) A none=(A,none)/\Hg N s k i (tl N s k) (hd N s k) (push A (ring N s k a b) s.fl)/\wo N s.fl<=wo N (push A (ring N s k a b) s.fl)/\dlt N s k (tl N s k)<0) \/
  (∃i A A1 l1,i<b/\chD (rmD N s) (aC s.t.ov a (tl N s k)) (N.bd k) none=(A1,l1)/\chU (rmU N s) (aC s.t.ov b (hd N s k)) A1 none=(A,some (upN s.t.ov i (hd N s k)))/\Hg N s k i (hd N s k) (tl N s k) (push A (ring N s k a b) s.fl)/\wo N s.fl<wo N (push A (ring N s k a b) s.fl)):=by
 have e:=I.en w
 have hD:∀q∈aC s.t.ov a (tl N s k),q<N.n:=λq hq=>(I.tr.inway ht M.la hq).1
 have hU:∀q∈aC s.t.ov b (hd N s k),q<N.n:=λq hq=>(I.tr.inway hh M.lb hq).1
 have dn0:∀q,q<N.n->0<=rmD N s q:=λq hq=>(room_nn (I.bb _ (I.jn q hq).1)).1
 have up0:∀q,q<N.n->0<rmU N s q:=λq hq=>I.sf q hq
 have hbp:=e.bp
 have hga:=e.ga
 obtain⟨cl1,cl2⟩:=I.clear ht hh M
 have oth:∀{A:Int} {fl:Nat->Int},Pv N s k a b A fl->∀x,x<N.n->x∉aC s.t.ov a (tl N s k)->x∉aC s.t.ov b (hd N s k)->0<room N fl (s.t.hk x) x:=λ{A fl} P x hx h1 h2=>by
  rw[room_eq (P.o _ (e.nh x hx) (λq hq z=>h1 (I.inj (hD q hq) hx z▸hq)) λq hq z=>h2 (I.inj (hU q hq) hx z▸hq))]
  exact I.sf x hx
 have onb:∀{A:Int} {fl:Nat->Int},Pv N s k a b A fl->∀j,j<N.m->j≠k->(∀x,x<N.n->s.t.hk x≠j)->fl j=0\/fl j=N.bd j:=λ{A fl} P j hj hk hn=>by
  rw[P.o j hk (λq hq=>hn q (hD q hq)) λq hq=>hn q (hU q hq)]
  exact I.nb j hj hn
 have up_case:∀(A1:Int) (l1:Option Nat) (x:Nat) (L1 L2:List Nat),0<=A1->A1<=N.bd k->(∀q∈aC s.t.ov a (tl N s k),A1<=rmD N s q)->aC s.t.ov b (hd N s k)=L1++x::L2->rmU N s x<=A1->(∀q∈L1,rmU N s x<=rmU N s q)->(∀q∈L2,rmU N s x<rmU N s q)->∃i,i<b/\x=upN s.t.ov i (hd N s k)/\Hg N s k i (hd N s k) (tl N s k) (push (rmU N s x) (ring N s k a b) s.fl)/\wo N s.fl<wo N (push (rmU N s x) (ring N s k a b) s.fl):=by
  intro A1 l1 x L1 L2 h0 h1 h2 hs h3 h4 h5
  obtain⟨g1,g2,g3,g4⟩:=way_split hs
  have hxU:x∈aC s.t.ov b (hd N s k):=by rw[hs];exact List.mem_append.mpr (.inr List.mem_cons_self)
  have hx0:=up0 x (hU x hxU)
  have P:=I.pv e ht hh M (A:=rmU N s x) (by omega) (by omega) (λq hq=>by have:=h2 q hq;omega) (λq hq=>by
   rw[hs] at hq
   rcases List.mem_append.mp hq with hq | hq
   ·exact h4 q hq
   ·rcases List.mem_cons.mp hq with rfl | hq
    ·exact Int.le_refl _
    ·exact Int.le_of_lt (h5 q hq))
  refine⟨L1.length,g1,g2,⟨e.km,e.nh,e.jn.symm,hh,ht,by have:=M.lb;omega,λj z=>cl2 j (way_sub (by omega) z),P.bb,P.cs,P.sl,onb P,?_,λy hy hny=>?_,by rw[P.kh];exact hx0,λj hj=>?_⟩,?_⟩
  ·rw[<-g2]
   exact room_zero (p:=x) (by rw[(P.u x hxU).1];omega)
  ·by_cases y1:y∈aC s.t.ov a (tl N s k)
   ·rw[(P.d y y1).1];have:=up0 y hy;omega
   ·by_cases y2:y∈aC s.t.ov b (hd N s k)
    ·rw[(P.u y y2).1]
     have y3:=y2
     rw[hs] at y3
     rcases List.mem_append.mp y3 with y3 | y3
     ·rw[g3] at y3;exact absurd (way_sub (by omega) y3) hny
     ·rcases List.mem_cons.mp y3 with rfl | y3
      ·exact absurd (by rw[g2];exact ee (by omega)) hny
      ·have:=h5 y y3;omega
    ·exact oth P y hy y1 y2
  ·have hy:upN s.t.ov j (hd N s k)∈aC s.t.ov b (hd N s k):=ee (by omega)
   rw[dY,(P.u _ hy).2]
   have:=dn0 _ (hU _ hy)
   omega
  ·rw[P.wo]
   have:=Int.mul_pos hx0 hga
   omega
 rcases chD_ok (rmD N s) (aC s.t.ov a (tl N s k)) (N.bd k) none with ⟨c1,c2⟩ | ⟨x,L1,L2,c1,c2,c3,c4,c5⟩
 ·rcases chU_ok (rmU N s) (aC s.t.ov b (hd N s k)) (N.bd k) none with ⟨u1,u2⟩ | ⟨x,L1,L2,u1,u2,u3,u4,u5⟩
  ·have P:=I.pv e ht hh M (A:=N.bd k) (by omega) (by omega) c2 (λq hq=>Int.le_of_lt (u2 q hq))
   refine .inl ⟨c1,u1,I.flip e ht hh M P u2,?_⟩
   rw[P.wo]
   have:=Int.mul_pos hbp hga
   omega
  ·obtain⟨i,h1,h2,h3,h4⟩:=up_case (N.bd k) none x L1 L2 (by omega) (by omega) c2 u1 u3 u4 u5
   exact .inr (.inr ⟨i,_,_,_,h1,c1,by rw[u2,<-h2],h3,h4⟩)
 ·have hxD:x∈aC s.t.ov a (tl N s k):=by rw[c1];exact List.mem_append.mpr (.inr List.mem_cons_self)
  have hx0:=dn0 x (hD x hxD)
  have hle:∀q∈aC s.t.ov a (tl N s k),rmD N s x<=rmD N s q:=λq hq=>by
   rw[c1] at hq
   rcases List.mem_append.mp hq with hq | hq
   ·exact Int.le_of_lt (c4 q hq)
   ·rcases List.mem_cons.mp hq with rfl | hq
    ·exact Int.le_refl _
    ·exact c5 q hq
  rcases chU_ok (rmU N s) (aC s.t.ov b (hd N s k)) (rmD N s x) none with ⟨u1,u2⟩ | ⟨y,Y1,Y2,u1,u2,u3,u4,u5⟩
  ·obtain⟨g1,g2,g3,g4⟩:=way_split c1
   have P:=I.pv e ht hh M (A:=rmD N s x) hx0 (by omega) hle (λq hq=>Int.le_of_lt (u2 q hq))
   refine .inr (.inl ⟨L1.length,_,g1,by rw[c2,<-g2],u1,⟨e.km,e.nh,e.jn,ht,hh,by have:=M.la;omega,λj z=>cl1 j (way_sub (by omega) z),P.bb,P.cs,P.sl,onb P,?_,λy hy hny=>?_,by rw[P.kt];omega,λj hj=>?_⟩,?_,e.dt⟩)
   ·rw[<-g2]
    exact room_zero (p:=s.t.ov x) (by rw[(P.d x hxD).2];omega)
   ·by_cases y1:y∈aC s.t.ov a (tl N s k)
    ·rw[(P.d y y1).1];have:=up0 y hy;omega
    ·by_cases y2:y∈aC s.t.ov b (hd N s k)
     ·rw[(P.u y y2).1];have:=u2 y y2;omega
     ·exact oth P y hy y1 y2
   ·have hy1:upN s.t.ov j (tl N s k)∈L1:=by rw[g3];exact ee hj
    have hy:upN s.t.ov j (tl N s k)∈aC s.t.ov a (tl N s k):=ee (by omega)
    rw[dY,(P.d _ hy).2]
    have:=c4 _ hy1
    omega
   ·rw[P.wo]
    have:=Int.mul_nonneg hx0 (Int.le_of_lt hga)
    omega
  ·obtain⟨i,h1,h2,h3,h4⟩:=up_case (rmD N s x) (some x) y Y1 Y2 hx0 (by omega) hle u1 u3 u4 u5
   exact .inr (.inr ⟨i,_,_,_,h1,c2,by rw[u2,<-h2],h3,h4⟩)
def ab(i:Int):Int:=if 0<=i then i else -i
def Wm(N:Net):Int:=sm N.m (λk=>N.bd k*ab (N.ln k))
def Cm(N:Net):Int:=sm N.m (λk=>ab (N.ln k))
theorem ab_nn(i:Int):0<=ab i/\i<=ab i /\ -i<=ab i:=by unfold ab;split<;>omega
theorem Inv.wo_le(I:Inv N s):wo N s.fl<=Wm N:=sm_le λk hk=>by
 obtain⟨h1,h2⟩:=I.bb k hk
 obtain⟨a1,a2,_⟩:=ab_nn (N.ln k)
 exact Int.le_trans (Int.mul_le_mul_of_nonneg_left a2 h1) (Int.mul_le_mul_of_nonneg_right h2 a1)
theorem Inv.tm_ge(I:Inv N s):∀(d p:Nat),p<=N.n->s.dp p=d->-((d:Int)*Cm N)<=s.tm p
 | 0,p,hp,hd=>by
  have:p=N.n:=by
   rcases Nat.lt_or_ge p N.n with z | z
   ·have:=(I.tr.d p z).2;omega
   ·omega
  rw[this,I.rt]
  have:((0:Nat):Int)*Cm N=0:=Int.zero_mul _
  omega
 | d+1,p,hp,hd=>by
  have hpn:=I.tr.pos hp (by omega)
  obtain⟨h1,h2⟩:=I.tr.d p hpn
  have ih:=I.tm_ge d (s.t.ov p) h1 (by omega)
  have hl:=I.lk p hpn
  obtain⟨j1,j2⟩:=I.jn p hpn
  obtain⟨a1,a2,a3⟩:=ab_nn (N.ln (s.t.hk p))
  have hc:ab (N.ln (s.t.hk p))<=Cm N:=sm_one (f:=λk=>ab (N.ln k)) (λj _=>(ab_nn _).1) j1
  have he:((d+1:Nat):Int)*Cm N=(d:Int)*Cm N+Cm N:=by rw[Int.natCast_succ,Int.add_mul,Int.one_mul]
  unfold lack at hl
  rcases j2 with ⟨z1,z2⟩ | ⟨z1,z2⟩
  ·rw[z1,z2] at hl;omega
  ·rw[z1,z2] at hl;omega
theorem nodup_lt:∀(n:Nat) (L:List Nat),L.Nodup->(∀x∈L,x<n)->L.length<=n
 | 0,L,_,h=>by
  cases L with
  | nil=>exact Nat.le_refl _
  | cons x L=>exact absurd (h x List.mem_cons_self) (Nat.not_lt_zero _)
 | n+1,L,hn,h=>by
  have h1:=nodup_lt n (L.erase n) (hn.erase n) λx hx=>by
   obtain⟨z1,z2⟩:=hn.mem_erase_iff.mp hx
   have:=h x z2
   omega
  have:=List.length_erase_of_mem (a:=n) (l:=L)
  by_cases hm:n∈L
  ·have:=this hm;omega
  ·rw[List.erase_of_not_mem hm] at h1;omega
theorem Tree.dp_le{n:Nat}{ov dp:Nat->Nat}(T:Tree n ov dp){p:Nat}(hp:p<=n):dp p<=n:=by
 have:=nodup_lt n (aC ov (dp p) p) (T.way_nd hp (Nat.le_refl _)) λx hx=>(T.inway hp (Nat.le_refl _) hx).1
 rwa[iO] at this
def lw(N:Net):Int:=-((N.n:Int)*Cm N)
theorem Inv.tm_lw(I:Inv N s){p:Nat}(hp:p<=N.n):lw N<=s.tm p:=by
 have h1:=I.tm_ge (s.dp p) p hp rfl
 have h2:=I.tr.dp_le hp
 have h3:0<=Cm N:=sm_nn λj _=>(ab_nn _).1
 have:=Int.mul_le_mul_of_nonneg_right (show((s.dp p:Nat):Int)<=(N.n:Int) by omega) h3
 unfold lw
 omega
def m1(N:Net)(s:St):Nat:=(Wm N-wo N s.fl).toNat
def m2(N:Net)(s:St):Nat:=(sm N.n s.tm-sm N.n (λ_=>lw N)).toNat
def Less(N:Net)(s' s:St):Prop:=m1 N s'<m1 N s\/(m1 N s'=m1 N s/\m2 N s'<m2 N s)
theorem less_wo{s':St}(I':Inv N s')(h:wo N s.fl<wo N s'.fl):Less N s' s:=by
 have:=I'.wo_le
 exact .inl (by unfold m1;omega)
theorem less_tm{s':St}(I':Inv N s')(h:wo N s.fl<=wo N s'.fl)(ht:sm N.n s'.tm<sm N.n s.tm):Less N s' s:=by
 have h1:=I'.wo_le
 have h2:sm N.n (λ_=>lw N)<=sm N.n s'.tm:=sm_le λj hj=>I'.tm_lw (by omega)
 rcases Int.lt_or_eq_of_le h with z | z
 ·exact less_wo I' z
 ·exact .inr ⟨by unfold m1;rw[z],by unfold m2;omega⟩
theorem shf_lt{ov:Nat->Nat}{p:Nat}{δ:Int}{tm:Nat->Int}(hp:p<N.n)(hd:δ<0):sm N.n (shf ov p δ tm)<sm N.n tm:=by
 refine sm_lt (i:=p) (λj _=>?_) hp ?_
 ·unfold shf
  split<;>omega
 ·unfold shf
  rw[if_pos ⟨0,rfl⟩]
  omega
theorem less_wf(N:Net):WellFounded (λs' s=>Less N s' s):=by
 refine Subrelation.wf (r:=InvImage (Prod.Lex (· < ·) (· < ·)) λs=>(m1 N s,m2 N s)) (λ{a b} h=>?_) (InvImage.wf _ (Prod.lex Nat.lt_wfRel Nat.lt_wfRel).wf)
 rcases h with h | ⟨h1,h2⟩
 ·exact Prod.Lex.left _ _ h
 ·show Prod.Lex (· < ·) (· < ·) (m1 N a,m2 N a) (m1 N b,m2 N b)
  rw[h1]
  exact Prod.Lex.right _ h2
end
end TR
namespace TR
theorem sm_split(f:Nat->Int)(m:Nat):∀n,sm (m+n) f=sm m f+sm n (λp=>f (m+p))
 | 0=>by rw[Nat.add_zero];show _=_+0;omega
 | n+1=>by rw[<-Nat.add_assoc,sm,sm_split f m n,sm];omega
structure Nw(N:Net)(m:Nat)(must:Nat->Bool)(tt:Int)(T:Nat->Int):Prop where
 mm:N.m=m+N.n
 lo:∀k,k<m->N.lo k<N.n
 hi:∀k,k<m->N.hi k<N.n
 tl:∀p,p<N.n->N.lo (m+p)=p/\N.hi (m+p)=N.n
 ts:sm m (λk=>if must k=true then 0 else N.bd k)=tt
 mb:∀k,k<m->must k=true->N.bd k=tt+1
 kp:∀k,k<m->must k=true->N.ln k<=T (N.hi k)-T (N.lo k)
structure Good(N:Net)(m:Nat)(must:Nat->Bool)(s:St):Prop where
 bb:∀k,k<m->0<=s.fl k/\(must k=false->s.fl k<=N.bd k)
 cs:∀p,p<N.n->sm m (λk=>s.fl k*inc N p k)=0
 mu:∀k,k<m->must k=true->lack N s.tm k<=0
 eq:sm m (λk=>s.fl k*N.ln k)=sm m (λk=>if must k=true then 0 else N.bd k*max 0 (lack N s.tm k))
section
variable{N:Net}{s:St}{m:Nat}{must:Nat->Bool}{tt:Int}{T:Nat->Int}
theorem pick_two{π:Nat->Int}{n a b:Nat}(ha:a<n)(hb:b<n):sm n (λp=>π p*((if a=p then 1 else 0)-(if b=p then 1 else 0)))=π a-π b:=by
 rw[bz (g:=λp=>(if a=p then π p else 0)-(if b=p then π p else 0)) λp _=>?_,sm_sub,sm_pick ha,sm_pick hb]
 rw[Int.mul_sub]
 split<;>split<;>omega
theorem Inv.ends(I:Inv N s)(W:Nw N m must tt T)(h:∀k,k<m->¬Wr N s k):Good N m must s:=by
 have hm:∀k,k<m->k<N.m:=λk hk=>by rw[W.mm];omega
 have h0:∀p,p<N.n->s.fl (m+p)=0:=by
  have c:=I.cs N.n
  rw[W.mm,sm_split,bz (k:=m) (g:=λ_=>0) λk hk=>?_,iT,bz (k:=N.n) (g:=λp=>s.fl (m+p)) λp hp=>?_] at c
  ·intro p hp
   have h1:=sm_one (f:=λp=>s.fl (m+p)) (k:=N.n) (i:=p) (λj hj=>(I.bb (m+j) (by rw[W.mm];omega)).1) hp
   have h2:=(I.bb (m+p) (by rw[W.mm];omega)).1
   try dsimp only at h1
   omega
  ·obtain⟨z1,z2⟩:=W.tl p hp
   unfold inc
   rw[z1,z2,if_pos rfl,if_neg (by omega)]
   omega
  ·have z1:=W.lo k hk
   have z2:=W.hi k hk
   unfold inc
   rw[if_neg (by omega),if_neg (by omega)]
   omega
 have cs:∀p,p<N.n->sm m (λk=>s.fl k*inc N p k)=0:=λp hp=>by
  have c:=I.cs p
  rw[W.mm,sm_split,bz (k:=N.n) (g:=λ_=>0) λq hq=>?_,iT] at c
  ·omega
  ·rw[h0 q hq,Int.zero_mul]
 have pot:∀π:Nat->Int,sm m (λk=>s.fl k*(π (N.hi k)-π (N.lo k)))=0:=λπ=>by
  rw[bz (g:=λk=>sm N.n (λp=>π p*(s.fl k*inc N p k))) λk hk=>?_,sm_swap,bz (g:=λ_=>0) λp hp=>?_,iT]
  ·rw[sm_mul,cs p hp,Int.mul_zero]
  ·rw[<-pick_two (π:=π) (W.hi k hk) (W.lo k hk),<-sm_mul]
   refine bz λp _=>?_
   unfold inc
   rw[<-Int.mul_assoc,<-Int.mul_assoc,Int.mul_comm (π p)]
 have bb:=λk hk=>I.bb k (hm k hk)
 have wr:∀k,k<m->(0<lack N s.tm k->s.fl k=N.bd k)/\(lack N s.tm k<0->s.fl k=0):=λk hk=>by
  have h1:=h k hk
  have h2:=bb k hk
  refine⟨λz=>?_,λz=>?_⟩
  ·rcases Int.lt_or_eq_of_le h2.2 with w | w
   ·exact absurd ⟨hm k hk,.inl ⟨z,w⟩⟩ h1
   ·exact w
  ·rcases Int.lt_or_eq_of_le h2.1 with w | w
   ·exact absurd ⟨hm k hk,.inr ⟨z,w⟩⟩ h1
   ·exact w.symm
 have mk:∀k,k<m->must k=true->lack N s.tm k<=0:=λk hk hmu=>by
  apply Int.not_lt.mp
  intro hl
  have hfl:=(wr k hk).1 hl
  rw[W.mb k hk hmu] at hfl
  have hk1:=W.kp k hk hmu
  obtain⟨d,hd⟩:∃d:Nat->Int,d=λp=>s.tm p-T p:=⟨_,rfl⟩
  have hdd:∀p,d p=s.tm p-T p:=λp=>by rw[hd]
  have hc:=pot (λp=>if d (N.lo k)<=d p then 1 else 0)
  have hle:sm m (λj=>s.fl j*((if d (N.lo k)<=d (N.hi j) then 1 else 0)-(if d (N.lo k)<=d (N.lo j) then 1 else 0)))<=sm m (λj=>(if must j=true then 0 else N.bd j)+(if k=j then -(tt+1) else 0)):=by
   refine sm_le λj hj=>?_
   have hbj:=bb j hj
   by_cases e:k=j
   ·subst e
    rw[if_pos (Int.le_refl _),if_pos hmu,if_pos rfl,hfl]
    have:¬d (N.lo k)<=d (N.hi k):=by
     rw[hdd,hdd]
     unfold lack at hl
     omega
    rw[if_neg this]
    omega
   ·rw[if_neg e]
    by_cases hmj:must j=true
    ·rw[if_pos hmj]
     have hj1:=W.kp j hj hmj
     have hj2:=(wr j hj).2
     by_cases q1:d (N.lo k)<=d (N.hi j)
     ·rw[if_pos q1]
      by_cases q2:d (N.lo k)<=d (N.lo j)
      ·rw[if_pos q2];omega
      ·rw[if_neg q2]
       have:s.fl j=0:=hj2 (by
        rw[hdd,hdd] at q1 q2
        unfold lack
        omega)
       rw[this]
       omega
     ·rw[if_neg q1]
      split<;>omega
    ·rw[if_neg hmj]
     split<;>split<;>omega
  rw[hc,sm_add,W.ts,sm_pick hk] at hle
  omega
 refine⟨λk hk=>⟨(bb k hk).1,λ_=>(bb k hk).2⟩,cs,mk,?_⟩
 have hz:=pot s.tm
 have:sm m (λk=>s.fl k*N.ln k)=sm m (λk=>s.fl k*lack N s.tm k)+sm m (λk=>s.fl k*(s.tm (N.hi k)-s.tm (N.lo k))):=by
  rw[<-sm_add]
  refine bz λk _=>?_
  rw[<-Int.mul_add]
  congr 1
  unfold lack
  omega
 rw[this,hz,Int.add_zero]
 refine bz λk hk=>?_
 obtain⟨w1,w2⟩:=wr k hk
 by_cases hmk:must k=true
 ·rw[if_pos hmk]
  have:=mk k hk hmk
  rcases Int.lt_or_eq_of_le this with z | z
  ·rw[w2 z,Int.zero_mul]
  ·rw[z,Int.mul_zero]
 ·rw[if_neg hmk]
  rcases Int.lt_trichotomy (lack N s.tm k) 0 with z | z | z
  ·rw[w2 z,Int.zero_mul,Int.max_eq_left (by omega),Int.mul_zero]
  ·rw[z,Int.mul_zero,Int.max_eq_left (by omega),Int.mul_zero]
  ·rw[w1 z,Int.max_eq_right (by omega)]
end
end TR
namespace TR
section
variable{n:Nat}{ov dp:Nat->Nat}{un:Nat->List Nat}
theorem Tree.root(T:Tree n ov dp){x i:Nat}(hx:x<=n)(h:dp x<=i):upN ov i x=n:=by
 obtain⟨h1,h2⟩:=T.up (dp x) hx (Nat.le_refl _)
 have hr:∀j,upN ov j n=n:=λj=>by
  induction j with
  | zero=>rfl
  | succ j ih=>rw[dY,ih,T.o]
 have hy:upN ov (dp x) x=n:=by
  rcases Nat.lt_or_ge (upN ov (dp x) x) n with z | z
  ·have:=(T.d _ z).2;omega
  ·omega
 rw[show i=dp x+(i-dp x) by omega,upN_add,hy,hr]
theorem Tree.sub_dep(T:Tree n ov dp){x c i:Nat}(hx:x<=n)(hc:c<n)(h:upN ov i x=c):dp c+i=dp x:=by
 rcases Nat.lt_or_ge i (dp x) with z | z
 ·have:=(T.up i hx (by omega)).2
  rw[h] at this
  exact this
 ·rw[T.root hx z] at h;omega
theorem Tree.sub_disj(T:Tree n ov dp){x c d:Nat}(hx:x<=n)(hc:c<n)(hd:d<n)(e:dp c=dp d)(h1:sub ov c x)(h2:sub ov d x):c=d:=by
 obtain⟨i,h1⟩:=h1
 obtain⟨j,h2⟩:=h2
 have a:=T.sub_dep hx hc h1
 have b:=T.sub_dep hx hd h2
 have:i=j:=by omega
 subst this
 exact h1.symm.trans h2
theorem Tree.sub_iff(T:Tree n ov dp)(U:Und n ov un){p x:Nat}(hp:p<n)(hx:x<=n):sub ov p x↔x=p\/∃c∈un p,sub ov c x:=by
 constructor
 ·rintro⟨i,h⟩
  cases i with
  | zero=>exact .inl h
  | succ i =>
   rw[dY] at h
   have hle:=(T.ups i hx).1
   have hlt:upN ov i x<n:=by
    rcases Nat.lt_or_ge (upN ov i x) n with z | z
    ·exact z
    ·rw[show upN ov i x=n by omega,T.o] at h;omega
   exact .inr ⟨_,((U p (by omega)).2 _).mpr ⟨hlt,h⟩,i,rfl⟩
 ·rintro(rfl | ⟨c,hc,i,h⟩)
  ·exact⟨0,rfl⟩
  ·exact⟨i+1,by rw[dY,h];exact(((U p (by omega)).2 c).mp hc).2⟩
end
end TR
namespace TR
section
variable{N:Net}{s:St}
theorem Rv.down:∀{j p q r:Nat} {t:Tr},Rv N j p q r t->∀y∈aC t.ov j p,∃i,upN (eX j p q r t).ov i y=q
 | 0,_,_,_,_,_,y,hy=>by cases hy
 | j+1,p,q,r,t,R,y,hy=>by
  have hw:aC (put t.ov p q) j (t.ov p)=aC t.ov j (t.ov p):=fC R.not_in
  have hp:(eX (j+1) p q r t).ov p=q:=(R.next.out p (by show p∉aC (put t.ov p q) j (t.ov p);rw[hw];exact R.not_in)).1.trans bv
  rcases List.mem_cons.mp hy with rfl | hy
  ·exact⟨1,hp⟩
  ·obtain⟨i,hi⟩:=R.next.down y (by show y∈aC (put t.ov p q) j (t.ov p);rw[hw];exact hy)
   refine⟨i+1,?_⟩
   rw[dY]
   show(eX (j+1) p q r t).ov (upN (eX j (t.ov p) p (t.hk p) (t.re p q r)).ov i y)=q
   rw[hi]
   exact hp
theorem Hg.dep{k i p q:Nat}{fl:Nat->Int}(I:Inv N s)(h:Hg N s k i p q fl){d:Nat->Nat}(T:Tree N.n (eX (i+1) p q k s.t).ov d):∀(m x:Nat),s.dp x=m->x<=N.n->¬sub (eX (i+1) p q k s.t).ov p x->s.dp x=d x:=by
 have R:=h.rv I
 have hw:aC (put s.t.ov p q) i (s.t.ov p)=aC s.t.ov i (s.t.ov p):=fC R.not_in
 have hdn:∀y∈aC s.t.ov (i+1) p,sub (eX (i+1) p q k s.t).ov p y:=λy hy=>by
  rcases List.mem_cons.mp hy with rfl | hy
  ·exact⟨0,rfl⟩
  ·exact R.next.down y (by show y∈aC (put s.t.ov p q) i (s.t.ov p);rw[hw];exact hy)
 intro m
 induction m with
 | zero =>
  intro x hm hx _
  have:x=N.n:=by
   rcases Nat.lt_or_ge x N.n with z | z
   ·have:=(I.tr.d x z).2;omega
   ·omega
  rw[this,T.r,I.tr.r]
 | succ m ih =>
  intro x hm hx hs
  have hxn:=I.tr.pos hx (by omega)
  obtain⟨o1,o2⟩:=I.tr.d x hxn
  have ho:=(R.out x λz=>hs (hdn x z)).1
  have e:=ih (s.t.ov x) (by omega) o1 λ⟨j,z⟩=>hs ⟨j+1,by rw[upN,ho];exact z⟩
  have:=(T.d x hxn).2
  rw[ho] at this
  omega
end
end TR
namespace SL
open DL L2 PySem
section
variable{f fo fi fe:aq->Sto->R (Val×Sto)}{fa:aq->Sto->R (List Val×Sto)}{fc:aq->Sto->R (Bool×Sto)}{g:SG}{δ δ':aq}{μ μ' μ1 μ2 μ3:Sto}{v:Val}{n:Nat}
theorem bf{k:Nat}{x:D}:lvN k μ (.d x)=some x:=by cases k<;>rfl
theorem ap{i:Nat}{x:Val}{d:D}(h:δ[i]?=some (some x))(h2:lvN 4 μ x=some d):ad i (viewN 4 μ δ)=M.ret d:=by
 refine ac ?_
 unfold viewN
 rw[List.getElem?_map,h]
 show some (match lvN 4 μ x with | some d=>Sl.vl d | none=>.un)=_
 rw[h2]
theorem slotN{i:Nat}{x:Val}{d:D}(h:δ[i]?=some (some x))(h2:lvN 4 μ x=some d):DL.slotAt (viewN 4 μ δ) i=.vl d:=by
 unfold DL.slotAt viewN
 rw[List.getElem?_map,h]
 have h3:v1N 4 μ (some x)=.vl d:=by
  show(match lvN 4 μ x with | some d=>Sl.vl d | none=>.un)=_
  rw[h2]
 rw[Option.map_some,h3]
theorem bV{f:DS->M D}{d:D}(h:f (viewN 4 μ δ)=M.ret d)(hf:bM d=true):bJ f δ μ=R.ret (.d d,μ):=by
 unfold bJ;rw[h];show(if bM d=true then _ else _)=_;rw[if_pos hf]
theorem es_testN{fb:DS->M Bool}{b:Bool}(h:fb (viewN 4 μ δ)=M.ret b):sTestN fb δ μ=R.ret (b,μ):=by unfold sTestN;rw[h];rfl
theorem gB{fn:DS->M (List D)}{ds:List D}(h:fn (viewN 4 μ δ)=M.ret ds)(hf:aM ds=true):hG fn δ μ=R.ret (.h μ.length,μ++[.lst (ds.map Val.d)]):=by
 unfold hG;rw[h];show(if aM ds=true then _ else _)=_;rw[if_pos hf]
theorem es_newFN{f:DS->M D}{ds:List D}(h:f (viewN 4 μ δ)=M.ret (.list ds))(hf:aM ds=true):iU f δ μ=R.ret (.h μ.length,μ++[.lst (ds.map Val.d)]):=by
 unfold iU;rw[h];show(if aM ds=true then _ else _)=_;rw[if_pos hf]
theorem es_at{k:Nat}{c x:Str}{fs:List (Str×Val)}(h1:fo δ μ=R.ret (.h k,μ1))(h2:μ1[k]?=some (.ins c fs))(h3:fs.lookup x=some v):sAt c x fo δ μ=R.ret (v,μ1):=by
 unfold sAt
 rw[h1,aW]
 dsimp only
 rw[h2]
 dsimp only
 rw[if_pos rfl,h3]
theorem dy{k:Nat}{c x:Str}{fs:List (Str×Val)}(h1:fe δ μ=R.ret (v,μ1))(h2:fo δ μ1=R.ret (.h k,μ2))(h3:μ2[k]?=some (.ins c fs))(h4:fs.length<1000):et c x fo fe n δ μ=R.ret (.nx δ (μ2.set k (.ins c (fV x v fs)))):=by
 unfold et
 rw[h1,aW]
 dsimp only
 rw[h2,aW]
 dsimp only
 rw[h3]
 dsimp only
 rw[if_pos ⟨rfl,h4⟩]
theorem es_met{k:Nat}{c m:Str}{F:List Val->Sto->R (Val×Sto)}{fs:List (Str×Val)}{xs:List Val}(h1:fo δ μ=R.ret (.h k,μ1))(h2:μ1[k]?=some (.ins c fs))(h3:fs.lookup m=none)(h4:fa δ μ1=R.ret (xs,μ2))(h5:F (.h k::xs) μ2=R.ret (v,μ3)):sMet c m F fo fa δ μ=R.ret (v,μ3):=by
 unfold sMet
 rw[h1,aW]
 dsimp only
 rw[h2]
 dsimp only
 rw[if_pos ⟨rfl,h3⟩,h4,aW]
 dsimp only
 rw[h5]
 rfl
theorem es_mk{c:Str}{F:List Val->Sto->R (Val×Sto)}{xs:List Val}(h1:fa δ μ=R.ret (xs,μ1))(h2:F (.h μ1.length::xs) (μ1++[.ins c []])=R.ret (.d .none,μ2)):sMk c F fa δ μ=R.ret (.h μ1.length,μ2):=by
 unfold sMk
 rw[h1,aW]
 dsimp only
 rw[h2]
 rfl
theorem es_rem{k:Nat}{m:Int}{is:List Int}{ys:List Val}(h1:fo δ μ=R.ret (.h k,μ1))(h2:μ1[k]?=some (.lst ys))(h3:f δ μ1=R.ret (.d (.int m),μ2))(h4:μ2[k]?=some (.lst (is.map λi=>Val.d (.int i))))(h5:m∈is):sRem fo f δ μ=R.ret (.d .none,μ2.set k (.lst ((is.eraseIdx (is.idxOf m)).map λi=>Val.d (.int i)))):=by
 unfold sRem
 rw[h1,aW]
 dsimp only
 rw[h2]
 dsimp only
 rw[h3,aW]
 dsimp only
 rw[h4]
 dsimp only
 rw[intsV_map]
 dsimp only
 rw[if_pos h5]
theorem es_pop{k:Nat}{xs:List Val}(h1:fo δ μ=R.ret (.h k,μ1))(h2:μ1[k]?=some (.lst xs))(h3:xs[xs.length-1]?=some v):sPop fo δ μ=R.ret (v,μ1.set k (.lst xs.dropLast)):=by
 unfold sPop
 rw[h1,aW]
 dsimp only
 rw[h2]
 dsimp only
 rw[h3]
theorem es_ext{k j:Nat}{xs ys zs:List Val}(h1:fo δ μ=R.ret (.h k,μ1))(h2:μ1[k]?=some (.lst ys))(h3:f δ μ1=R.ret (.h j,μ2))(h4:μ2[k]?=some (.lst xs))(h5:μ2[j]?=some (.lst zs))(h6:aL (xs.length+zs.length)=true):sExt fo f δ μ=R.ret (.d .none,μ2.set k (.lst (xs++zs))):=by
 unfold sExt
 rw[h1,aW]
 dsimp only
 rw[h2]
 dsimp only
 rw[h3,aW]
 dsimp only
 rw[h4,h5]
 dsimp only
 rw[if_pos h6]
theorem es_cat{k j:Nat}{xs zs:List Val}(h1:fo δ μ=R.ret (.h k,μ1))(h3:f δ μ1=R.ret (.h j,μ2))(h4:μ2[k]?=some (.lst xs))(h5:μ2[j]?=some (.lst zs))(h6:aL (xs.length+zs.length)=true):sCat fo f δ μ=R.ret (.h μ2.length,μ2++[.lst (xs++zs)]):=by
 unfold sCat
 rw[h1,aW]
 dsimp only
 rw[h3,aW]
 dsimp only
 rw[h4,h5]
 dsimp only
 rw[if_pos h6]
theorem es_augX{h:Int->Int->Int}{k j:Nat}{i x m:Int}{xs ys:List Val}(h1:fo δ μ=R.ret (.h k,μ1))(h2:fi δ μ1=R.ret (.d (.int i),μ2))(h3:μ2[k]?=some (.lst xs))(h4:L2.atI xs i=some (.d (.int x)))(h5:f δ μ2=R.ret (.d (.int m),μ3))(h6:μ3[k]?=some (.lst ys))(h7:ixN ys.length i=some j):sAugX h fo fi f n δ μ=R.ret (.nx δ (μ3.set k (.lst (ys.set j (.d (.int (h x m))))))):=by
 unfold sAugX
 rw[h1,aW]
 dsimp only
 rw[h2,aW]
 dsimp only
 rw[h3]
 dsimp only
 rw[h4]
 dsimp only
 rw[h5,aW]
 dsimp only
 rw[h6]
 dsimp only
 rw[h7]
theorem es_runN{k:Nat}{xs:List Val}(h:g μ.length (iQ k xs) μ=R.ret (.nx δ μ')):runS k g xs μ=R.ret (.d .none,μ'):=by unfold runS;rw[h];rfl
theorem es_whf(h:fc δ μ=R.ret (false,μ1)):ek fc g n δ μ=R.ret (.nx δ μ1):=by
 refine sWhile_some (n:=1) ?_
 unfold dS
 rw[h]
 rfl
theorem es_wht{r:OutS}(h1:fc δ μ=R.ret (true,μ1))(h2:g n δ μ1=R.ret (.nx δ' μ'))(h3:ek fc g n δ' μ'=R.ret r):ek fc g n δ μ=R.ret r:=by
 obtain⟨k,hk⟩:=sWhile_inv (show ek fc g n δ' μ'=some (.ok r) from h3)
 refine sWhile_some (n:=k+1) ?_
 unfold dS
 rw[h1,aW]
 dsimp only
 rw[if_pos rfl,h2,aW]
 exact hk
theorem es_retN{f:DS->M D}{d:D}(h:f (viewN 4 μ δ)=M.ret d):sRetN f 0 δ μ=R.ret (.rt (.d d) []):=by unfold sRetN;rw[if_pos rfl,h];rfl
theorem es_forR{fa:DS->M (List D)}{t:D->aq->Option aq}{xs ds:List D}{r:R OutS}(h1:fa (viewN 4 μ δ)=M.ret xs)(h2:gZ xs=some ds)(h3:ip t (g n) ds δ μ=r):sForR fa t g n δ μ=r:=by
 unfold sForR
 rw[h1]
 show(match gZ xs with | some ds=>ip t (g n) ds δ μ | none=>none)=r
 rw[h2]
 exact h3
end
end SL
open PySem PySem.Spec L2 DL
namespace CT
def rg(L:Nat)(f:Nat->D):List D:=(List.range L).map f
theorem rg_len(L:Nat)(f:Nat->D):(rg L f).length=L:=by unfold rg;rw[List.length_map,List.length_range]
theorem rg_get{L:Nat}{f:Nat->D}{k:Nat}(h:k<L):(rg L f)[k]?=some (f k):=by
 unfold rg
 rw[List.getElem?_map,List.getElem?_range h]
 rfl
theorem ix_at{ds:List D}{k:Nat}{d:D}(h:ds[k]?=some d):oIx (.list ds) (.int (k:Int))=some d:=by
 have hk:k<ds.length:=(List.getElem?_eq_some_iff.mp h).1
 show L2.atI ds (k:Int)=some d
 unfold L2.atI
 rw[show L2.ixN ds.length (k:Int)=some k by unfold L2.ixN;simp;omega]
 exact h
theorem dR{L:Nat}{f:Nat->D}{k:Nat}(h:k<L):oIx (.list (rg L f)) (.int (k:Int))=some (f k):=ix_at (rg_get h)
theorem rg_set{L:Nat}{f:Nat->D}{k:Nat}{d:D}:(rg L f).set k d=rg L (TR.put f k d):=by
 refine List.ext_getElem? λi=>?_
 rw[List.getElem?_set]
 unfold rg
 rw[List.getElem?_map,List.getElem?_map,List.length_map,List.length_range]
 by_cases e:k=i
 ·subst e
  rw[if_pos rfl]
  by_cases hk:k<L
  ·rw[if_pos hk,List.getElem?_range hk]
   show some d=some (TR.put f k d k)
   rw[TR.bv]
  ·rw[if_neg hk,List.getElem?_eq_none (by rw[List.length_range];omega)]
   rfl
 ·rw[if_neg e]
  cases h:(List.range L)[i]? with
  | none=>rfl
  | some j =>
   have hj:j=i:=by
    have hlt:=(List.getElem?_eq_some_iff.mp h).1
    rw[List.length_range] at hlt
    rw[List.getElem?_range hlt] at h
    cases h
    rfl
   subst hj
   show some (f j)=some (TR.put f k d j)
   rw[TR.bK (λz=>e z.symm)]
theorem rg_congr{L:Nat}{f g:Nat->D}(h:∀k,k<L->f k=g k):rg L f=rg L g:=by
 unfold rg
 exact List.map_congr_left λk hk=>h k (List.mem_range.mp hk)
structure Tn where
 n:Nat
 m:Nat
 rs:List Rl
 bd:Nat->Int
def Tn.r(E:Tn)(k:Nat):Rl:=E.rs.getD k r0
def Tn.net(E:Tn):TR.Net:=⟨E.n,E.rs.length,λk=>(E.r k).lo,λk=>(E.r k).hi,λk=>(E.r k).le,E.bd⟩
theorem ix_rs{E:Tn}{k:Nat}(h:k<E.rs.length):oIx (.list (E.rs.map rl)) (.int (k:Int))=some (rl (E.r k)):=by
 refine ix_at ?_
 rw[List.getElem?_map,List.getElem?_eq_getElem h]
 unfold Tn.r
 rw[List.getD_eq_getElem?_getD,List.getElem?_eq_getElem h]
 rfl
def ovD(n x p:Nat):D:=if p<n then .int (x:Int) else .none
def tins(a b c d e f g h i j:D):D:=iY "Tree" [("many",a),("rules",b),("bounds",c),("flow",d),("times",e),("over",f),("under",g),("hooks",h),("depths",i),("begin",j)]
section
variable(a b c d e f g h i j:D)
theorem fl_many:bg "Tree" "many" (tins a b c d e f g h i j)=some a:=by kernel_rfl
theorem fl_rules:bg "Tree" "rules" (tins a b c d e f g h i j)=some b:=by kernel_rfl
theorem fl_bounds:bg "Tree" "bounds" (tins a b c d e f g h i j)=some c:=by kernel_rfl
theorem fl_flow:bg "Tree" "flow" (tins a b c d e f g h i j)=some d:=by kernel_rfl
theorem fl_times:bg "Tree" "times" (tins a b c d e f g h i j)=some e:=by kernel_rfl
theorem fl_over:bg "Tree" "over" (tins a b c d e f g h i j)=some f:=by kernel_rfl
theorem fl_hooks:bg "Tree" "hooks" (tins a b c d e f g h i j)=some h:=by kernel_rfl
theorem fl_depths:bg "Tree" "depths" (tins a b c d e f g h i j)=some i:=by kernel_rfl
theorem fl_begin:bg "Tree" "begin" (tins a b c d e f g h i j)=some j:=by kernel_rfl
def tats:List D:=[.tuple [.str "many",a],.tuple [.str "rules",b],.tuple [.str "bounds",c],.tuple [.str "flow",d],.tuple [.str "times",e],.tuple [.str "over",f],.tuple [.str "under",g],.tuple [.str "hooks",h],.tuple [.str "depths",i],.tuple [.str "begin",j]]
theorem at_t:attrs "Tree" (tins a b c d e f g h i j)=some (tats a b c d e f g h i j):=by kernel_rfl
end
def noF(m:Str):Prop:=∀a b c d e f g h i j:D,iJ m (tats a b c d e f g h i j)=true
theorem nf_lack:noF "lack_of" := λ_ _ _ _ _ _ _ _ _ _=>by kernel_rfl
theorem nf_wrong:noF "is_wrong" := λ_ _ _ _ _ _ _ _ _ _=>by kernel_rfl
theorem nf_worst:noF "worst_rule" := λ_ _ _ _ _ _ _ _ _ _=>by kernel_rfl
theorem nf_meeting:noF "meeting" := λ_ _ _ _ _ _ _ _ _ _=>by kernel_rfl
theorem nf_way:noF "way" := λ_ _ _ _ _ _ _ _ _ _=>by kernel_rfl
theorem nf_down:noF "step_down" := λ_ _ _ _ _ _ _ _ _ _=>by kernel_rfl
theorem nf_up:noF "step_up" := λ_ _ _ _ _ _ _ _ _ _=>by kernel_rfl
theorem nf_room:noF "room" := λ_ _ _ _ _ _ _ _ _ _=>by kernel_rfl
theorem nf_timing:noF "timing" := λ_ _ _ _ _ _ _ _ _ _=>by kernel_rfl
theorem nf_fr:noF "flow_of_rules" := λ_ _ _ _ _ _ _ _ _ _=>by kernel_rfl
structure Tf(E:Tn)(s:TR.St)(X:D):Prop where
 many:bg "Tree" "many" X=some (.int (E.m:Int))
 rules:bg "Tree" "rules" X=some (.list (E.rs.map rl))
 bounds:bg "Tree" "bounds" X=some (.list (rg E.rs.length λk=>.int (E.bd k)))
 flow:bg "Tree" "flow" X=some (.list (rg E.rs.length λk=>.int (s.fl k)))
 times:bg "Tree" "times" X=some (.list (rg (E.n+1) λp=>.int (s.tm p)))
 over:bg "Tree" "over" X=some (.list (rg (E.n+1) λp=>ovD E.n (s.t.ov p) p))
 hooks:bg "Tree" "hooks" X=some (.list (rg (E.n+1) λp=>ovD E.n (s.t.hk p) p))
 depths:bg "Tree" "depths" X=some (.list (rg (E.n+1) λp=>.int (s.dp p:Int)))
 begin_:bg "Tree" "begin" X=some (.int 0)
 me:∃r,attrs "Tree" X=some r/\∀m,noF m->iJ m r=true
section
variable{E:Tn}{s:TR.St}{X:D}
theorem cG(T:Tf E s X){m:Str}(hm:noF m){F:List D->M D}{fo:DS->M D}{fa:DS->M (List D)}{δ:DS}{d:D}{ds:List D}(h1:fo δ=M.ret X)(h4:fa δ=M.ret ds)(h5:F (X::ds)=M.ret d):dMe "Tree" m (λds=>noX (F ds)) fo fa δ=M.ret d:=by
 obtain⟨r,h2,h3⟩:=T.me
 exact ev_me h1 h2 (h3 m hm) h4 h5
def Pin(E:Tn):Prop:=∀k,k<E.rs.length->(E.r k).lo<=E.n/\(E.r k).hi<=E.n
theorem lack_ev(T:Tf E s X)(hP:Pin E){k:Nat}(hk:k<E.rs.length):bC [X,.int (k:Int)]=M.ret (.int (TR.lack E.net s.tm k)):=by
 obtain⟨h1,h2⟩:=hP k hk
 refine ck ?_
 unfold eK
 refine aT (bo (ak (ci (ac rfl) T.rules) (ac rfl) (ix_rs hk))) ?_
 exact dv (ak (ak (ak (ac rfl) ar (ix_rl2 _)) (ak (ci (ac rfl) T.times) (ak (ac rfl) ar (fX _)) (dR (by omega))) o_sub) (ak (ci (ac rfl) T.times) (ak (ac rfl) ar (gO _)) (dR (by omega))) eY)
theorem wrong_ev(T:Tf E s X){k:Nat}(hk:k<E.rs.length)(l:Int):cm [X,.int (k:Int),.int l]=M.ret (.bool (if 0<l then decide (s.fl k<E.bd k) else decide (0<s.fl k))):=by
 refine ck ?_
 unfold eg
 refine dv (ev_if (bj (ak (ac rfl) ar o_gt)) ?_)
 by_cases h:0<l
 ·rw[if_pos h]
  exact ite_t h (ak (ak (ci (ac rfl) T.flow) (ac rfl) (dR hk)) (ak (ci (ac rfl) T.bounds) (ac rfl) (dR hk)) o_lt)
 ·rw[if_neg h]
  exact ite_f h (ak (ak (ci (ac rfl) T.flow) (ac rfl) (dR hk)) ar o_gt)
theorem o_absI(i:Int):oAbs [.int i]=some (.int (TR.ab i)):=by
 unfold TR.ab
 show some (PyData.int _)=some (PyData.int _)
 congr 2
 split<;>omega
theorem ind_D{x:Nat}{p:Nat}(h:p<E.n):ovD E.n x p=.int (x:Int):=if_pos h
theorem sdn_ev(T:Tf E s X){q:Nat}(hq:q<E.n)(hk:s.t.hk q<E.rs.length):b8 [X,.int (q:Int)]=M.ret (.tuple [.int (q:Int),.int (s.t.hk q:Int),.bool (decide ((E.r (s.t.hk q)).hi=q))]):=by
 have g:oIx (.list (rg (E.n+1) λp=>ovD E.n (s.t.hk p) p)) (.int (q:Int))=some (.int (s.t.hk q:Int)):=by rw[dR (by omega),ind_D hq]
 have e:(decide (((E.r (s.t.hk q)).hi:Int)=(q:Int)))=decide ((E.r (s.t.hk q)).hi=q):=decide_eq_decide.mpr (by omega)
 refine ck ?_
 unfold dM
 rw[<-e]
 exact dv (du (af (ac rfl) (af (ak (ci (ac rfl) T.hooks) (ac rfl) g) (af (ak (ak (ak (ci (ac rfl) T.rules) (ak (ci (ac rfl) T.hooks) (ac rfl) g) (ix_rs hk)) ar (fX _)) (ac rfl) o_eq) ao))) rfl)
theorem sup_ev(T:Tf E s X){q:Nat}(hq:q<E.n)(hk:s.t.hk q<E.rs.length):cM [X,.int (q:Int)]=M.ret (.tuple [.int (q:Int),.int (s.t.hk q:Int),.bool (decide ((E.r (s.t.hk q)).lo=q))]):=by
 have g:oIx (.list (rg (E.n+1) λp=>ovD E.n (s.t.hk p) p)) (.int (q:Int))=some (.int (s.t.hk q:Int)):=by rw[dR (by omega),ind_D hq]
 have e:(decide (((E.r (s.t.hk q)).lo:Int)=(q:Int)))=decide ((E.r (s.t.hk q)).lo=q):=decide_eq_decide.mpr (by omega)
 refine ck ?_
 unfold eI
 rw[<-e]
 exact dv (du (af (ac rfl) (af (ak (ci (ac rfl) T.hooks) (ac rfl) g) (af (ak (ak (ak (ci (ac rfl) T.rules) (ak (ci (ac rfl) T.hooks) (ac rfl) g) (ix_rs hk)) ar (gO _)) (ac rfl) o_eq) ao))) rfl)
theorem room_ev(T:Tf E s X){k:Nat}(hk:k<E.rs.length)(x:D)(b:Bool):b5 [X,.tuple [x,.int (k:Int),.bool b]]=M.ret (.int (if b=true then E.bd k-s.fl k else s.fl k)):=by
 refine ck ?_
 unfold hV
 refine aT (bo (ak (ac rfl) ar (rfl:oIx (.tuple [x,.int (k:Int),.bool b]) (.int 1)=some (.int (k:Int))))) ?_
 refine dv (ev_if (bj (ak (ac rfl) ar (rfl:oIx (.tuple [x,.int (k:Int),.bool b]) (.int 2)=some (.bool b)))) ?_)
 cases b with
 | true=>exact fP rfl (ak (ak (ci (ac rfl) T.bounds) (ac rfl) (dR hk)) (ak (ci (ac rfl) T.flow) (ac rfl) (dR hk)) o_sub)
 | false=>exact gg rfl (ak (ci (ac rfl) T.flow) (ac rfl) (dR hk))
theorem meeting_ev(T:Tf E s X)(Tr:TR.Tree E.n s.t.ov s.dp){p q t:Nat}(hm:TR.Meet s.t.ov s.dp p q t)(hp:p<=E.n)(hq:q<=E.n):dG [X,.int (p:Int),.int (q:Int)]=M.ret (.int (t:Int)):=by
 have key:dX (dB (d2 oNe (ad 1) (ad 2))) cL [.vl X,.vl (.int (p:Int)),.vl (.int (q:Int))]=M.ret (.nx [.vl X,.vl (.int (t:Int)),.vl (.int (t:Int))]):=by
  induction hm with
  | done p=>exact ev_while_f (bj (ak (ac rfl) (ac rfl) (by rw[o_ne,decide_eq_true rfl];rfl)))
  | @one p q t h hd m ih =>
   have hpn:p<E.n:=by
    rcases Nat.lt_or_ge p E.n with z | z
    ·exact z
    ·have e:p=E.n:=by omega
     rw[e,Tr.r] at hd
     rcases Nat.lt_or_ge q E.n with z | z
     ·have:=(Tr.d q z).2;omega
     ·omega
   refine i0 (δ':=[.vl X,.vl (.int (s.t.ov p:Int)),.vl (.int (q:Int))]) (bj (ak (ac rfl) (ac rfl) (by rw[o_ne,decide_eq_false (by omega)];rfl))) ?_ (ih (Tr.d p hpn).1 hq)
   unfold cL
   exact iu (bj (ak (ak (ci (ac rfl) T.depths) (ac rfl) (dR (by omega))) (ak (ci (ac rfl) T.depths) (ac rfl) (dR (by omega))) o_ge)) (ite_t (by omega) (bo (ak (ci (ac rfl) T.over) (ac rfl) (by rw[dR (by omega),ind_D hpn]))))
  | @two p q t h hd m ih =>
   have hqn:=Tr.pos hq (by omega)
   refine i0 (δ':=[.vl X,.vl (.int (p:Int)),.vl (.int (s.t.ov q:Int))]) (bj (ak (ac rfl) (ac rfl) (by rw[o_ne,decide_eq_false (by omega)];rfl))) ?_ (ih hp (Tr.d q hqn).1)
   unfold cL
   exact iu (bj (ak (ak (ci (ac rfl) T.depths) (ac rfl) (dR (by omega))) (ak (ci (ac rfl) T.depths) (ac rfl) (dR (by omega))) o_ge)) (ite_f (by omega) (bo (ak (ci (ac rfl) T.over) (ac rfl) (by rw[dR (by omega),ind_D hqn]))))
 refine ck ?_
 unfold eJ
 exact aT key (dv (ac rfl))
def bw(L:List Nat):List D:=L.map λq:Nat=>PyData.int (q:Int)
theorem nat_flat(L:List Nat):aM (bw L)=true:=by
 induction L with
 | nil=>rfl
 | cons a L ih=>exact ih
theorem way_loop(T:Tf E s X)(Tr:TR.Tree E.n s.t.ov s.dp)(b:DS->M Out)(hb:b=gJ):∀(k p:Nat) (acc:List D),p<=E.n->k<=s.dp p->acc.length+k<=1000->dX (dB (d2 oNe (ad 1) (ad 2))) b [.vl X,.vl (.int (p:Int)),.vl (.int (TR.upN s.t.ov k p:Int)),.ow acc]=M.ret (.nx [.vl X,.vl (.int (TR.upN s.t.ov k p:Int)),.vl (.int (TR.upN s.t.ov k p:Int)),.ow (acc++bw (TR.aC s.t.ov k p))])
 | 0,p,acc,hp,hk,_=>by
  show _=M.ret (Out.nx [.vl X,.vl (.int (p:Int)),.vl (.int (p:Int)),.ow (acc++[])])
  rw[List.append_nil]
  exact ev_while_f (bj (ak (ac rfl) (ac rfl) (by rw[o_ne];show some (PyData.bool (!decide ((p:Int)=(p:Int))))=_;rw[decide_eq_true rfl];rfl)))
 | k+1,p,acc,hp,hk,hz=>by
  have hpn:=Tr.pos hp (by omega)
  obtain⟨h1,h2⟩:=Tr.d p hpn
  obtain⟨h3,h4⟩:=Tr.up (k+1) hp hk
  have ih:=way_loop T Tr b hb k (s.t.ov p) (acc++[PyData.int (p:Int)]) h1 (by omega) (by rw[List.length_append];show acc.length+1+k<=1000;omega)
  rw[List.append_assoc] at ih
  refine i0 (δ':=[.vl X,.vl (.int (s.t.ov p:Int)),.vl (.int (TR.upN s.t.ov (k+1) p:Int)),.ow (acc++[PyData.int (p:Int)])]) (bj (ak (ac rfl) (ac rfl) (by
   rw[o_ne,decide_eq_false (λz=>?_)]
   ·rfl
   ·have:p=TR.upN s.t.ov (k+1) p:=by omega
    rw[<-this] at h4
    omega))) ?_ ih
  rw[hb]
  unfold gJ
  exact aT (ev_app rfl (ac rfl) (aF (by omega))) (bo (ak (ci (ac rfl) T.over) (ac rfl) (by rw[dR (by omega),ind_D hpn])))
theorem way_ev(T:Tf E s X)(Tr:TR.Tree E.n s.t.ov s.dp){k p t:Nat}(hp:p<=E.n)(hk:k<=s.dp p)(hn:E.n<=900)(ht:TR.upN s.t.ov k p=t):fA [X,.int (p:Int),.int (t:Int)]=M.ret (.list (bw (TR.aC s.t.ov k p))):=by
 have hd:=Tr.dp_le hp
 have h:=way_loop T Tr _ rfl k p [] hp hk (by show 0+k<=1000;omega)
 rw[ht] at h
 refine ck ?_
 unfold iZ
 refine aT (ev_newL (cg ao rfl)) (aT h ?_)
 rfl
theorem way_new_ev(T:Tf E s X)(Tr:TR.Tree E.n s.t.ov s.dp){k p t:Nat}(hp:p<=E.n)(hk:k<=s.dp p)(hn:E.n<=900)(ht:TR.upN s.t.ov k p=t):dF [X,.int (p:Int),.int (t:Int)]=M.ret (.list (bw (TR.aC s.t.ov k p))):=by
 have hd:=Tr.dp_le hp
 have h:=way_loop T Tr fy rfl k p [] hp hk (by show 0+k<=1000;omega)
 rw[ht] at h
 refine ck ?_
 unfold eG
 have seqN:∀{g h:DS->M Out} {δ δ':DS} {r:M Out},g δ=M.ret (.nx δ')->h δ'=r->gSeqN g h δ=r:=λ{g h δ δ' r} h1 h2=>by unfold gSeqN;rw[h1];exact h2
 refine seqN (ev_newL (cg ao rfl)) (seqN h ?_)
 exact ev_retF rfl (nat_flat _)
end
end CT
open PySem PySem.Spec L2 DL
namespace CT
section
variable{E:Tn}{s:TR.St}{X:D}
theorem rng_at{m:Nat}{p q:List D}{d:D}(e:b6 0 m=p++d::q):d=.int (p.length:Int)/\p.length<m:=by
 have h:(b6 0 m)[p.length]?=some d:=by rw[e];simp
 unfold b6 at h
 rw[List.getElem?_map] at h
 have hl:p.length<m:=by
  have:=congrArg List.length e
  unfold b6 at this
  rw[List.length_map,List.length_range,List.length_append,List.length_cons] at this
  omega
 rw[List.getElem?_range hl] at h
 simp only[Option.map_some,Int.zero_add] at h
 cases h
 exact⟨rfl,hl⟩
theorem worst_ev(T:Tf E s X)(hP:Pin E)(hm:E.m<=E.rs.length)(hz:E.m<=1000):∃w:Option Nat,cv [X,.int 0,.int (E.m:Int)]=M.ret (zd w)/\(w=none->∀k,k<E.m->¬TR.Wr E.net s k)/\(∀k,w=some k->k<E.m/\TR.Wr E.net s k):=by
 let S:List D->DS->Prop:=λp δ=>∃(w:Option Nat) (mo:Int) (x5 x6:Sl),δ=[.vl X,.vl (.int 0),.vl (.int (E.m:Int)),.vl (zd w),.vl (.int mo),x5,x6]/\0<=mo/\(w=none->mo=0/\∀k,k<p.length->¬TR.Wr E.net s k)/\(∀k,w=some k->k<E.m/\TR.Wr E.net s k)
 have hloop:∃δ',forD (e8 (tgN 5) bx) (b6 0 E.m) [.vl X,.vl (.int 0),.vl (.int (E.m:Int)),.vl .none,.vl (.int 0),.un,.un]=M.ret (.nx δ')/\S (b6 0 E.m) δ':=by
  have main:∀(q p:List D) (δ:DS),b6 0 E.m=p++q->S p δ->∃δ',forD (e8 (tgN 5) bx) q δ=M.ret (.nx δ')/\S (b6 0 E.m) δ':=by
   intro q
   induction q with
   | nil =>
    intro p δ e h
    rw[List.append_nil] at e
    exact⟨δ,rfl,e▸h⟩
   | cons d q ih =>
    rintro p δ e ⟨w,mo,x5,x6,rfl,h0,h1,h2⟩
    obtain⟨rfl,hp⟩:=rng_at e
    have hk:p.length<E.rs.length:=by omega
    obtain⟨l,hl⟩:∃l,l=TR.lack E.net s.tm p.length:=⟨_,rfl⟩
    have hlk:=lack_ev T hP hk
    rw[<-hl] at hlk
    have hwr:=wrong_ev T hk l
    obtain⟨b,hb⟩:∃b:Bool,b=(if 0<l then decide (s.fl p.length<E.bd p.length) else decide (0<s.fl p.length)):=⟨_,rfl⟩
    rw[<-hb] at hwr
    have hW:TR.Wr E.net s p.length↔(l≠0/\b=true):=by
     unfold TR.Wr
     rw[<-hl,hb]
     show(p.length<E.rs.length/\((0<l/\s.fl p.length<E.bd p.length)\/(l<0/\0<s.fl p.length)))↔_
     by_cases z:0<l
     ·rw[if_pos z,decide_eq_true_eq];omega
     ·rw[if_neg z,decide_eq_true_eq];omega
    have hab:0<=TR.ab l/\(TR.ab l=0↔l=0):=by unfold TR.ab;split<;>omega
    have step:∃δ',e8 (tgN 5) bx (.int (p.length:Int)) [.vl X,.vl (.int 0),.vl (.int (E.m:Int)),.vl (zd w),.vl (.int mo),x5,x6]=M.ret (.nx δ')/\S (p++[.int (p.length:Int)]) δ':=by
     have hc:dAnd (dB (d2 oGt (dCB oAbs (ag (ad 6) aw)) (ad 4))) (dB (dMe "Tree" "is_wrong" (λds=>noX (cm ds)) (ad 0) (ag (ad 5) (ag (ad 6) aw)))) [.vl X,.vl (.int 0),.vl (.int (E.m:Int)),.vl (zd w),.vl (.int mo),.vl (.int (p.length:Int)),.vl (.int l)]=M.ret (decide (mo<TR.ab l)&&b) :=
      ev_and (bj (ak (el (af (ac rfl) ao) (o_absI l)) (ac rfl) o_gt)) (bj (cG T nf_wrong (ac rfl) (af (ac rfl) (af (ac rfl) ao)) hwr))
     by_cases hcc:(decide (mo<TR.ab l)&&b)=true
     ·rw[hcc] at hc
      rw[Bool.and_eq_true,decide_eq_true_eq] at hcc
      have hl0:l≠0:=λz=>by
       have:=hab.2.mpr z
       omega
      refine⟨[.vl X,.vl (.int 0),.vl (.int (E.m:Int)),.vl (zd (some p.length)),.vl (.int (TR.ab l)),.vl (.int (p.length:Int)),.vl (.int l)],?_,some p.length,TR.ab l,_,_,rfl,hab.1,(λz=>nomatch z),(λk z=>by cases z;exact⟨hp,hW.mpr ⟨hl0,hcc.2⟩⟩)⟩
      refine ie (δ':=[.vl X,.vl (.int 0),.vl (.int (E.m:Int)),.vl (zd w),.vl (.int mo),.vl (.int (p.length:Int)),x6]) rfl ?_
      unfold bx
      refine aT (bo (cG T nf_lack (ac rfl) (af (ac rfl) ao) hlk)) ?_
      refine iu hc (fP rfl ?_)
      refine aT (bo (ac rfl)) ?_
      exact bo (el (af (ac rfl) ao) (o_absI l))
     ·rw[Bool.eq_false_iff.mpr hcc] at hc
      refine⟨[.vl X,.vl (.int 0),.vl (.int (E.m:Int)),.vl (zd w),.vl (.int mo),.vl (.int (p.length:Int)),.vl (.int l)],?_,w,mo,_,_,rfl,h0,λz=>⟨(h1 z).1,λk hk2=>?_⟩,h2⟩
      ·refine ie (δ':=[.vl X,.vl (.int 0),.vl (.int (E.m:Int)),.vl (zd w),.vl (.int mo),.vl (.int (p.length:Int)),x6]) rfl ?_
       unfold bx
       refine aT (bo (cG T nf_lack (ac rfl) (af (ac rfl) ao) hlk)) ?_
       exact iu hc (gg rfl rfl)
      ·rw[List.length_append] at hk2
       have hk2:k<p.length+1:=hk2
       by_cases e2:k=p.length
       ·subst e2
        intro w2
        obtain⟨w3,w4⟩:=hW.mp w2
        obtain⟨m0,_⟩:=h1 z
        apply hcc
        rw[Bool.and_eq_true,decide_eq_true_eq]
        refine⟨?_,w4⟩
        have:TR.ab l≠0:=λy=>w3 (hab.2.mp y)
        omega
       ·exact(h1 z).2 k (by omega)
    obtain⟨δ',g1,g2⟩:=step
    obtain⟨δ2,g3,g4⟩:=ih (p++[.int (p.length:Int)]) δ' (by rw[e,List.append_assoc];rfl) g2
    exact⟨δ2,gK g1 g3,g4⟩
  exact main (b6 0 E.m) [] _ rfl ⟨none,0,.un,.un,rfl,Int.le_refl _,λ_=>⟨rfl,λk hk=>absurd hk (Nat.not_lt_zero k)⟩,λk z=>by cases z⟩
 obtain⟨δ',g1,w,mo,x5,x6,rfl,h0,h1,h2⟩:=hloop
 refine⟨w,?_,λz k hk=>(h1 z).2 k (by unfold b6;rw[List.length_map,List.length_range];exact hk),h2⟩
 refine ck ?_
 unfold dg
 refine aT (bo ar) (aT (bo ar) (aT (ja (ds:=b6 0 E.m) (ev_rngS (af (ac rfl) (af (ac rfl) ao)) ?_) g1) ?_))
 ·show(if (b62 0&&b62 (E.m:Int))=true then some (b6 0 ((E.m:Int)-0).toNat) else none)=_
  rw[if_pos (by unfold b62;simp;omega),show((E.m:Int)-0).toNat=E.m by omega]
 ·exact dv (ac rfl)
end
end CT
namespace SL
open DL L2 PySem
section
variable{f fo fi:aq->Sto->R (Val×Sto)}{fa:aq->Sto->R (List Val×Sto)}{δ:aq}{μ μ' μ1:Sto}{v:Val}{n:Nat}
theorem jb(h:f δ μ=R.ret (v,μ')):sDrop f n δ μ=R.ret (.nx δ μ'):=by
 unfold sDrop
 rw[h]
 rfl
theorem es_app{k:Nat}{xs ys:List Val}(h1:fo δ μ=R.ret (.h k,μ1))(h2:μ1[k]?=some (.lst ys))(h3:f δ μ1=R.ret (v,μ'))(h4:μ'[k]?=some (.lst xs))(hs:aL (xs.length+1)=true):sApp fo f δ μ=R.ret (.d .none,μ'.set k (.lst (xs++[v]))):=by
 unfold sApp
 rw[h1,aW]
 dsimp only
 rw[h2]
 dsimp only
 rw[h3,aW]
 dsimp only
 rw[h4]
 dsimp only
 rw[if_pos hs]
theorem es_ix{k:Nat}{i:Int}{xs:List Val}(h1:fo δ μ=R.ret (.h k,μ1))(h2:fi δ μ1=R.ret (.d (.int i),μ'))(h3:μ'[k]?=some (.lst xs))(h4:L2.atI xs i=some v):sIx fo fi δ μ=R.ret (v,μ'):=by
 unfold sIx
 rw[h1,aW]
 dsimp only
 rw[h2,aW]
 dsimp only
 rw[h3]
 dsimp only
 rw[h4]
end
end SL
open PySem PySem.Spec L2 DL SL
namespace CT
def tfs(E:Tn):List (Str×Val):=[("many",.d (.int (E.m:Int))),("rules",.d (.list (E.rs.map rl))),("bounds",.h 1),("flow",.h 2),("times",.h 3),("over",.h 4),("under",.h (8+E.n)),("hooks",.h (9+E.n)),("depths",.h (10+E.n)),("begin",.d (.int 0))]
abbrev vls(ds:List D):Ob:=.lst (ds.map Val.d)
structure Rp(E:Tn)(s:TR.St)(μ:Sto):Prop where
 h0:μ[0]?=some (.ins "Tree" (tfs E))
 h1:μ[1]?=some (vls (rg E.rs.length λk=>.int (E.bd k)))
 h2:μ[2]?=some (vls (rg E.rs.length λk=>.int (s.fl k)))
 h3:μ[3]?=some (vls (rg (E.n+1) λp=>.int (s.tm p)))
 h4:μ[4]?=some (vls (rg (E.n+1) λp=>ovD E.n (s.t.ov p) p))
 hu:μ[8+E.n]?=some (.lst ((List.range (E.n+1)).map λp=>Val.h (6+p)))
 hc:∀p,p<=E.n->μ[6+p]?=some (vls (bw (s.t.un p)))
 hh:μ[9+E.n]?=some (vls (rg (E.n+1) λp=>ovD E.n (s.t.hk p) p))
 hd:μ[10+E.n]?=some (vls (rg (E.n+1) λp=>.int (s.dp p:Int)))
section
variable{E:Tn}{s s':TR.St}{μ μ':Sto}
theorem Rp.len(P:Rp E s μ):11+E.n<=μ.length:=by
 have:=(List.getElem?_eq_some_iff.mp P.hd).1
 omega
theorem Rp.keep(P:Rp E s μ)(h:∀i,i<11+E.n->μ'[i]?=μ[i]?):Rp E s μ' :=
 ⟨(h _ (by omega)).trans P.h0,(h _ (by omega)).trans P.h1,(h _ (by omega)).trans P.h2,(h _ (by omega)).trans P.h3,(h _ (by omega)).trans P.h4,(h _ (by omega)).trans P.hu,λp hp=>(h _ (by omega)).trans (P.hc p hp),(h _ (by omega)).trans P.hh,(h _ (by omega)).trans P.hd⟩
theorem Rp.app(P:Rp E s μ)(L:Sto):Rp E s (μ++L):=P.keep λi hi=>List.getElem?_append_left (by have:=P.len;omega)
theorem Rp.setO(P:Rp E s μ){i:Nat}{x:Ob}(hi:11+E.n<=i):Rp E s (μ.set i x):=P.keep λj hj=>by rw[List.getElem?_set,if_neg (by omega)]
theorem cn{i:Nat}{x:Ob}(h:i<μ.length):(μ.set i x)[i]?=some x:=by rw[List.getElem?_set,if_pos rfl,if_pos h]
theorem aA{i j:Nat}{x:Ob}(h:i≠j):(μ.set i x)[j]?=μ[j]?:=by rw[List.getElem?_set,if_neg h]
theorem Rp.fl(P:Rp E s μ)(f:Nat->Int):Rp E { s with fl:=f } (μ.set 2 (vls (rg E.rs.length λk=>.int (f k)))):=by
 have hl:=P.len
 exact⟨(aA (by omega)).trans P.h0,(aA (by omega)).trans P.h1,cn (by omega),(aA (by omega)).trans P.h3,(aA (by omega)).trans P.h4,(aA (by omega)).trans P.hu,λp hp=>(aA (by omega)).trans (P.hc p hp),(aA (by omega)).trans P.hh,(aA (by omega)).trans P.hd⟩
theorem Rp.tm(P:Rp E s μ)(f:Nat->Int):Rp E { s with tm:=f } (μ.set 3 (vls (rg (E.n+1) λp=>.int (f p)))):=by
 have hl:=P.len
 exact⟨(aA (by omega)).trans P.h0,(aA (by omega)).trans P.h1,(aA (by omega)).trans P.h2,cn (by omega),(aA (by omega)).trans P.h4,(aA (by omega)).trans P.hu,λp hp=>(aA (by omega)).trans (P.hc p hp),(aA (by omega)).trans P.hh,(aA (by omega)).trans P.hd⟩
theorem Rp.ov(P:Rp E s μ)(f:Nat->Nat):Rp E { s with t:={ s.t with ov:=f } } (μ.set 4 (vls (rg (E.n+1) λp=>ovD E.n (f p) p))):=by
 have hl:=P.len
 exact⟨(aA (by omega)).trans P.h0,(aA (by omega)).trans P.h1,(aA (by omega)).trans P.h2,(aA (by omega)).trans P.h3,cn (by omega),(aA (by omega)).trans P.hu,λp hp=>(aA (by omega)).trans (P.hc p hp),(aA (by omega)).trans P.hh,(aA (by omega)).trans P.hd⟩
theorem Rp.hk(P:Rp E s μ)(f:Nat->Nat):Rp E { s with t:={ s.t with hk:=f } } (μ.set (9+E.n) (vls (rg (E.n+1) λp=>ovD E.n (f p) p))):=by
 have hl:=P.len
 exact⟨(aA (by omega)).trans P.h0,(aA (by omega)).trans P.h1,(aA (by omega)).trans P.h2,(aA (by omega)).trans P.h3,(aA (by omega)).trans P.h4,(aA (by omega)).trans P.hu,λp hp=>(aA (by omega)).trans (P.hc p hp),cn (by omega),(aA (by omega)).trans P.hd⟩
theorem Rp.dp(P:Rp E s μ)(f:Nat->Nat):Rp E { s with dp:=f } (μ.set (10+E.n) (vls (rg (E.n+1) λp=>.int (f p:Int)))):=by
 have hl:=P.len
 exact⟨(aA (by omega)).trans P.h0,(aA (by omega)).trans P.h1,(aA (by omega)).trans P.h2,(aA (by omega)).trans P.h3,(aA (by omega)).trans P.h4,(aA (by omega)).trans P.hu,λp hp=>(aA (by omega)).trans (P.hc p hp),(aA (by omega)).trans P.hh,cn (by omega)⟩
theorem Rp.un(P:Rp E s μ){q:Nat}(hq:q<=E.n)(L:List Nat):Rp E { s with t:={ s.t with un:=TR.put s.t.un q L } } (μ.set (6+q) (vls (bw L))):=by
 have hl:=P.len
 refine⟨(aA (by omega)).trans P.h0,(aA (by omega)).trans P.h1,(aA (by omega)).trans P.h2,(aA (by omega)).trans P.h3,(aA (by omega)).trans P.h4,(aA (by omega)).trans P.hu,λp hp=>?_,(aA (by omega)).trans P.hh,(aA (by omega)).trans P.hd⟩
 show _=some (vls (bw (TR.put s.t.un q L p)))
 by_cases e:p=q
 ·subst e
  rw[TR.bv]
  exact cn (by omega)
 ·rw[TR.bK e]
  exact(aA (by omega)).trans (P.hc p hp)
theorem Rp.congr(P:Rp E s μ)(h1:s'.fl=s.fl)(h2:s'.t=s.t)(h3:∀x,x<=E.n->s'.tm x=s.tm x/\s'.dp x=s.dp x):Rp E s' μ:=by
 refine⟨P.h0,P.h1,by rw[h1];exact P.h2,?_,by rw[h2];exact P.h4,P.hu,by rw[h2];exact P.hc,by rw[h2];exact P.hh,?_⟩
 ·rw[P.h3,rg_congr (g:=λp=>.int (s'.tm p)) λk hk=>by rw[(h3 k (by omega)).1]]
 ·rw[P.hd,rg_congr (g:=λp=>.int (s'.dp p:Int)) λk hk=>by rw[(h3 k (by omega)).2]]
theorem allS_map{α:Type}{f:α->Option D}{g:α->D}:∀{l:List α},(∀x∈l,f x=some (g x))->cY (l.map f)=some (l.map g)
 | [],_=>rfl
 | x::l,h=>by
  rw[List.map_cons,h x List.mem_cons_self]
  show(cY (l.map f)).map (g x :: ·)=_
  rw[allS_map λy hy=>h y (List.mem_cons_of_mem _ hy)]
  rfl
theorem cw{f k:Nat}{ds:List D}(h:μ[k]?=some (vls ds)):lvN (f+1) μ (.h k)=some (.list ds):=by
 show(match μ[k]? with
   | some (.lst xs)=>(cY (xs.map (lvN f μ))).map PyData.list
   | some (.ins c fs)=>(cY ((fs.map Prod.snd).map (lvN f μ))).map λds=>iY c ((fs.map Prod.fst).zip ds)
   | _=>none)=_
 rw[h]
 show(cY ((ds.map Val.d).map (lvN f μ))).map PyData.list=_
 rw[List.map_map,allS_map (f:=lvN f μ∘Val.d) (g:=λx=>x) λx _=>bf,List.map_id']
 rfl
theorem Rp.tf(P:Rp E s μ):∃X,lvN 4 μ (.h 0)=some X/\Tf E s X:=by
 have hU:lvN 3 μ (.h (8+E.n))=some (.list ((List.range (E.n+1)).map λp=>PyData.list (bw (s.t.un p)))):=by
  show(match μ[8+E.n]? with
    | some (.lst xs)=>(cY (xs.map (lvN 2 μ))).map PyData.list
    | some (.ins c fs)=>(cY ((fs.map Prod.snd).map (lvN 2 μ))).map λds=>iY c ((fs.map Prod.fst).zip ds)
    | _=>none)=_
  rw[P.hu]
  show(cY (((List.range (E.n+1)).map λp=>Val.h (6+p)).map (lvN 2 μ))).map PyData.list=_
  rw[List.map_map,allS_map (f:=lvN 2 μ∘λp=>Val.h (6+p)) (g:=λp=>PyData.list (bw (s.t.un p))) (l:=List.range (E.n+1)) λp hp=>cw (P.hc p (by have:=List.mem_range.mp hp;omega))]
  rfl
 refine⟨tins (.int (E.m:Int)) (.list (E.rs.map rl)) (.list (rg E.rs.length λk=>.int (E.bd k))) (.list (rg E.rs.length λk=>.int (s.fl k))) (.list (rg (E.n+1) λp=>.int (s.tm p))) (.list (rg (E.n+1) λp=>ovD E.n (s.t.ov p) p)) (.list ((List.range (E.n+1)).map λp=>PyData.list (bw (s.t.un p)))) (.list (rg (E.n+1) λp=>ovD E.n (s.t.hk p) p)) (.list (rg (E.n+1) λp=>.int (s.dp p:Int))) (.int 0),?_,⟨fl_many _ _ _ _ _ _ _ _ _ _,fl_rules _ _ _ _ _ _ _ _ _ _,fl_bounds _ _ _ _ _ _ _ _ _ _,fl_flow _ _ _ _ _ _ _ _ _ _,fl_times _ _ _ _ _ _ _ _ _ _,fl_over _ _ _ _ _ _ _ _ _ _,fl_hooks _ _ _ _ _ _ _ _ _ _,fl_depths _ _ _ _ _ _ _ _ _ _,fl_begin _ _ _ _ _ _ _ _ _ _,_,at_t _ _ _ _ _ _ _ _ _ _,λm hm=>hm _ _ _ _ _ _ _ _ _ _⟩⟩
 show(match μ[0]? with
   | some (.lst xs)=>(cY (xs.map (lvN 3 μ))).map PyData.list
   | some (.ins c fs)=>(cY ((fs.map Prod.snd).map (lvN 3 μ))).map λds=>iY c ((fs.map Prod.fst).zip ds)
   | _=>none)=_
 rw[P.h0]
 show(cY [lvN 3 μ (.d _),lvN 3 μ (.d _),lvN 3 μ (.h 1),lvN 3 μ (.h 2),lvN 3 μ (.h 3),lvN 3 μ (.h 4),lvN 3 μ (.h (8+E.n)),lvN 3 μ (.h (9+E.n)),lvN 3 μ (.h (10+E.n)),lvN 3 μ (.d _)]).map _=_
 rw[bf,bf,bf,cw P.h1,cw P.h2,cw P.h3,cw P.h4,hU,cw P.hh,cw P.hd]
 rfl
theorem es_fld{δ:aq}{x:Str}{v:Val}(P:Rp E s μ)(h0:δ[0]?=some (some (.h 0)))(h:(tfs E).lookup x=some v):sAt "Tree" x (aN 0) δ μ=R.ret (v,μ):=es_at (aO h0) P.h0 h
theorem lk_times:(tfs E).lookup ("times" : Str)=some (.h 3):=rfl
theorem lk_over:(tfs E).lookup ("over" : Str)=some (.h 4):=rfl
theorem lk_flow:(tfs E).lookup ("flow" : Str)=some (.h 2):=rfl
theorem lk_under:(tfs E).lookup ("under" : Str)=some (.h (8+E.n)):=rfl
theorem lk_hooks:(tfs E).lookup ("hooks" : Str)=some (.h (9+E.n)):=rfl
theorem lk_depths:(tfs E).lookup ("depths" : Str)=some (.h (10+E.n)):=rfl
theorem atI_at{α:Type}{xs:List α}{k:Nat}{v:α}(h:xs[k]?=some v):L2.atI xs (k:Int)=some v:=by
 have hk:k<xs.length:=(List.getElem?_eq_some_iff.mp h).1
 unfold L2.atI
 rw[ixN_pt hk]
 exact h
theorem es_und{δ:aq}{fi:aq->Sto->R (Val×Sto)}{q:Nat}(P:Rp E s μ)(h0:δ[0]?=some (some (.h 0)))(hi:fi δ μ=R.ret (.d (.int (q:Int)),μ))(hq:q<=E.n):sIx (sAt "Tree" "under" (aN 0)) fi δ μ=R.ret (.h (6+q),μ):=by
 refine es_ix (es_fld P h0 lk_under) hi P.hu (atI_at ?_)
 rw[List.getElem?_map,List.getElem?_range (by omega)]
 rfl
theorem vset{L:Nat}{f:Nat->D}{k:Nat}{d:D}:((rg L f).map Val.d).set k (.d d)=(rg L (TR.put f k d)).map Val.d:=by rw[<-rg_set,List.map_set]
theorem es_setF{δ:aq}{fi f:aq->Sto->R (Val×Sto)}{n k L:Nat}{x:Str}{g:Nat->D}{d:D}{p:Nat}(P:Rp E s μ)(h0:δ[0]?=some (some (.h 0)))(hx:(tfs E).lookup x=some (.h k))(hk:μ[k]?=some (vls (rg L g)))(hi:fi δ μ=R.ret (.d (.int (p:Int)),μ))(hp:p<L)(hf:f δ μ=R.ret (.d d,μ)):sSetX (sAt "Tree" x (aN 0)) fi f n δ μ=R.ret (.nx δ (μ.set k (vls (rg L (TR.put g p d))))):=by
 unfold vls
 rw[<-vset]
 exact es_setX hf (es_fld P h0 hx) hi hk (by rw[List.length_map,rg_len];exact ixN_pt hp)
theorem put_int{f:Nat->Int}{p:Nat}{x:Int}:TR.put (λp=>PyData.int (f p)) p (.int x)=λq=>PyData.int (TR.put f p x q):=by
 funext q
 unfold TR.put
 split<;>rfl
theorem put_nat{f:Nat->Nat}{p x:Nat}:TR.put (λp=>PyData.int (f p:Int)) p (.int (x:Int))=λq=>PyData.int ((TR.put f p x q:Nat):Int):=by
 funext q
 unfold TR.put
 split<;>rfl
theorem put_ovD{n:Nat}{f:Nat->Nat}{p x:Nat}(hp:p<n):TR.put (λp=>ovD n (f p) p) p (.int (x:Int))=λq=>ovD n (TR.put f p x q) q:=by
 funext q
 unfold TR.put
 by_cases e:q=p
 ·rw[if_pos e,if_pos e,e,ovD,if_pos hp]
 ·rw[if_neg e,if_neg e]
end
end CT
open PySem PySem.Spec L2 DL SL
namespace CT
structure Nx(E:Tn)(P:Nat->Prop)(δ:Int)(d:Nat->Nat)(s1 s2:TR.St):Prop where
 t:s2.t=s1.t
 f:s2.fl=s1.fl
 i:∀x,x<=E.n->P x->s2.tm x=s1.tm x+δ/\s2.dp x=d x
 o:∀x,x<=E.n->¬P x->s2.tm x=s1.tm x/\s2.dp x=s1.dp x
section
variable{E:Tn}{s:TR.St}{μ:Sto}
theorem natD_app(a b:List Nat):bw (a++b)=bw a++bw b:=List.map_append
theorem gN(a:List Nat):(bw a).length=a.length:=List.length_map _
theorem lv_ix{p:Nat}{s:TR.St}(hp:p<E.n):oIx (.list (rg (E.n+1) λp=>ovD E.n (s.t.ov p) p)) (.int (p:Int))=some (.int (s.t.ov p:Int)):=by rw[dR (by omega),ind_D hp]
theorem sh_step(P:Rp E s μ){hp N p:Nat}{x:D}{δ:Int}{st:List D}(hhp:11+E.n<=hp)(hs:μ[hp]?=some (vls (st++[.int (p:Int)])))(hpn:p<E.n)(ho:s.t.ov p<=E.n)(hz:st.length+(s.t.un p).length<=1000000) :
  ∃μ2,dD N [some (.h 0),some (.d x),some (.d (.int δ)),some (.h hp)] μ=R.ret (.nx [some (.h 0),some (.d (.int (p:Int))),some (.d (.int δ)),some (.h hp)] μ2)/\μ2[hp]?=some (vls (st++bw (s.t.un p)))/\Rp E { s with tm:=TR.put s.tm p (s.tm p+δ),dp:=TR.put s.dp p (s.dp (s.t.ov p)+1) } μ2:=by
 have hl:hp<μ.length:=(List.getElem?_eq_some_iff.mp hs).1
 unfold dD
 obtain⟨μ1,h1⟩:∃μ1,μ1=μ.set hp (vls st):=⟨_,rfl⟩
 have P1:Rp E s μ1:=by rw[h1];exact P.setO hhp
 have e1:sPop (aN 3) [some (.h 0),some (.d x),some (.d (.int δ)),some (.h hp)] μ=R.ret (.d (.int (p:Int)),μ1):=by
  have:=es_pop (v:=.d (.int (p:Int))) (fo:=aN 3) (δ:=[some (.h 0),some (.d x),some (.d (.int δ)),some (.h hp)]) (aO rfl) hs (by
   rw[List.map_append,List.length_append]
   show(_++[Val.d (.int (p:Int))])[(st.map Val.d).length+1-1]?=_
   rw[Nat.add_sub_cancel,List.getElem?_append_right (Nat.le_refl _),Nat.sub_self]
   rfl)
  rw[this,h1]
  congr 3
  rw[List.map_append]
  show Ob.lst ((st.map Val.d)++[Val.d (.int (p:Int))]).dropLast=_
  rw[List.dropLast_concat]
 obtain⟨μ2,h2⟩:∃μ2,μ2=μ1.set 3 (vls (rg (E.n+1) λq=>.int (TR.put s.tm p (s.tm p+δ) q))):=⟨_,rfl⟩
 have P2:=P1.tm (TR.put s.tm p (s.tm p+δ))
 rw[<-h2] at P2
 have e2:sAugX (λi j=>i+j) (sAt "Tree" "times" (aN 0)) (aN 1) (aN 2) N [some (.h 0),some (.d (.int (p:Int))),some (.d (.int δ)),some (.h hp)] μ1=R.ret (.nx [some (.h 0),some (.d (.int (p:Int))),some (.d (.int δ)),some (.h hp)] μ2):=by
  have:=es_augX (h:=λi j=>i+j) (n:=N) (fo:=sAt "Tree" "times" (aN 0)) (fi:=aN 1) (f:=aN 2) (δ:=[some (.h 0),some (.d (.int (p:Int))),some (.d (.int δ)),some (.h hp)]) (es_fld P1 rfl lk_times) (aO rfl) P1.h3 (atI_at (k:=p) (v:=Val.d (.int (s.tm p))) (by rw[List.getElem?_map,rg_get (by omega)];rfl)) (aO rfl) P1.h3 (j:=p) (by rw[List.length_map,rg_len];exact ixN_pt (by omega))
  rw[this,vset,put_int,h2]
 obtain⟨X,hX,T⟩:=P2.tf
 obtain⟨μ3,h3⟩:∃μ3,μ3=μ2.set (10+E.n) (vls (rg (E.n+1) λq=>.int ((TR.put s.dp p (s.dp (s.t.ov p)+1) q:Nat):Int))):=⟨_,rfl⟩
 have P3:=P2.dp (TR.put s.dp p (s.dp (s.t.ov p)+1))
 rw[<-h3] at P3
 have e3:sSetX (sAt "Tree" "depths" (aN 0)) (aN 1) (bJ (d2 cO (d2 oIx (d1 (bg "Tree" "depths") (ad 0)) (d2 oIx (d1 (bg "Tree" "over") (ad 0)) (ad 1))) (dC (.int 1)))) N [some (.h 0),some (.d (.int (p:Int))),some (.d (.int δ)),some (.h hp)] μ2=R.ret (.nx [some (.h 0),some (.d (.int (p:Int))),some (.d (.int δ)),some (.h hp)] μ3):=by
  have:=es_setF (n:=N) (fi:=aN 1) (f:=bJ (d2 cO (d2 oIx (d1 (bg "Tree" "depths") (ad 0)) (d2 oIx (d1 (bg "Tree" "over") (ad 0)) (ad 1))) (dC (.int 1)))) (δ:=[some (.h 0),some (.d (.int (p:Int))),some (.d (.int δ)),some (.h hp)]) (d:=.int ((s.dp (s.t.ov p)+1:Nat):Int)) (p:=p) P2 rfl lk_depths P2.hd (aO rfl) (by omega) (bV (ak (ak (ci (ap rfl hX) T.depths) (ak (ci (ap rfl hX) T.over) (ap rfl bf) (lv_ix hpn)) (dR (by show s.t.ov p<E.n+1;omega))) ar eY) rfl)
  rw[this,put_nat,h3]
 have g3:μ3[hp]?=some (vls st):=by
  rw[h3,h2,h1,aA (by omega),aA (by omega)]
  exact cn hl
 refine⟨μ3.set hp (vls (st++bw (s.t.un p))),?_,cn (by rw[h3,h2,h1,List.length_set,List.length_set,List.length_set];exact hl),P3.setO hhp⟩
 refine aD (bA e1) (aD e2 (aD e3 ?_))
 have:=es_ext (fo:=aN 3) (f:=sIx (sAt "Tree" "under" (aN 0)) (aN 1)) (δ:=[some (.h 0),some (.d (.int (p:Int))),some (.d (.int δ)),some (.h hp)]) (aO rfl) g3 (es_und P3 rfl (aO rfl) (by omega:p<=E.n)) g3 (P3.hc p (by omega)) (aF (by rw[List.length_map,List.length_map,gN];show st.length+(s.t.un p).length<=_;omega))
 refine jb (v:=.d .none) ?_
 rw[this,<-List.map_append]
section
variable{d:Nat->Nat}{t:TR.Tr}{δ:Int}{hp N:Nat}
noncomputable abbrev shW(N:Nat)(δ:Int)(hp:Nat)(x:D)(μ:Sto):R OutS:=ek (sTestN (dTr (ad 3))) dD N [some (.h 0),some (.d x),some (.d (.int δ)),some (.h hp)] μ
theorem sh_test{x:D}{ds:List D}(h:μ[hp]?=some (vls ds)):sTestN (dTr (ad 3)) [some (.h 0),some (.d x),some (.d (.int δ)),some (.h hp)] μ=R.ret (!ds.isEmpty,μ):=by
 refine es_testN ?_
 unfold dTr
 rw[ap (i:=3) rfl (cw h)]
 show M.lift (truD (.list ds))=_
 cases ds<;>rfl
theorem sh_proc(T:TR.Tree E.n t.ov d)(U:TR.Und E.n t.ov t.un)(hn:E.n<=900)(hhp:11+E.n<=hp):∀(h p:Nat) (st:List D) (s:TR.St) (μ:Sto) (x:D),E.n<d p+h->p<E.n->s.t=t->Rp E s μ->μ[hp]?=some (vls (st++[.int (p:Int)]))->s.dp (t.ov p)=d (t.ov p)->st.length<=d p*E.n->∃s2 μ2 x2,Nx E (TR.sub t.ov p) δ d s s2/\Rp E s2 μ2/\μ2[hp]?=some (vls st)/\∀r,shW N δ hp x2 μ2=R.ret r->shW N δ hp x μ=R.ret r
 | 0,p,st,s,μ,x,hh,hpn,_,_,_,_,_=>by
  have:=T.dp_le (Nat.le_of_lt hpn)
  omega
 | h+1,p,st,s,μ,x,hh,hpn,ht,P,hs,hd,hz=>by
  obtain⟨o1,o2⟩:=T.d p hpn
  obtain⟨u1,u2⟩:=U p (Nat.le_of_lt hpn)
  have hul:(t.un p).length<=E.n:=TR.nodup_lt E.n _ u1 λy hy=>((u2 y).mp hy).1
  have hdn:=T.dp_le (Nat.le_of_lt hpn)
  have hzz:d p*E.n<=900*900:=Nat.mul_le_mul (by omega) hn
  obtain⟨μ1,e1,e2,P1⟩:=sh_step (N:=N) (x:=x) (δ:=δ) P hhp hs hpn (by rw[ht];exact o1) (by rw[ht];omega)
  rw[ht] at e2 P1
  have list:∀(M:List Nat) (s':TR.St) (μ':Sto) (x':D),M.Nodup->(∀c∈M,c∈t.un p)->s'.t=t->s'.dp p=d p->Rp E s' μ'->μ'[hp]?=some (vls (st++bw M.reverse))->∃s2 μ2 x2,Nx E (λy=>∃c∈M,TR.sub t.ov c y) δ d s' s2/\Rp E s2 μ2/\μ2[hp]?=some (vls st)/\∀r,shW N δ hp x2 μ2=R.ret r->shW N δ hp x' μ'=R.ret r:=by
   intro M
   induction M with
   | nil =>
    intro s' μ' x' _ _ _ _ P' hs'
    refine⟨s',μ',x',⟨rfl,rfl,(λy _ ⟨c,hc,_⟩=>nomatch hc),λy _ _=>⟨rfl,rfl⟩⟩,P',?_,λr h=>h⟩
    rw[hs',List.reverse_nil]
    show some (vls (st++[]))=_
    rw[List.append_nil]
   | cons c M ih =>
    intro s' μ' x' hnd hM ht' hdp P' hs'
    obtain⟨n1,n2⟩:=List.nodup_cons.mp hnd
    obtain⟨c1,c2⟩:=(u2 c).mp (hM c List.mem_cons_self)
    obtain⟨c3,c4⟩:=T.d c c1
    have hMl:M.length<=E.n:=TR.nodup_lt E.n _ n2 λy hy=>((u2 y).mp (hM y (List.mem_cons_of_mem _ hy))).1
    rw[List.reverse_cons,natD_app,<-List.append_assoc] at hs'
    obtain⟨s3,μ3,x3,X3,P3,g3,r3⟩:=sh_proc T U hn hhp h c (st++bw M.reverse) s' μ' x' (by rw[c2] at c4;omega) c1 ht' P' hs' (by rw[c2];exact hdp) (by
     rw[List.length_append,gN,List.length_reverse,c4,c2,Nat.succ_mul]
     omega)
    have npc:¬TR.sub t.ov c p:=λ⟨i,z⟩=>by
     have:=T.sub_dep (Nat.le_of_lt hpn) c1 z
     rw[c2] at c4
     omega
    obtain⟨s4,μ4,x4,X4,P4,g4,r4⟩:=ih s3 μ3 x3 n2 (λy hy=>hM y (List.mem_cons_of_mem _ hy)) (X3.t.trans ht') (by rw[(X3.o p (Nat.le_of_lt hpn) npc).2];exact hdp) P3 g3
    refine⟨s4,μ4,x4,⟨X4.t.trans X3.t,X4.f.trans X3.f,λy hy hq=>?_,λy hy hq=>?_⟩,P4,g4,λr h=>r3 r (r4 r h)⟩
    ·obtain⟨e,he,hq⟩:=hq
     by_cases hc:TR.sub t.ov c y
     ·have hno:¬∃c∈M,TR.sub t.ov c y:=λ⟨e,he,hq⟩=>by
       obtain⟨q1,q2⟩:=(u2 e).mp (hM e (List.mem_cons_of_mem _ he))
       have q3:=(T.d e q1).2
       rw[q2] at q3
       rw[c2] at c4
       have:=T.sub_disj hy c1 q1 (by omega) hc hq
       exact n1 (this▸he)
      obtain⟨w1,w2⟩:=X3.i y hy hc
      obtain⟨w3,w4⟩:=X4.o y hy hno
      exact⟨w3.trans w1,w4.trans w2⟩
     ·have he2:e∈M:=by
       rcases List.mem_cons.mp he with rfl | he
       ·exact absurd hq hc
       ·exact he
      obtain⟨w1,w2⟩:=X3.o y hy hc
      obtain⟨w3,w4⟩:=X4.i y hy ⟨e,he2,hq⟩
      exact⟨by rw[w3,w1],w4⟩
    ·obtain⟨w1,w2⟩:=X3.o y hy λz=>hq ⟨c,List.mem_cons_self,z⟩
     obtain⟨w3,w4⟩:=X4.o y hy λ⟨e,he,z⟩=>hq ⟨e,List.mem_cons_of_mem _ he,z⟩
     exact⟨w3.trans w1,w4.trans w2⟩
  obtain⟨s2,μ2,x2,X2,P2,g2,r2⟩:=list (t.un p).reverse ⟨s.fl,TR.put s.tm p (s.tm p+δ),t,TR.put s.dp p (s.dp (t.ov p)+1)⟩ μ1 (.int (p:Int)) (List.pairwise_reverse.mpr (u1.imp λh=>Ne.symm h)) (λc hc=>List.mem_reverse.mp hc) rfl (by show TR.put s.dp p (s.dp (t.ov p)+1) p=d p;rw[TR.bv,hd,o2]) P1 (by rw[List.reverse_reverse];exact e2)
  have npp:∀c∈(t.un p).reverse,¬TR.sub t.ov c p:=λc hc ⟨i,z⟩=>by
   obtain⟨c1,c2⟩:=(u2 c).mp (List.mem_reverse.mp hc)
   have:=T.sub_dep (Nat.le_of_lt hpn) c1 z
   have c4:=(T.d c c1).2
   rw[c2] at c4
   omega
  refine⟨s2,μ2,x2,⟨X2.t.trans ht.symm,X2.f,λy hy hq=>?_,λy hy hq=>?_⟩,P2,g2,λr hr=>?_⟩
  ·rcases (T.sub_iff U hpn hy).mp hq with rfl | ⟨c,hc,hq⟩
   ·obtain⟨w1,w2⟩:=X2.o y hy λ⟨c,hc,z⟩=>npp c hc z
    refine⟨w1.trans TR.bv,w2.trans ?_⟩
    show TR.put s.dp y (s.dp (t.ov y)+1) y=d y
    rw[TR.bv,hd,o2]
   ·have hne:y≠p:=λz=>npp c (List.mem_reverse.mpr hc) (z▸hq)
    obtain⟨w1,w2⟩:=X2.i y hy ⟨c,List.mem_reverse.mpr hc,hq⟩
    refine⟨w1.trans ?_,w2⟩
    show TR.put s.tm p (s.tm p+δ) y+δ=_
    rw[TR.bK hne]
  ·have hne:y≠p:=λz=>hq ((T.sub_iff U hpn hy).mpr (.inl z))
   obtain⟨w1,w2⟩:=X2.o y hy λ⟨c,hc,z⟩=>hq ((T.sub_iff U hpn hy).mpr (.inr ⟨c,List.mem_reverse.mp hc,z⟩))
   exact⟨w1.trans (TR.bK hne),w2.trans (TR.bK hne)⟩
  ·exact es_wht (by rw[sh_test hs];cases st<;>rfl) e1 (r2 r hr)
end
open Classical in
theorem shift_ev{d:Nat->Nat}{p:Nat}{δ:Int}(P:Rp E s μ)(T:TR.Tree E.n s.t.ov d)(U:TR.Und E.n s.t.ov s.t.un)(hn:E.n<=900)(hp:p<E.n)(hd:∀x,x<=E.n->¬TR.sub s.t.ov p x->s.dp x=d x):∃μ2,ed [.h 0,.d (.int (p:Int)),.d (.int δ)] μ=R.ret (.d .none,μ2)/\Rp E ⟨s.fl,TR.shf s.t.ov p δ s.tm,s.t,d⟩ μ2:=by
 have hl:=P.len
 obtain⟨o1,o2⟩:=T.d p hp
 have hno:¬TR.sub s.t.ov p (s.t.ov p):=λ⟨i,z⟩=>by
  have:=T.sub_dep o1 hp z
  omega
 have g:(μ++[vls [.int (p:Int)]])[μ.length]?=some (vls ([]++[.int (p:Int)])):=by rw[List.getElem?_append_right (Nat.le_refl _),Nat.sub_self];rfl
 obtain⟨s2,μ2,x2,X2,P2,g2,r2⟩:=sh_proc (N:=μ.length) (δ:=δ) (hp:=μ.length) T U hn (by omega) (E.n+1) p [] s (μ++[vls [.int (p:Int)]]) (.int (p:Int)) (by omega) hp rfl (P.app _) g (hd _ o1 hno) (Nat.zero_le _)
 refine⟨μ2,?_,P2.congr X2.f.symm X2.t.symm λx hx=>?_⟩
 ·refine es_runN (δ:=[some (.h 0),some (.d x2),some (.d (.int δ)),some (.h μ.length)]) ?_
  unfold gy
  refine aD (bA (gB (ds:=[.int (p:Int)]) (cg (af (ap rfl bf) ao) rfl) rfl)) ?_
  exact r2 _ (es_whf (sh_test g2))
 ·show TR.shf s.t.ov p δ s.tm x=s2.tm x/\d x=s2.dp x
  unfold TR.shf
  by_cases hs:TR.sub s.t.ov p x
  ·obtain⟨w1,w2⟩:=X2.i x hx hs
   rw[if_pos hs]
   exact⟨w1.symm,w2.symm⟩
  ·obtain⟨w1,w2⟩:=X2.o x hx hs
   rw[if_neg hs]
   exact⟨w1.symm,by rw[w2,hd x hx hs]⟩
end
end CT
open PySem PySem.Spec L2 DL SL
namespace CT
theorem erase_nat(p:Nat):∀L:List Nat,((L.map λq:Nat=>(q:Int)).eraseIdx ((L.map λq:Nat=>(q:Int)).idxOf (p:Int)))=(L.erase p).map λq:Nat=>(q:Int)
 | []=>rfl
 | q::L=>by
  rw[List.map_cons,List.idxOf_cons,List.erase_cons]
  by_cases e:q=p
  ·subst e
   rw[if_pos (beq_self_eq_true _)]
   simp
  ·have h1:((q:Int)==(p:Int))=false:=beq_eq_false_iff_ne.mpr λz=>e (by omega)
   have h2:(q==p)=false:=beq_eq_false_iff_ne.mpr e
   rw[h1,h2]
   simp only[cond_false,if_neg Bool.false_ne_true,List.eraseIdx_cons_succ,List.map_cons]
   rw[erase_nat p L]
theorem natV(L:List Nat):(bw L).map Val.d=(L.map λq:Nat=>(q:Int)).map λi=>Val.d (.int i):=by
 unfold bw
 rw[List.map_map,List.map_map]
 rfl
section
variable{E:Tn}{s:TR.St}{μ:Sto}
abbrev hgE(a1 a2 a3 a4 a5:D)(h6 h7 h8:Nat)(x9 x10:Option Val):aq:=[some (.h 0),some (.d a1),some (.d a2),some (.d a3),some (.d a4),some (.d a5),some (.h h6),some (.h h7),some (.h h8),x9,x10]
theorem hg_step(P:Rp E s μ){a1 a2 a3 a4 a5:D}{h6 h7 h8 N i p q r:Nat}{OL HL:List Nat}(g7:μ[h7]?=some (vls (bw HL)))(g8:μ[h8]?=some (vls (bw OL)))(l7:11+E.n<=h7)(l8:11+E.n<=h8)(hO:OL[i]?=some q)(hH:HL[i]?=some r)(hp:p<E.n)(ho:s.t.ov p<=E.n)(hq:q<=E.n)(hm:p∈s.t.un (s.t.ov p))(hz:∀x,x<=E.n->(s.t.un x).length<=E.n)(hn:E.n<=900) :
  ∃μ2,cz N (hgE a1 a2 a3 a4 a5 h6 h7 h8 (some (.d (.int (i:Int)))) (some (.d (.int (p:Int))))) μ=R.ret (.nx (hgE a1 a2 a3 a4 a5 h6 h7 h8 (some (.d (.int (i:Int)))) (some (.d (.int (p:Int))))) μ2)/\Rp E { s with t:=s.t.re p q r } μ2/\∀j,11+E.n<=j->μ2[j]?=μ[j]?:=by
 unfold cz
 obtain⟨δ,hδ⟩:∃δ,δ=hgE a1 a2 a3 a4 a5 h6 h7 h8 (some (.d (.int (i:Int)))) (some (.d (.int (p:Int)))):=⟨_,rfl⟩
 have d0:δ[0]?=some (some (.h 0)):=by rw[hδ];rfl
 have d7:δ[7]?=some (some (.h h7)):=by rw[hδ];rfl
 have d8:δ[8]?=some (some (.h h8)):=by rw[hδ];rfl
 have d9:δ[9]?=some (some (.d (.int (i:Int)))):=by rw[hδ];rfl
 have d10:δ[10]?=some (some (.d (.int (p:Int)))):=by rw[hδ];rfl
 rw[<-hδ]
 clear hδ
 obtain⟨X,hX,T⟩:=P.tf
 obtain⟨L1,hL1⟩:∃L1,L1=(s.t.un (s.t.ov p)).erase p:=⟨_,rfl⟩
 obtain⟨μ1,h1⟩:∃μ1,μ1=μ.set (6+s.t.ov p) (vls (bw L1)):=⟨_,rfl⟩
 have P1:=P.un ho L1
 rw[<-h1] at P1
 have e1:sRem (sIx (sAt "Tree" "under" (aN 0)) (bJ (d2 oIx (d1 (bg "Tree" "over") (ad 0)) (ad 10)))) (aN 10) δ μ=R.ret (.d .none,μ1):=by
  have hc:=P.hc _ ho
  unfold vls at hc
  rw[natV] at hc
  have:=es_rem (fo:=sIx (sAt "Tree" "under" (aN 0)) (bJ (d2 oIx (d1 (bg "Tree" "over") (ad 0)) (ad 10)))) (f:=aN 10) (es_und P d0 (bV (ak (ci (ap d0 hX) T.over) (ap d10 bf) (lv_ix hp)) rfl) ho) hc (aO d10) hc (List.mem_map_of_mem (f:=λq:Nat=>(q:Int)) hm)
  rw[this,erase_nat,<-natV,h1,hL1]
 obtain⟨X1,hX1,T1⟩:=P1.tf
 have g8':μ1[h8]?=some (vls (bw OL)):=by rw[h1,aA (by omega)];exact g8
 have iq:oIx (.list (bw OL)) (.int (i:Int))=some (.int (q:Int)):=ix_at (by unfold bw;rw[List.getElem?_map,hO];rfl)
 have ir:oIx (.list (bw HL)) (.int (i:Int))=some (.int (r:Int)):=ix_at (by unfold bw;rw[List.getElem?_map,hH];rfl)
 obtain⟨u1,hu1⟩:∃u1,u1=TR.put s.t.un (s.t.ov p) L1:=⟨_,rfl⟩
 rw[<-hu1] at P1
 have hlen:(u1 q).length<=E.n:=by
  rw[hu1]
  by_cases e:q=s.t.ov p
  ·rw[e,TR.bv,hL1]
   have:=List.length_erase_le (a:=p) (l:=s.t.un (s.t.ov p))
   have:=hz _ ho
   omega
  ·rw[TR.bK e];exact hz q hq
 obtain⟨μ2,h2⟩:∃μ2,μ2=μ1.set (6+q) (vls (bw (u1 q++[p]))):=⟨_,rfl⟩
 have P2:=P1.un hq (u1 q++[p])
 rw[<-h2] at P2
 have e2:sApp (sIx (sAt "Tree" "under" (aN 0)) (bJ (d2 oIx (ad 8) (ad 9)))) (aN 10) δ μ1=R.ret (.d .none,μ2):=by
  have hc:=P1.hc q hq
  have:=es_app (fo:=sIx (sAt "Tree" "under" (aN 0)) (bJ (d2 oIx (ad 8) (ad 9)))) (f:=aN 10) (es_und P1 d0 (bV (ak (ap d8 (cw g8')) (ap d9 bf) iq) rfl) hq) hc (aO d10) hc (aF (by rw[List.length_map,gN];show(u1 q).length+1<=_;omega))
  rw[this,h2,natD_app,vls,List.map_append]
  rfl
 have g8'':μ2[h8]?=some (vls (bw OL)):=by rw[h2,aA (by omega)];exact g8'
 obtain⟨μ3,h3⟩:∃μ3,μ3=μ2.set 4 (vls (rg (E.n+1) λy=>ovD E.n (TR.put s.t.ov p q y) y)):=⟨_,rfl⟩
 have P3:=P2.ov (TR.put s.t.ov p q)
 rw[<-h3] at P3
 have e3:sSetX (sAt "Tree" "over" (aN 0)) (aN 10) (bJ (d2 oIx (ad 8) (ad 9))) N δ μ2=R.ret (.nx δ μ3):=by
  have:=es_setF (n:=N) (d:=.int (q:Int)) (f:=bJ (d2 oIx (ad 8) (ad 9))) P2 d0 lk_over P2.h4 (aO d10) (by omega) (bV (ak (ap d8 (cw g8'')) (ap d9 bf) iq) rfl)
  rw[this,h3,put_ovD hp]
 have g7':μ3[h7]?=some (vls (bw HL)):=by rw[h3,h2,h1,aA (by omega),aA (by omega),aA (by omega)];exact g7
 obtain⟨μ4,h4⟩:∃μ4,μ4=μ3.set (9+E.n) (vls (rg (E.n+1) λy=>ovD E.n (TR.put s.t.hk p r y) y)):=⟨_,rfl⟩
 have P4:=P3.hk (TR.put s.t.hk p r)
 rw[<-h4] at P4
 have e4:sSetX (sAt "Tree" "hooks" (aN 0)) (aN 10) (bJ (d2 oIx (ad 7) (ad 9))) N δ μ3=R.ret (.nx δ μ4):=by
  have:=es_setF (n:=N) (d:=.int (r:Int)) (f:=bJ (d2 oIx (ad 7) (ad 9))) P3 d0 lk_hooks P3.hh (aO d10) (by omega) (bV (ak (ap d7 (cw g7')) (ap d9 bf) ir) rfl)
  rw[this,h4,put_ovD hp]
 refine⟨μ4,aD (jb e1) (aD (jb e2) (aD e3 e4)),?_,λj hj=>?_⟩
 ·have:(s.t.re p q r:TR.Tr)=⟨TR.put s.t.ov p q,TR.put s.t.hk p r,TR.put u1 q (u1 q++[p])⟩:=by rw[hu1,hL1];rfl
  rw[this]
  exact P4
 ·rw[h4,h3,h2,h1,aA (by omega),aA (by omega),aA (by omega),aA (by omega)]
theorem und_len{n:Nat}{ov:Nat->Nat}{un:Nat->List Nat}(U:TR.Und n ov un):∀x,x<=n->(un x).length<=n:=λx hx=>TR.nodup_lt n _ (U x hx).1 λy hy=>(((U x hx).2 y).mp hy).1
theorem hg_loop{a1 a2 a3 a4 a5:D}{h6 h7 h8 N:Nat}{OL HL:List Nat}{xs:List Val}(l6:11+E.n<=h6)(l7:11+E.n<=h7)(l8:11+E.n<=h8)(hn:E.n<=900):∀(j p q r i:Nat) (s:TR.St) (μ:Sto) (x9 x10:Option Val),TR.Rv E.net j p q r s.t->Rp E s μ->μ[h6]?=some (.lst xs)->μ[h7]?=some (vls (bw HL))->μ[h8]?=some (vls (bw OL))->OL.drop i=q::TR.aC s.t.ov j p->HL.drop i=r::(TR.aC s.t.ov j p).map s.t.hk->∃μ2 y9 y10,dr h6 xs (agTup 2 (fz (agN 9) (fz (agN 10) agNil))) (cz N) (cb i (bw (TR.aC s.t.ov j p))) (hgE a1 a2 a3 a4 a5 h6 h7 h8 x9 x10) μ=R.ret (.nx (hgE a1 a2 a3 a4 a5 h6 h7 h8 y9 y10) μ2)/\Rp E { s with t:=TR.eX j p q r s.t } μ2
 | 0,p,q,r,i,s,μ,x9,x10,R,P,g6,g7,g8,hO,hH=>⟨μ,x9,x10,forTI_nil g6,P⟩
 | j+1,p,q,r,i,s,μ,x9,x10,Rv,P,g6,g7,g8,hO,hH=>by
  have hp:=Rv.p_lt
  obtain⟨dp,T,hj⟩:=Rv.tr
  obtain⟨o1,o2⟩:=T.d p hp
  have hO1:OL[i]?=some q:=by
   have:=congrArg List.head? hO
   rw[List.head?_drop] at this
   exact this
  have hH1:HL[i]?=some r:=by
   have:=congrArg List.head? hH
   rw[List.head?_drop] at this
   exact this
  have hO2:OL.drop (i+1)=TR.aC s.t.ov (j+1) p:=by
   rw[<-List.drop_drop,hO]
   rfl
  have hH2:HL.drop (i+1)=(TR.aC s.t.ov (j+1) p).map s.t.hk:=by
   rw[<-List.drop_drop,hH]
   rfl
  have hw:TR.aC (TR.put s.t.ov p q) j (s.t.ov p)=TR.aC s.t.ov j (s.t.ov p):=TR.fC Rv.not_in
  obtain⟨μ1,e1,P1,k1⟩:=hg_step (N:=N) (a1:=a1) (a2:=a2) (a3:=a3) (a4:=a4) (a5:=a5) (h6:=h6) P g7 g8 l7 l8 hO1 hH1 hp o1 Rv.lq (((Rv.un _ o1).2 p).mpr ⟨hp,rfl⟩) (und_len Rv.un) hn
  obtain⟨μ2,y9,y10,e2,P2⟩:=hg_loop l6 l7 l8 hn j (s.t.ov p) p (s.t.hk p) (i+1) { s with t:=s.t.re p q r } μ1 (some (.d (.int (i:Int)))) (some (.d (.int (p:Int)))) Rv.next P1 ((k1 _ l6).trans g6) ((k1 _ l7).trans g7) ((k1 _ l8).trans g8) (by
   show _=p::TR.aC (TR.put s.t.ov p q) j (s.t.ov p)
   rw[hw,hO2]
   rfl) (by
   show _=s.t.hk p::(TR.aC (TR.put s.t.ov p q) j (s.t.ov p)).map (TR.put s.t.hk p r)
   rw[hw,hH2]
   show s.t.hk p::(TR.aC s.t.ov j (s.t.ov p)).map s.t.hk=_
   congr 1
   exact List.map_congr_left λy hy=>(TR.bK (f:=s.t.hk) (i:=p) (j:=y) (x:=r) λz=>Rv.not_in (by have w:=hy;rw[z] at w;exact w)).symm)
  have e2:dr h6 xs (agTup 2 (fz (agN 9) (fz (agN 10) agNil))) (cz N) (cb (i+1) (bw (TR.aC (TR.put s.t.ov p q) j (s.t.ov p)))) (hgE a1 a2 a3 a4 a5 h6 h7 h8 (some (.d (.int (i:Int)))) (some (.d (.int (p:Int))))) μ1=R.ret (.nx (hgE a1 a2 a3 a4 a5 h6 h7 h8 y9 y10) μ2):=e2
  rw[hw] at e2
  exact⟨μ2,y9,y10,fq (δ1:=hgE a1 a2 a3 a4 a5 h6 h7 h8 (some (.d (.int (i:Int)))) (some (.d (.int (p:Int))))) g6 rfl e1 e2,P2⟩
end
end CT
open PySem PySem.Spec L2 DL SL
namespace CT
section
variable{E:Tn}{s:TR.St}{μ:Sto}
def Fla(E:Tn):Prop:=∀k,k<E.rs.length->bM (rl (E.r k))=true
theorem hooks_comp{X:D}(T:Tf E s X):∀(L:List Nat) (x:Sl),(∀q∈L,q<E.n)->bZ (tgN 0) (nX er) (nX (d2 oIx (d1 (bg "Tree" "hooks") (ad 1)) (ad 0))) (bw L) [x,.vl X]=M.ret (bw (L.map s.t.hk))
 | [],x,_=>rfl
 | q::L,x,h=>dw (δ':=[.vl (.int (q:Int)),.vl X]) rfl (ak (ci (ac rfl) T.hooks) (ac rfl) (by rw[dR (by have:=h q List.mem_cons_self;omega),ind_D (h q List.mem_cons_self)])) (hooks_comp T L _ λy hy=>h y (List.mem_cons_of_mem _ hy))
theorem hang_ev(I:TR.Inv E.net s){k i p q:Nat}{fl:Nat->Int}(h:TR.Hg E.net s k i p q fl)(P:Rp E { s with fl:=fl } μ)(hP:Pin E)(hf:Fla E)(hn:E.n<=900):∃μ2 d,cU [.h 0,.d (.int (TR.upN s.t.ov i p:Int)),.d (.int (p:Int)),.d (.int (k:Int))] μ=R.ret (.d .none,μ2)/\Rp E ⟨fl,TR.shf (TR.eX (i+1) p q k s.t).ov p (TR.dlt E.net s k p) s.tm,TR.eX (i+1) p q k s.t,d⟩ μ2/\TR.Inv E.net ⟨fl,TR.shf (TR.eX (i+1) p q k s.t).ov p (TR.dlt E.net s k p) s.tm,TR.eX (i+1) p q k s.t,d⟩/\p<E.n:=by
 have hk:k<E.rs.length:=h.km
 have Rv:=h.rv I
 obtain⟨d,T',U',I',hp⟩:=h.inv I
 have hp:p<E.n:=hp
 have hid:i<s.dp p:=h.id
 have Tr:TR.Tree E.n s.t.ov s.dp:=I.tr
 have hx:TR.upN s.t.ov i p<E.n:=by
  obtain⟨z1,z2⟩:=Tr.up i (Nat.le_of_lt hp) (by omega)
  exact Tr.pos z1 (by omega)
 have hL:∀y∈TR.aC s.t.ov (i+1) p,y<E.n:=λy hy=>(Tr.inway (Nat.le_of_lt hp) (by omega) hy).1
 have hLl:(TR.aC s.t.ov (i+1) p).length<=900:=by rw[TR.iO];have:=Tr.dp_le (Nat.le_of_lt hp);omega
 have hpq:p≠q:=λz=>h.cl 0 (by show q∈_;rw[<-z];exact List.mem_cons_self)
 obtain⟨la,hla⟩:∃la,la=TR.lack E.net s.tm k:=⟨_,rfl⟩
 obtain⟨X,hX,T⟩:=P.tf
 have hlk:=lack_ev T hP hk
 have hlk:bC [X,.int (k:Int)]=M.ret (.int la):=by rw[hla];exact hlk
 have hw:=way_new_ev (k:=i+1) (p:=p) T Tr (Nat.le_of_lt hp) (show i+1<=s.dp p by omega) hn rfl
 have hov:oIx (.list (rg (E.n+1) λy=>ovD E.n (s.t.ov y) y)) (.int (TR.upN s.t.ov i p:Int))=some (.int (TR.upN s.t.ov (i+1) p:Int)):=by rw[TR.dY];exact lv_ix hx
 have hl:=P.len
 obtain⟨W,hW⟩:∃W,W=TR.aC s.t.ov (i+1) p:=⟨_,rfl⟩
 rw[<-hW] at hw hL hLl
 obtain⟨μ1,h1⟩:∃μ1,μ1=μ++[vls (bw W)]:=⟨_,rfl⟩
 have P1:Rp E { s with fl:=fl } μ1:=by rw[h1];exact P.app _
 have m1:μ1.length=μ.length+1:=by rw[h1,List.length_append];rfl
 have g1:μ1[μ.length]?=some (vls (bw W)):=by rw[h1,List.getElem?_append_right (Nat.le_refl _),Nat.sub_self];rfl
 obtain⟨X1,hX1,T1⟩:=P1.tf
 obtain⟨HL,hHL⟩:∃HL:List Nat,HL=k::W.map s.t.hk:=⟨_,rfl⟩
 obtain⟨OL,hOL⟩:∃OL:List Nat,OL=q::W:=⟨_,rfl⟩
 obtain⟨μ2,h2⟩:∃μ2,μ2=μ1++[vls (bw HL)]:=⟨_,rfl⟩
 have P2:Rp E { s with fl:=fl } μ2:=by rw[h2];exact P1.app _
 have m2:μ2.length=μ.length+2:=by rw[h2,List.length_append,m1];rfl
 have g2:μ2[μ.length+1]?=some (vls (bw HL)):=by rw[h2,<-m1,List.getElem?_append_right (Nat.le_refl _),Nat.sub_self];rfl
 have g21:μ2[μ.length]?=some (vls (bw W)):=by rw[h2,List.getElem?_append_left (by omega)];exact g1
 obtain⟨μ3,h3⟩:∃μ3,μ3=μ2++[vls (bw OL)]:=⟨_,rfl⟩
 have P3:Rp E { s with fl:=fl } μ3:=by rw[h3];exact P2.app _
 have g3:μ3[μ.length+2]?=some (vls (bw OL)):=by rw[h3,<-m2,List.getElem?_append_right (Nat.le_refl _),Nat.sub_self];rfl
 have g32:μ3[μ.length+1]?=some (vls (bw HL)):=by rw[h3,List.getElem?_append_left (by omega)];exact g2
 have g31:μ3[μ.length]?=some (vls (bw W)):=by rw[h3,List.getElem?_append_left (by omega)];exact g21
 obtain⟨μ4,y9,y10,e4,P4⟩:=hg_loop (a1:=.int (TR.upN s.t.ov i p:Int)) (a2:=.int (p:Int)) (a3:=.int (k:Int)) (a4:=rl (E.r k)) (a5:=.int la) (h6:=μ.length) (h7:=μ.length+1) (h8:=μ.length+2) (N:=μ.length) (OL:=OL) (HL:=HL) (by omega) (by omega) (by omega) hn (i+1) p q k 0 { s with fl:=fl } μ3 none none Rv P3 g31 g32 g3 (by rw[hOL,hW];rfl) (by rw[hHL,hW];rfl)
 have e4:dr μ.length ((bw W).map Val.d) (agTup 2 (fz (agN 9) (fz (agN 10) agNil))) (cz μ.length) (cb 0 (bw (TR.aC s.t.ov (i+1) p))) (hgE (.int (TR.upN s.t.ov i p:Int)) (.int (p:Int)) (.int (k:Int)) (rl (E.r k)) (.int la) μ.length (μ.length+1) (μ.length+2) none none) μ3=R.ret (.nx (hgE (.int (TR.upN s.t.ov i p:Int)) (.int (p:Int)) (.int (k:Int)) (rl (E.r k)) (.int la) μ.length (μ.length+1) (μ.length+2) y9 y10) μ4):=e4
 rw[<-hW] at e4
 obtain⟨dl,hdl⟩:∃dl,dl=TR.dlt E.net s k p:=⟨_,rfl⟩
 obtain⟨μ5,e5,P5⟩:=shift_ev (d:=d) (p:=p) (δ:=dl) P4 T' U' hn hp λx hx hs=>h.dep I T' _ x rfl hx hs
 refine⟨μ5,d,?_,by rw[<-hdl];exact P5,I',hp⟩
 refine es_runN (δ:=hgE (.int (TR.upN s.t.ov i p:Int)) (.int (p:Int)) (.int (k:Int)) (rl (E.r k)) (.int la) μ.length (μ.length+1) (μ.length+2) y9 y10) ?_
 unfold ic
 refine aD (bA (bV (ak (ci (ap rfl hX) T.rules) (ap rfl bf) (ix_rs hk)) (hf k hk))) ?_
 refine aD (bA (bV (cG T nf_lack (ap rfl hX) (af (ap rfl bf) ao) hlk) rfl)) ?_
 refine aD (bA (es_newFN (ds:=bw W) (cG T nf_way (ap rfl hX) (af (ap rfl bf) (af (ak (ci (ap rfl hX) T.over) (ap rfl bf) hov) ao)) hw) (nat_flat W))) ?_
 rw[show μ++[Ob.lst ((bw W).map Val.d)]=μ1 from h1.symm]
 refine aD (bA (gB (ds:=bw HL) ?_ (nat_flat HL))) ?_
 ·rw[hHL]
  refine gA (xs:=[.int (k:Int)]) (ft (cg (af (ap rfl bf) ao) rfl)) (cH (ds:=bw W) (fv (ap rfl (cw g1)) rfl) (aF (by rw[gN];omega)) ?_) (aF (by show 1+(List.map _ (List.map _ W)).length<=16000000;rw[List.length_map,List.length_map];omega))
  show bZ _ _ _ _ [Sl.un,_]=_
  rw[slotN rfl hX1]
  exact hooks_comp T1 W _ hL
 rw[show μ1++[Ob.lst ((bw HL).map Val.d)]=μ2 from h2.symm,m1]
 refine aD (bA (gB (ds:=bw OL) ?_ (nat_flat OL))) ?_
 ·rw[hOL]
  refine gA (xs:=[.int (q:Int)]) (ys:=bw W) (ft (cg (af (ev_if (bj (ak (ak (ap rfl bf) ar (gO _)) (ap rfl bf) o_eq)) ?_) ao) rfl)) (ap rfl (cw g21)) (aF (by rw[gN];show 1+W.length<=_;omega))
  rcases h.jn with ⟨z1,z2⟩ | ⟨z1,z2⟩
  ·have z1:(E.r k).lo=p:=z1
   have z2:(E.r k).hi=q:=z2
   rw[<-z2]
   exact ite_t (by omega) (ak (ap rfl bf) ar (fX _))
  ·have z2:(E.r k).lo=q:=z2
   rw[<-z2]
   exact ite_f (by omega) (ak (ap rfl bf) ar (gO _))
 rw[show μ2++[Ob.lst ((bw OL).map Val.d)]=μ3 from h3.symm,m2]
 refine aD (es_forTI (ds:=bw W) (aO rfl) g31 e4) ?_
 refine jb (v:=.d .none) (es_met (xs:=[.d (.int (p:Int)),.d (.int dl)]) (aO rfl) P4.h0 rfl (cE (aO rfl) (cE (bP (ev_if (bj (ak (ak (ac rfl) ar (fX _)) (ac rfl) o_eq)) ?_)) gQ)) e5)
 rw[hdl]
 unfold TR.dlt
 show _=M.ret (PyData.int (if (E.r k).hi=p then TR.lack E.net s.tm k else -TR.lack E.net s.tm k))
 rw[<-hla]
 by_cases z:(E.r k).hi=p
 ·rw[if_pos z]
  exact ite_t (by omega) (ac rfl)
 ·rw[if_neg z]
  exact ite_f (by omega) (ci (ac rfl) rfl)
end
end CT
open PySem PySem.Spec L2 DL SL
namespace CT
section
variable{E:Tn}{s:TR.St}{μ:Sto}
def sdD(E:Tn)(s:TR.St)(q:Nat):D:=.tuple [.int (q:Int),.int (s.t.hk q:Int),.bool (decide ((E.r (s.t.hk q)).hi=q))]
def suD(E:Tn)(s:TR.St)(q:Nat):D:=.tuple [.int (q:Int),.int (s.t.hk q:Int),.bool (decide ((E.r (s.t.hk q)).lo=q))]
theorem dn_comp{X:D}(T:Tf E s X):∀(L:List Nat) (x:Sl),(∀q∈L,q<E.n/\s.t.hk q<E.rs.length)->bZ (tgN 0) (nX er) (nX (dMe "Tree" "step_down" (λds=>noX (b8 ds)) (ad 1) (ag (ad 0) aw))) (bw L) [x,.vl X]=M.ret (L.map (sdD E s))
 | [],x,_=>rfl
 | q::L,x,h=>dw (δ':=[.vl (.int (q:Int)),.vl X]) rfl (cG T nf_down (ac rfl) (af (ac rfl) ao) (sdn_ev T (h q List.mem_cons_self).1 (h q List.mem_cons_self).2)) (dn_comp T L _ λy hy=>h y (List.mem_cons_of_mem _ hy))
theorem up_comp{X:D}(T:Tf E s X):∀(L:List Nat) (x:Sl),(∀q∈L,q<E.n/\s.t.hk q<E.rs.length)->bZ (tgN 0) (nX er) (nX (dMe "Tree" "step_up" (λds=>noX (cM ds)) (ad 1) (ag (ad 0) aw))) (bw L) [x,.vl X]=M.ret (L.map (suD E s))
 | [],x,_=>rfl
 | q::L,x,h=>dw (δ':=[.vl (.int (q:Int)),.vl X]) rfl (cG T nf_up (ac rfl) (af (ac rfl) ao) (sup_ev T (h q List.mem_cons_self).1 (h q List.mem_cons_self).2)) (up_comp T L _ λy hy=>h y (List.mem_cons_of_mem _ hy))
theorem sd_flat(L:List Nat):aM (L.map (sdD E s))=true:=by
 induction L with
 | nil=>rfl
 | cons a L ih=>exact ih
theorem su_flat(L:List Nat):aM (L.map (suD E s))=true:=by
 induction L with
 | nil=>rfl
 | cons a L ih=>exact ih
abbrev mdE(k:Nat)(a2:D)(mo:Bool)(tl hd tp:Nat)(h7 h8:Nat)(A:Int)(lv:D)(x11:Option Val):aq:=[some (.h 0),some (.d (.int (k:Int))),some (.d a2),some (.d (.bool mo)),some (.d (.int (tl:Int))),some (.d (.int (hd:Int))),some (.d (.int (tp:Int))),some (.h h7),some (.h h8),some (.d (.int A)),some (.d lv),x11]
def lvT(l0:D)(e:Nat):Option Nat->D
 | none=>l0
 | some x=>.tuple [.int (x:Int),.int (e:Int)]
variable{k tl hd tp h7 h8 N:Nat}{a2:D}{mo:Bool}
theorem md_loop0(P:Rp E s μ){xs:List Val}(g7:μ[h7]?=some (.lst xs)){rm:Nat->Int}{l0:D}:∀(L:List Nat) (A:Int) (l:Option Nat) (x11:Option Val),(∀q∈L,s.t.hk q<E.rs.length/\(if decide ((E.r (s.t.hk q)).hi=q)=true then E.bd (s.t.hk q)-s.fl (s.t.hk q) else s.fl (s.t.hk q))=rm q)->∃y11,dr h7 xs (agN 11) (d5 N) (L.map (sdD E s)) (mdE k a2 mo tl hd tp h7 h8 A (lvT l0 tl l) x11) μ=R.ret (.nx (mdE k a2 mo tl hd tp h7 h8 (TR.chD rm L A l).1 (lvT l0 tl (TR.chD rm L A l).2) y11) μ)
 | [],A,l,x11,_=>⟨x11,forTI_nil g7⟩
 | q::L,A,l,x11,h=>by
  obtain⟨X,hX,T⟩:=P.tf
  obtain⟨hk,hr⟩:=h q List.mem_cons_self
  have hro:=room_ev T hk (.int (q:Int)) (decide ((E.r (s.t.hk q)).hi=q))
  rw[hr] at hro
  have hro:b5 [X,sdD E s q]=M.ret (.int (rm q)):=hro
  have hL:=λy hy=>h y (List.mem_cons_of_mem _ hy)
  by_cases c:rm q<A
  ·obtain⟨y11,e⟩:=md_loop0 P g7 (rm:=rm) (l0:=l0) L (rm q) (some q) (some (.d (sdD E s q))) hL
   refine⟨y11,?_⟩
   rw[TR.chD,if_pos c,List.map_cons]
   refine fq (δ1:=mdE k a2 mo tl hd tp h7 h8 A (lvT l0 tl l) (some (.d (sdD E s q)))) (δ':=mdE k a2 mo tl hd tp h7 h8 (rm q) (lvT l0 tl (some q)) (some (.d (sdD E s q)))) g7 rfl ?_ e
   unfold d5
   refine ig (es_testN (bj (ak (cG T nf_room (ap rfl hX) (af (ap rfl bf) ao) hro) (ap rfl bf) o_lt))) (ite_t c ?_)
   refine aD (bA (bV (cG T nf_room (ap rfl hX) (af (ap rfl bf) ao) hro) rfl)) ?_
   exact bA (bP (du (af (ak (x:=sdD E s q) (ac rfl) ar rfl) (af (ac rfl) ao)) rfl))
  ·obtain⟨y11,e⟩:=md_loop0 P g7 (rm:=rm) (l0:=l0) L A l (some (.d (sdD E s q))) hL
   refine⟨y11,?_⟩
   rw[TR.chD,if_neg c,List.map_cons]
   refine fq (δ1:=mdE k a2 mo tl hd tp h7 h8 A (lvT l0 tl l) (some (.d (sdD E s q)))) (δ':=mdE k a2 mo tl hd tp h7 h8 A (lvT l0 tl l) (some (.d (sdD E s q)))) g7 rfl ?_ e
   unfold d5
   exact ig (es_testN (bj (ak (cG T nf_room (ap rfl hX) (af (ap rfl bf) ao) hro) (ap rfl bf) o_lt))) (ite_f c rfl)
theorem md_loop1(P:Rp E s μ){xs:List Val}(g8:μ[h8]?=some (.lst xs)){rm:Nat->Int}{l0:D}:∀(L:List Nat) (A:Int) (l:Option Nat) (x11:Option Val),(∀q∈L,s.t.hk q<E.rs.length/\(if decide ((E.r (s.t.hk q)).lo=q)=true then E.bd (s.t.hk q)-s.fl (s.t.hk q) else s.fl (s.t.hk q))=rm q)->∃y11,dr h8 xs (agN 11) (d4 N) (L.map (suD E s)) (mdE k a2 mo tl hd tp h7 h8 A (lvT l0 hd l) x11) μ=R.ret (.nx (mdE k a2 mo tl hd tp h7 h8 (TR.chU rm L A l).1 (lvT l0 hd (TR.chU rm L A l).2) y11) μ)
 | [],A,l,x11,_=>⟨x11,forTI_nil g8⟩
 | q::L,A,l,x11,h=>by
  obtain⟨X,hX,T⟩:=P.tf
  obtain⟨hk,hr⟩:=h q List.mem_cons_self
  have hro:=room_ev T hk (.int (q:Int)) (decide ((E.r (s.t.hk q)).lo=q))
  rw[hr] at hro
  have hro:b5 [X,suD E s q]=M.ret (.int (rm q)):=hro
  have hL:=λy hy=>h y (List.mem_cons_of_mem _ hy)
  have oleD:∀a b:Int,oLeD (.int a) (.int b)=some (.bool (decide (a<=b))):=λ_ _=>rfl
  by_cases c:rm q<=A
  ·obtain⟨y11,e⟩:=md_loop1 P g8 (rm:=rm) (l0:=l0) L (rm q) (some q) (some (.d (suD E s q))) hL
   refine⟨y11,?_⟩
   rw[TR.chU,if_pos c,List.map_cons]
   refine fq (δ1:=mdE k a2 mo tl hd tp h7 h8 A (lvT l0 hd l) (some (.d (suD E s q)))) (δ':=mdE k a2 mo tl hd tp h7 h8 (rm q) (lvT l0 hd (some q)) (some (.d (suD E s q)))) g8 rfl ?_ e
   unfold d4
   refine ig (es_testN (bj (ak (cG T nf_room (ap rfl hX) (af (ap rfl bf) ao) hro) (ap rfl bf) (oleD _ _)))) (ite_t c ?_)
   refine aD (bA (bV (cG T nf_room (ap rfl hX) (af (ap rfl bf) ao) hro) rfl)) ?_
   exact bA (bP (du (af (ak (x:=suD E s q) (ac rfl) ar rfl) (af (ac rfl) ao)) rfl))
  ·obtain⟨y11,e⟩:=md_loop1 P g8 (rm:=rm) (l0:=l0) L A l (some (.d (suD E s q))) hL
   refine⟨y11,?_⟩
   rw[TR.chU,if_neg c,List.map_cons]
   refine fq (δ1:=mdE k a2 mo tl hd tp h7 h8 A (lvT l0 hd l) (some (.d (suD E s q)))) (δ':=mdE k a2 mo tl hd tp h7 h8 A (lvT l0 hd l) (some (.d (suD E s q)))) g8 rfl ?_ e
   unfold d4
   exact ig (es_testN (bj (ak (cG T nf_room (ap rfl hX) (af (ap rfl bf) ao) hro) (ap rfl bf) (oleD _ _)))) (ite_f c rfl)
def spD(x:D×Nat×Bool):D:=.tuple [x.1,.int (x.2.1:Int),.bool x.2.2]
theorem md_loop2{hp:Nat}{xs:List Val}(hhp:11+E.n<=hp){A:Int}{lv:D}:∀(L:List (D×Nat×Bool)) (s:TR.St) (μ:Sto) (x11:Option Val),Rp E s μ->μ[hp]?=some (.lst xs)->(∀x∈L,x.2.1<E.rs.length)->∃y11 μ2,dr hp xs (agN 11) (fM N) (L.map spD) (mdE k a2 mo tl hd tp h7 h8 A lv x11) μ=R.ret (.nx (mdE k a2 mo tl hd tp h7 h8 A lv y11) μ2)/\Rp E { s with fl:=TR.push A (L.map Prod.snd) s.fl } μ2
 | [],s,μ,x11,P,g,_=>⟨x11,μ,forTI_nil g,P⟩
 | (x,j,b)::L,s,μ,x11,P,g,h=>by
  have hj:j<E.rs.length:=h (x,j,b) List.mem_cons_self
  have P1:=P.fl (TR.put s.fl j (s.fl j+TR.sg A b))
  obtain⟨y11,μ2,e,P2⟩:=md_loop2 hhp (A:=A) (lv:=lv) L _ _ (some (.d (spD (x,j,b)))) P1 (by rw[aA (by omega)];exact g) λy hy=>h y (List.mem_cons_of_mem _ hy)
  refine⟨y11,μ2,?_,P2⟩
  rw[List.map_cons]
  refine fq (δ1:=mdE k a2 mo tl hd tp h7 h8 A lv (some (.d (spD (x,j,b))))) (δ':=mdE k a2 mo tl hd tp h7 h8 A lv (some (.d (spD (x,j,b))))) g rfl ?_ e
  unfold fM
  have:=es_augX (h:=λi j=>i+j) (n:=N) (fo:=sAt "Tree" "flow" (aN 0)) (fi:=b9 (d2 oIx (ad 11) (dC (.int 1)))) (f:=b9 (dIf (dB (d2 oIx (ad 11) (dC (.int 2)))) (ad 9) (d1 oNeg (ad 9)))) (δ:=mdE k a2 mo tl hd tp h7 h8 A lv (some (.d (spD (x,j,b))))) (i:=(j:Int)) (m:=TR.sg A b) (es_fld P rfl lk_flow) (bP (ak (x:=spD (x,j,b)) (ac rfl) ar rfl)) P.h2 (atI_at (k:=j) (v:=Val.d (.int (s.fl j))) (by rw[List.getElem?_map,rg_get hj];rfl)) (bP (ev_if (bj (ak (x:=spD (x,j,b)) (ac rfl) ar (rfl:oIx (spD (x,j,b)) (.int 2)=some (.bool b)))) (by
   cases b with
   | true=>exact fP rfl (ac rfl)
   | false=>exact gg rfl (ci (ac rfl) rfl)))) P.h2 (j:=j) (by rw[List.length_map,rg_len];exact ixN_pt hj)
  rw[this,vset,put_int]
end
end CT
open PySem PySem.Spec L2 DL SL
namespace CT
section
variable{E:Tn}{s:TR.St}{μ:Sto}
theorem flat_app:∀{a b:List D},aM a=true->aM b=true->aM (a++b)=true
 | [],_,_,h=>h
 | x::a,b,h1,h2=>by
  have h1:(bM x&&aM a)=true:=h1
  rw[Bool.and_eq_true] at h1
  show(bM x&&aM (a++b))=true
  rw[h1.1,flat_app h1.2 h2]
  rfl
theorem mend_ev(I:TR.Inv E.net s){k:Nat}(w:TR.Wr E.net s k)(P:Rp E s μ)(hP:Pin E)(hf:Fla E)(hn:E.n<=900):∃s2 μ2,eV [.h 0,.d (.int (k:Int))] μ=R.ret (.d .none,μ2)/\Rp E s2 μ2/\TR.Inv E.net s2/\TR.Less E.net s2 s:=by
 have hk:k<E.rs.length:=w.1
 obtain⟨p1,p2⟩:=hP k hk
 have Tr:TR.Tree E.n s.t.ov s.dp:=I.tr
 obtain⟨tl,htl⟩:∃tl,tl=TR.tl E.net s k:=⟨_,rfl⟩
 obtain⟨hd,hhd⟩:∃hd,hd=TR.hd E.net s k:=⟨_,rfl⟩
 obtain⟨mo,hmo⟩:∃mo,mo=TR.more E.net s k:=⟨_,rfl⟩
 have ltl:tl<=E.n:=by
  rw[htl]
  unfold TR.tl
  show(if _ then (E.r k).lo else (E.r k).hi)<=E.n
  split<;>assumption
 have lhd:hd<=E.n:=by
  rw[hhd]
  unfold TR.hd
  show(if _ then (E.r k).hi else (E.r k).lo)<=E.n
  split<;>assumption
 obtain⟨t,hm⟩:=Tr.meet _ tl hd (Nat.le_refl _) ltl lhd
 obtain⟨a,b,Me⟩:=Tr.met hm ltl lhd
 have MM:=I.mend w (show TR.tl E.net s k<=E.net.n by rw[<-htl];exact ltl) (show TR.hd E.net s k<=E.net.n by rw[<-hhd];exact lhd) (by rw[<-htl,<-hhd];exact Me)
 rw[<-htl,<-hhd] at MM
 have hD:∀q∈TR.aC s.t.ov a tl,q<E.n:=λq hq=>(Tr.inway ltl Me.la hq).1
 have hU:∀q∈TR.aC s.t.ov b hd,q<E.n:=λq hq=>(Tr.inway lhd Me.lb hq).1
 have hh:∀q,q<E.n->s.t.hk q<E.rs.length:=λq hq=>(I.jn q hq).1
 have rD:∀q∈TR.aC s.t.ov a tl,s.t.hk q<E.rs.length/\(if decide ((E.r (s.t.hk q)).hi=q)=true then E.bd (s.t.hk q)-s.fl (s.t.hk q) else s.fl (s.t.hk q))=TR.rmD E.net s q:=λq hq=>by
  refine⟨hh q (hD q hq),?_⟩
  have hne:=I.ne (hD q hq)
  unfold TR.rmD TR.room
  show _=(if (E.r (s.t.hk q)).lo=s.t.ov q then _ else _)
  rcases (I.jn q (hD q hq)).2 with ⟨z1,z2⟩ | ⟨z1,z2⟩
  ·have z1:(E.r (s.t.hk q)).lo=q:=z1
   have z2:(E.r (s.t.hk q)).hi=s.t.ov q:=z2
   rw[decide_eq_false (by rw[z2];exact λz=>hne z.symm),if_neg Bool.false_ne_true,if_neg (by rw[z1];exact hne)]
  ·have z1:(E.r (s.t.hk q)).hi=q:=z1
   have z2:(E.r (s.t.hk q)).lo=s.t.ov q:=z2
   rw[decide_eq_true z1,if_pos rfl,if_pos z2]
   rfl
 have rU:∀q∈TR.aC s.t.ov b hd,s.t.hk q<E.rs.length/\(if decide ((E.r (s.t.hk q)).lo=q)=true then E.bd (s.t.hk q)-s.fl (s.t.hk q) else s.fl (s.t.hk q))=TR.rmU E.net s q:=λq hq=>by
  refine⟨hh q (hU q hq),?_⟩
  unfold TR.rmU TR.room
  show _=(if (E.r (s.t.hk q)).lo=q then _ else _)
  by_cases z:(E.r (s.t.hk q)).lo=q
  ·rw[decide_eq_true z,if_pos rfl,if_pos z]
   rfl
  ·rw[decide_eq_false z,if_neg Bool.false_ne_true,if_neg z]
 have la:a<=900:=by have:=Tr.dp_le ltl;have:=Me.la;omega
 have lb:b<=900:=by have:=Tr.dp_le lhd;have:=Me.lb;omega
 obtain⟨X,hX,T⟩:=P.tf
 have hl:=P.len
 obtain⟨Dl,hDl⟩:∃Dl,Dl=TR.aC s.t.ov a tl:=⟨_,rfl⟩
 obtain⟨Ul,hUl⟩:∃Ul,Ul=TR.aC s.t.ov b hd:=⟨_,rfl⟩
 have lD:Dl.length<=900:=by rw[hDl,TR.iO];exact la
 have lU:Ul.length<=900:=by rw[hUl,TR.iO];exact lb
 have w1:=way_ev T Tr ltl Me.la hn Me.ta
 have w2:=way_ev T Tr lhd Me.lb hn Me.tb
 rw[<-hDl] at w1 rD hD
 rw[<-hUl] at w2 rU hU
 obtain⟨μ1,h1⟩:∃μ1,μ1=μ++[vls (Dl.map (sdD E s))]:=⟨_,rfl⟩
 have P1:Rp E s μ1:=by rw[h1];exact P.app _
 have m1:μ1.length=μ.length+1:=by rw[h1,List.length_append];rfl
 have g1:μ1[μ.length]?=some (vls (Dl.map (sdD E s))):=by rw[h1,List.getElem?_append_right (Nat.le_refl _),Nat.sub_self];rfl
 obtain⟨X1,hX1,T1⟩:=P1.tf
 have w2:=way_ev T1 Tr lhd Me.lb hn Me.tb
 rw[<-hUl] at w2
 obtain⟨μ2,h2⟩:∃μ2,μ2=μ1++[vls (Ul.map (suD E s))]:=⟨_,rfl⟩
 have P2:Rp E s μ2:=by rw[h2];exact P1.app _
 have m2:μ2.length=μ.length+2:=by rw[h2,List.length_append,m1];rfl
 have g2:μ2[μ.length+1]?=some (vls (Ul.map (suD E s))):=by rw[h2,<-m1,List.getElem?_append_right (Nat.le_refl _),Nat.sub_self];rfl
 have g21:μ2[μ.length]?=some (vls (Dl.map (sdD E s))):=by rw[h2,List.getElem?_append_left (by omega)];exact g1
 obtain⟨X2,hX2,T2⟩:=P2.tf
 obtain⟨A1,l1,c1⟩:∃A1 l1,TR.chD (TR.rmD E.net s) Dl (E.bd k) none=(A1,l1):=⟨_,_,rfl⟩
 obtain⟨A,l2,c2⟩:∃A l2,TR.chU (TR.rmU E.net s) Ul A1 none=(A,l2):=⟨_,_,rfl⟩
 obtain⟨y,e1⟩:=md_loop0 (k:=k) (tl:=tl) (hd:=hd) (tp:=t) (h7:=μ.length) (h8:=μ.length+1) (N:=μ.length) (a2:=rl (E.r k)) (mo:=mo) P2 g21 (rm:=TR.rmD E.net s) (l0:=.none) Dl (E.bd k) none none rD
 obtain⟨y',e2⟩:=md_loop1 (k:=k) (tl:=tl) (hd:=hd) (tp:=t) (h7:=μ.length) (h8:=μ.length+1) (N:=μ.length) (a2:=rl (E.r k)) (mo:=mo) P2 g2 (rm:=TR.rmU E.net s) (l0:=lvT .none tl l1) Ul A1 none y rU
 rw[c1] at e1
 rw[c2] at e2
 obtain⟨L,hL⟩:∃L:List (D×Nat×Bool),L=(.none,k,mo)::(Dl.map (λq:Nat=>(PyData.int (q:Int),TR.dnS E.net s.t.hk q))++Ul.map (λq:Nat=>(PyData.int (q:Int),TR.upS E.net s.t.hk q))):=⟨_,rfl⟩
 have hLs:L.map spD=([.tuple [.none,.int (k:Int),.bool mo]]++Dl.map (sdD E s))++Ul.map (suD E s):=by
  rw[hL,List.map_cons,List.map_append,List.map_map,List.map_map]
  rfl
 have hLp:L.map Prod.snd=TR.ring E.net s k a b:=by
  rw[hL,List.map_cons,List.map_append,List.map_map,List.map_map,hDl,hUl,htl,hhd,hmo]
  rfl
 have hLm:∀x∈L,x.2.1<E.rs.length:=λx hx=>by
  rw[hL] at hx
  rcases List.mem_cons.mp hx with rfl | hx
  ·exact hk
  ·rcases List.mem_append.mp hx with hx | hx
   ·obtain⟨q,hq,rfl⟩:=List.mem_map.mp hx
    exact hh q (hD q hq)
   ·obtain⟨q,hq,rfl⟩:=List.mem_map.mp hx
    exact hh q (hU q hq)
 obtain⟨μ3,h3⟩:∃μ3,μ3=μ2++[vls (L.map spD)]:=⟨_,rfl⟩
 have P3:Rp E s μ3:=by rw[h3];exact P2.app _
 have g3:μ3[μ.length+2]?=some (vls (L.map spD)):=by rw[h3,<-m2,List.getElem?_append_right (Nat.le_refl _),Nat.sub_self];rfl
 obtain⟨lv,hlv⟩:∃lv,lv=lvT (lvT .none tl l1) hd l2:=⟨_,rfl⟩
 obtain⟨y3,μ4,e3,P4⟩:=md_loop2 (E:=E) (k:=k) (tl:=tl) (hd:=hd) (tp:=t) (h7:=μ.length) (h8:=μ.length+1) (N:=μ.length) (a2:=rl (E.r k)) (mo:=mo) (hp:=μ.length+2) (A:=A) (lv:=lv) (by omega) L s μ3 y' P3 g3 hLm
 rw[hLp] at P4
 have fin:∃s2 μ5 δ5,(sIf (iF (dB (d2 io (ad 10) (dC .none)))) (sDrop (sMet "Tree" "hang" cU (aN 0) (cA (b9 (d2 oIx (ad 10) (dC (.int 0)))) (cA (b9 (d2 oIx (ad 10) (dC (.int 1)))) (cA (aN 1) sNil))))) sNext) μ.length (mdE k (rl (E.r k)) mo tl hd t μ.length (μ.length+1) A lv y3) μ4=R.ret (.nx δ5 μ5)/\Rp E s2 μ5/\TR.Inv E.net s2/\TR.Less E.net s2 s:=by
  have hang:∀{i p q:Nat},lv=.tuple [.int (TR.upN s.t.ov i p:Int),.int (p:Int)]->TR.Hg E.net s k i p q (TR.push A (TR.ring E.net s k a b) s.fl)->(TR.wo E.net s.fl<TR.wo E.net (TR.push A (TR.ring E.net s k a b) s.fl)\/(TR.wo E.net s.fl<=TR.wo E.net (TR.push A (TR.ring E.net s k a b) s.fl)/\TR.dlt E.net s k p<0))->∃s2 μ5 δ5,(sIf (iF (dB (d2 io (ad 10) (dC .none)))) (sDrop (sMet "Tree" "hang" cU (aN 0) (cA (b9 (d2 oIx (ad 10) (dC (.int 0)))) (cA (b9 (d2 oIx (ad 10) (dC (.int 1)))) (cA (aN 1) sNil))))) sNext) μ.length (mdE k (rl (E.r k)) mo tl hd t μ.length (μ.length+1) A lv y3) μ4=R.ret (.nx δ5 μ5)/\Rp E s2 μ5/\TR.Inv E.net s2/\TR.Less E.net s2 s:=by
   intro i p q hlv2 hg hle
   obtain⟨μ5,d,e5,P5,I5,hp⟩:=hang_ev I hg P4 hP hf hn
   refine⟨_,μ5,mdE k (rl (E.r k)) mo tl hd t μ.length (μ.length+1) A lv y3,?_,P5,I5,?_⟩
   ·rw[hlv2]
    refine ig (b:=true) (eh (bj (ak (x:=.tuple [.int (TR.upN s.t.ov i p:Int),.int (p:Int)]) (ac rfl) ar rfl))) (fP rfl ?_)
    exact jb (es_met (aO rfl) P4.h0 rfl (cE (bP (ak (x:=.tuple [.int (TR.upN s.t.ov i p:Int),.int (p:Int)]) (ac rfl) ar rfl)) (cE (bP (ak (x:=.tuple [.int (TR.upN s.t.ov i p:Int),.int (p:Int)]) (ac rfl) ar rfl)) (cE (aO rfl) gQ))) e5)
   ·rcases hle with z | ⟨z1,z2⟩
    ·exact TR.less_wo I5 z
    ·exact TR.less_tm I5 z1 (TR.shf_lt (N:=E.net) hp z2)
  rcases MM with ⟨k1,k2,I5,hw⟩ | ⟨i,A',hi,k1,k2,hg,hw,hdl⟩ | ⟨i,A',A1',l1',hi,k1,k2,hg,hw⟩
  ·rw[<-hDl] at k1
   rw[<-hUl] at k2
   have k1:TR.chD (TR.rmD E.net s) Dl (E.bd k) none=(E.bd k,none):=k1
   have k2:TR.chU (TR.rmU E.net s) Ul (E.bd k) none=(E.bd k,none):=k2
   rw[c1] at k1
   cases k1
   rw[c2] at k2
   cases k2
   refine⟨_,μ4,mdE k (rl (E.r k)) mo tl hd t μ.length (μ.length+1) (E.bd k) lv y3,?_,P4,I5,TR.less_wo I5 hw⟩
   rw[hlv]
   exact ig (b:=false) (eh (bj (ak (x:=.none) (ac rfl) ar rfl))) (gg rfl rfl)
  ·rw[<-hDl] at k1
   rw[<-hUl] at k2
   have k1:TR.chD (TR.rmD E.net s) Dl (E.bd k) none=(A',some (TR.upN s.t.ov i tl)):=k1
   rw[c1] at k1
   cases k1
   rw[c2] at k2
   cases k2
   exact hang hlv hg (.inr ⟨hw,hdl⟩)
  ·rw[<-hDl] at k1
   rw[<-hUl] at k2
   have k1:TR.chD (TR.rmD E.net s) Dl (E.bd k) none=(A1',l1'):=k1
   rw[c1] at k1
   cases k1
   rw[c2] at k2
   cases k2
   exact hang hlv hg (.inl hw)
 obtain⟨s2,μ5,δ5,e5,P5,I5,hls⟩:=fin
 refine⟨s2,μ5,?_,P5,I5,hls⟩
 refine es_runN (δ:=δ5) ?_
 unfold ia
 have hlk:=lack_ev T hP hk
 have e_tl:∀{δ:DS},ad 3 δ=M.ret (.bool mo)->ad 2 δ=M.ret (rl (E.r k))->dIf (dB (ad 3)) (d2 oIx (ad 2) (dC (.int 0))) (d2 oIx (ad 2) (dC (.int 1))) δ=M.ret (.int (tl:Int)):=λ{δ} d3 d2'=>by
  refine ev_if (bj d3) ?_
  rw[htl,hmo]
  unfold TR.tl
  cases TR.more E.net s k with
  | true=>exact fP rfl (ak d2' ar (gO _))
  | false=>exact gg rfl (ak d2' ar (fX _))
 have e_hd:∀{δ:DS},ad 3 δ=M.ret (.bool mo)->ad 2 δ=M.ret (rl (E.r k))->dIf (dB (ad 3)) (d2 oIx (ad 2) (dC (.int 1))) (d2 oIx (ad 2) (dC (.int 0))) δ=M.ret (.int (hd:Int)):=λ{δ} d3 d2'=>by
  refine ev_if (bj d3) ?_
  rw[hhd,hmo]
  unfold TR.hd
  cases TR.more E.net s k with
  | true=>exact fP rfl (ak d2' ar (fX _))
  | false=>exact gg rfl (ak d2' ar (gO _))
 refine aD (bA (bV (ak (ci (ap rfl hX) T.rules) (ap rfl bf) (ix_rs hk)) (hf k hk))) ?_
 refine aD (bA (v:=.d (.bool mo)) (bV (by rw[hmo];exact ak (cG T nf_lack (ap rfl hX) (af (ap rfl bf) ao) hlk) ar o_gt) rfl)) ?_
 refine aD (bA (bP (e_tl (ac rfl) (ac rfl)))) ?_
 refine aD (bA (bP (e_hd (ac rfl) (ac rfl)))) ?_
 refine aD (bA (bV (cG T nf_meeting (ap rfl hX) (af (ap rfl bf) (af (ap rfl bf) ao)) (meeting_ev T Tr hm ltl lhd)) rfl)) ?_
 refine aD (bA (es_newFN (ds:=Dl.map (sdD E s)) (cH (ds:=bw Dl) (fv (cG T nf_way (ap rfl hX) (af (ap rfl bf) (af (ap rfl bf) ao)) w1) rfl) (aF (by rw[gN];omega)) ?_) (sd_flat Dl))) ?_
 ·show bZ _ _ _ _ [Sl.un,_]=_
  rw[slotN rfl hX]
  exact dn_comp T Dl _ λq hq=>⟨hD q hq,hh q (hD q hq)⟩
 rw[show μ++[Ob.lst ((Dl.map (sdD E s)).map Val.d)]=μ1 from h1.symm]
 refine aD (bA (es_newFN (ds:=Ul.map (suD E s)) (cH (ds:=bw Ul) (fv (cG T1 nf_way (ap rfl hX1) (af (ap rfl bf) (af (ap rfl bf) ao)) w2) rfl) (aF (by rw[gN];omega)) ?_) (su_flat Ul))) ?_
 ·show bZ _ _ _ _ [Sl.un,_]=_
  rw[slotN rfl hX1]
  exact up_comp T1 Ul _ λq hq=>⟨hU q hq,hh q (hU q hq)⟩
 rw[show μ1++[Ob.lst ((Ul.map (suD E s)).map Val.d)]=μ2 from h2.symm,m1]
 refine aD (bA (bV (ak (ci (ap rfl hX2) T2.bounds) (ap rfl bf) (dR hk)) rfl)) ?_
 refine aD (bA (bP ar)) ?_
 refine aD (es_forTI (ds:=Dl.map (sdD E s)) (aO rfl) g21 e1) ?_
 refine aD (es_forTI (ds:=Ul.map (suD E s)) (aO rfl) g2 e2) ?_
 rw[<-hlv]
 refine aD (es_forTI (ds:=L.map spD) (μ':=μ3) ?_ g3 e3) e5
 have hnew:=gB (δ:=mdE k (rl (E.r k)) mo tl hd t μ.length (μ.length+1) A lv y') (μ:=μ2) (fn:=nCat (iC (nCat (iC (dW (ag (gG (ag (dC .none) (ag (ad 1) (ag (ad 3) aw)))) aw))) (ad 7))) (ad 8)) (ds:=([.tuple [.none,.int (k:Int),.bool mo]]++Dl.map (sdD E s))++Ul.map (suD E s)) (gA (ft (gA (ft (cg (af (du (af ar (af (ap rfl bf) (af (ap rfl bf) ao))) rfl) ao) rfl)) (ap rfl (cw g21)) (aF (by rw[List.length_map];show 1+Dl.length<=_;omega)))) (ap rfl (cw g2)) (aF (by rw[List.length_append,List.length_map,List.length_map];show 1+Dl.length+Ul.length<=_;omega))) (flat_app (flat_app rfl (sd_flat Dl)) (su_flat Ul))
 rw[hnew,<-hLs,m2,h3]
end
end CT
open PySem PySem.Spec L2 DL SL
namespace CT
section
variable{E:Tn}{s:TR.St}{μ:Sto}
theorem put_begin:fV "begin" (.d (.int 0)) (tfs E)=tfs E:=rfl
theorem wrong_rule_ev(P:Rp E s μ)(hP:Pin E)(hm:E.m<=E.rs.length)(h50:E.m<50):∃(w:Option Nat) (μ2:Sto),bN [.h 0] μ=R.ret (.d (zd w),μ2)/\Rp E s μ2/\(w=none->∀k,k<E.m->¬TR.Wr E.net s k)/\(∀k,w=some k->TR.Wr E.net s k):=by
 obtain⟨X,hX,T⟩:=P.tf
 obtain⟨w,hw,w1,w2⟩:=worst_ev T hP hm (by omega)
 have hmin:min (0+50:Int) (E.m:Int)=(E.m:Int):=by omega
 have hP2:Rp E s (μ.set 0 (.ins "Tree" (tfs E))):=P.keep λi hi=>by
  by_cases e:i=0
  ·subst e
   rw[cn (by have:=P.len;omega)]
   exact P.h0.symm
  ·exact aA (λz=>e z.symm)
 have hdiv:((E.m:Int) / 50+1)=1:=by omega
 have hbody:cF μ.length [some (.h 0),some (.d (.int 0)),none,none] μ=(match w with
   | some k=>R.ret (.rt (.d (.int (k:Int))) (μ.set 0 (.ins "Tree" (tfs E))))
   | none=>R.ret (.nx [some (.h 0),some (.d (.int 0)),some (.d (.int (E.m:Int))),some (.d .none)] (μ.set 0 (.ins "Tree" (tfs E))))):=by
  unfold cF
  refine aD (bA (v:=.d (.int (E.m:Int))) (bV (el (af (ak (ci (ap rfl hX) T.begin_) ar eY) (af (ci (ap rfl hX) T.many) ao)) (o_min.trans (congrArg (λx=>some (PyData.int x)) hmin))) rfl)) ?_
  refine aD (bA (v:=.d (zd w)) (bV (cG T nf_worst (ap rfl hX) (af (ci (ap rfl hX) T.begin_) (af (ap rfl bf) ao)) hw) (by cases w<;>rfl))) ?_
  refine aD (dy (v:=.d (.int 0)) (bV (ev_if (bj (ak (ap rfl bf) (ci (ap rfl hX) T.many) o_lt)) (ite_f (Int.lt_irrefl _) ar)) rfl) (aO rfl) P.h0 (by show(10:Nat)<1000;omega)) ?_
  rw[put_begin]
  cases w with
  | none=>exact ig (b:=false) (eh (bj (ak (x:=.none) (ac rfl) ar rfl))) (gg rfl rfl)
  | some k=>exact ig (b:=true) (eh (bj (ak (x:=.int (k:Int)) (ac rfl) ar rfl))) (fP rfl (es_ret (aO rfl)))
 refine⟨w,μ.set 0 (.ins "Tree" (tfs E)),?_,hP2,w1,λk hk=>(w2 k hk).2⟩
 refine es_run ?_
 unfold df
 have hr:gZ [.int ((E.m:Int) / 50+1)]=some [.int 0]:=by rw[hdiv];rfl
 have hfa:ag (d2 cO (d2 oDiv (d1 (bg "Tree" "many") (ad 0)) (dC (.int 50))) (dC (.int 1))) aw (viewN 4 μ (iQ 4 [.h 0]))=M.ret [.int ((E.m:Int) / 50+1)]:=af (ak (ak (ci (ap rfl hX) T.many) ar (o_div (bDiv_of (by omega) (by omega)))) ar eY) ao
 cases w with
 | some k=>exact es_seqR (es_forR hfa hr (forS_ret (δ1:=[some (.h 0),some (.d (.int 0)),none,none]) rfl hbody))
 | none=>exact aD (es_forR hfa hr (forS_cons (δ1:=[some (.h 0),some (.d (.int 0)),none,none]) rfl hbody rfl)) (es_ret (bP ar))
theorem settle_ev(P:Rp E s μ)(I:TR.Inv E.net s)(hP:Pin E)(hf:Fla E)(hm:E.m<=E.rs.length)(h50:E.m<50)(hn:E.n<=900):∃s2 μ2,dH [.h 0] μ=R.ret (.d .none,μ2)/\Rp E s2 μ2/\TR.Inv E.net s2/\∀k,k<E.m->¬TR.Wr E.net s2 k:=by
 have main:∀s:TR.St,∀(μ:Sto) (w:Option Nat) (N:Nat),Rp E s μ->TR.Inv E.net s->(w=none->∀k,k<E.m->¬TR.Wr E.net s k)->(∀k,w=some k->TR.Wr E.net s k)->∃s2 μ2,ek (iF (dB (d2 io (ad 1) (dC .none)))) cX N [some (.h 0),some (.d (zd w))] μ=R.ret (.nx [some (.h 0),some (.d .none)] μ2)/\Rp E s2 μ2/\TR.Inv E.net s2/\∀k,k<E.m->¬TR.Wr E.net s2 k:=by
  intro s
  refine(TR.less_wf E.net).induction (C:=λs=>∀(μ:Sto) (w:Option Nat) (N:Nat),Rp E s μ->TR.Inv E.net s->(w=none->∀k,k<E.m->¬TR.Wr E.net s k)->(∀k,w=some k->TR.Wr E.net s k)->∃s2 μ2,ek (iF (dB (d2 io (ad 1) (dC .none)))) cX N [some (.h 0),some (.d (zd w))] μ=R.ret (.nx [some (.h 0),some (.d .none)] μ2)/\Rp E s2 μ2/\TR.Inv E.net s2/\∀k,k<E.m->¬TR.Wr E.net s2 k) s ?_
  intro s ih μ w N P I h1 h2
  cases w with
  | none=>exact⟨s,μ,es_whf (eh (bj (ak (x:=.none) (ac rfl) ar rfl))),P,I,h1 rfl⟩
  | some k =>
   obtain⟨s1,μ1,e1,P1,I1,l1⟩:=mend_ev I (h2 k rfl) P hP hf hn
   obtain⟨w',μ2,e2,P2,w1,w2⟩:=wrong_rule_ev P1 hP hm h50
   obtain⟨s3,μ3,e3,P3,I3,h3⟩:=ih s1 l1 μ2 w' N P2 I1 w1 w2
   refine⟨s3,μ3,es_wht (eh (bj (ak (x:=.int (k:Int)) (ac rfl) ar rfl))) ?_ e3,P3,I3,h3⟩
   unfold cX
   exact aD (jb (es_met (aO rfl) P.h0 rfl (cE (aO rfl) gQ) e1)) (bA (es_met (aO rfl) P1.h0 rfl gQ e2))
 obtain⟨w,μ1,e1,P1,w1,w2⟩:=wrong_rule_ev P hP hm h50
 obtain⟨s2,μ2,e2,P2,I2,h2⟩:=main s μ1 w μ.length P1 I w1 w2
 refine⟨s2,μ2,es_runN (δ:=[some (.h 0),some (.d .none)]) ?_,P2,I2,h2⟩
 unfold fJ
 exact aD (bA (es_met (aO rfl) P.h0 rfl gQ e1)) e2
end
end CT
open PySem PySem.Spec L2 DL SL
namespace CT
def thrs(n:Nat):Nat->List Int->List Rl
 | _,[]=>[]
 | i,t::q=>⟨i,n,-t,none,.tuple []⟩::thrs n (i+1) q
def wts:List Rl->List Int
 | []=>[]
 | r::rs=>match r.w with
  | none=>wts rs
  | some w=>w::wts rs
def bdr(tt:Int)(r:Rl):Int:=match r.w with
 | none=>tt+1
 | some w=>w
def ffr(r:Rl):Int:=if r.lo=r.hi/\0<r.le then r.w.getD 0 else 0
def ba(T:List Int)(rs:List Rl):List Rl:=rs++thrs T.length 0 T
def Eo(T:List Int)(rs:List Rl):Tn:=⟨T.length,rs.length,ba T rs,λk=>bdr (wts rs).sum ((ba T rs).getD k r0)⟩
def so(T:List Int)(rs:List Rl):TR.St:=⟨λk=>ffr ((ba T rs).getD k r0),λp=>T.getD p 0,⟨λ_=>T.length,λp=>rs.length+p,λq=>if q=T.length then List.range T.length else []⟩,λp=>if p<T.length then 1 else 0⟩
theorem iD(n:Nat):∀(i:Nat) (q:List Int),(thrs n i q).length=q.length
 | _,[]=>rfl
 | i,t::q=>by rw[thrs,List.length_cons,iD,List.length_cons]
theorem thrs_get(n:Nat):∀(i:Nat) (q:List Int) (p:Nat),p<q.length->(thrs n i q).getD p r0=⟨i+p,n,-q.getD p 0,none,.tuple []⟩
 | i,[],p,h=>absurd h (Nat.not_lt_zero _)
 | i,t::q,0,_=>rfl
 | i,t::q,p+1,h=>by
  have:=thrs_get n (i+1) q p (by simpa using h)
  rw[thrs,List.getD_cons_succ,this,List.getD_cons_succ,show i+1+p=i+(p+1) by omega]
theorem thr_comp(n:Nat):∀(q:List Int) (i:Nat) (x y:Sl),bZ (tgTup 2 (cN (tgN 0) (cN (tgN 1) tgNil))) (nX er) (nX (gG (ag (ad 0) (ag (ad 2) (ag (d1 oNeg (ad 1)) (ag (dC .none) (ag (gG aw) aw))))))) (cb i (q.map PyData.int)) [x,y,.vl (.int (n:Int))]=M.ret ((thrs n i q).map rl)
 | [],i,x,y=>rfl
 | t::q,i,x,y=>dw (δ':=[.vl (.int (i:Int)),.vl (.int t),.vl (.int (n:Int))]) rfl (du (af (ac rfl) (af (ac rfl) (af (ci (ac rfl) rfl) (af ar (af (du ao rfl) ao))))) rfl) (thr_comp n q (i+1) _ _)
theorem wts_comp:∀(q:List Rl) (x:Sl),bZ (tgN 0) (nX (dNot (dB (cf (λds=>noX (bh ds)) (ag (ad 0) aw))))) (nX (d2 oIx (ad 0) (dC (.int 3)))) (q.map rl) [x]=M.ret ((wts q).map PyData.int)
 | [],x=>rfl
 | r::q,x=>by
  have hc:dNot (dB (cf (λds=>noX (bh ds)) (ag (ad 0) aw))) [.vl (rl r)]=M.ret (!r.w.isNone):=ev_not (bj (cP (af (ac rfl) ao) (kept_ev r)))
  rw[wts,List.map_cons]
  cases hw:r.w with
  | none =>
   rw[hw] at hc
   exact ev_compS (δ':=[.vl (rl r)]) rfl hc (wts_comp q _)
  | some w =>
   rw[hw] at hc
   exact ev_compT (δ':=[.vl (rl r)]) rfl hc (ak (ac rfl) ar (by rw[ix_rl3,hw];rfl)) (wts_comp q _)
theorem bd_comp(tt:Int):∀(q:List Rl) (x:Sl),bZ (tgN 0) (nX er) (nX (dIf (dB (cf (λds=>noX (bh ds)) (ag (ad 0) aw))) (d2 cO (ad 1) (dC (.int 1))) (d2 oIx (ad 0) (dC (.int 3))))) (q.map rl) [x,.vl (.int tt)]=M.ret (q.map λr=>.int (bdr tt r))
 | [],x=>rfl
 | r::q,x=>by
  refine dw (δ':=[.vl (rl r),.vl (.int tt)]) rfl (ev_if (bj (cP (af (ac rfl) ao) (kept_ev r))) ?_) (bd_comp tt q _)
  show _=M.ret (PyData.int (bdr tt r))
  cases hw:r.w with
  | none =>
   rw[show bdr tt r=tt+1 by unfold bdr;rw[hw]]
   exact fP rfl (ak (ac rfl) ar eY)
  | some w =>
   rw[show bdr tt r=w by unfold bdr;rw[hw]]
   exact gg rfl (ak (ac rfl) ar (by rw[ix_rl3,hw];rfl))
theorem ff_ev{r:Rl}(h:r.lo=r.hi->0<r.le->r.w≠none):dQ [rl r]=M.ret (.int (ffr r)):=by
 refine ck ?_
 unfold gr
 refine dv (ev_if (ev_and (bj (ak (ak (ac rfl) ar (gO r)) (ak (ac rfl) ar (fX r)) o_eq)) (bj (ak (ak (ac rfl) ar (ix_rl2 r)) ar o_gt))) ?_)
 unfold ffr
 by_cases c:r.lo=r.hi/\0<r.le
 ·rw[if_pos c]
  refine fP (by rw[decide_eq_true (by omega:(r.lo:Int)=(r.hi:Int)),decide_eq_true c.2];rfl) (ak (ac rfl) ar ?_)
  rw[ix_rl3]
  cases hw:r.w with
  | none=>exact absurd hw (h c.1 c.2)
  | some w=>rfl
 ·rw[if_neg c]
  refine gg ?_ ar
  rw[Bool.and_eq_false_iff,decide_eq_false_iff_not,decide_eq_false_iff_not]
  omega
theorem ff_comp:∀(q:List Rl) (x:Sl),(∀r∈q,r.lo=r.hi->0<r.le->r.w≠none)->bZ (tgN 0) (nX er) (nX (cf (λds=>noX (dQ ds)) (ag (ad 0) aw))) (q.map rl) [x]=M.ret (q.map λr=>.int (ffr r))
 | [],x,_=>rfl
 | r::q,x,h=>dw (δ':=[.vl (rl r)]) rfl (cP (af (ac rfl) ao) (ff_ev (h r List.mem_cons_self))) (ff_comp q _ λy hy=>h y (List.mem_cons_of_mem _ hy))
theorem hk_comp(m:Nat)(X:D)(hX:bg "Tree" "many" X=some (.int (m:Int))):∀(n i:Nat) (x:Sl),bZ (tgN 0) (nX er) (nX (d2 cO (d1 (bg "Tree" "many") (ad 1)) (ad 0))) ((List.range' i n).map λj:Nat=>PyData.int (j:Int)) [x,.vl X]=M.ret ((List.range' i n).map λj:Nat=>PyData.int ((m+j:Nat):Int))
 | 0,i,x=>rfl
 | n+1,i,x=>by
  rw[List.range'_succ,List.map_cons,List.map_cons]
  exact dw (δ':=[.vl (.int (i:Int)),.vl X]) rfl (ak (ci (ac rfl) hX) (ac rfl) eY) (hk_comp m X hX n (i+1) _)
theorem map_rg(l:List Rl)(f:Rl->D):l.map f=rg l.length λk=>f (l.getD k r0):=by
 refine List.ext_getElem? λi=>?_
 unfold rg
 rw[List.getElem?_map,List.getElem?_map]
 by_cases h:i<l.length
 ·rw[List.getElem?_range h,List.getElem?_eq_getElem h]
  show some (f l[i])=some (f (l.getD i r0))
  rw[List.getD_eq_getElem?_getD,List.getElem?_eq_getElem h]
  rfl
 ·rw[List.getElem?_eq_none (by omega),List.getElem?_eq_none (by rw[List.length_range];omega)]
  rfl
theorem rg_snoc(n:Nat)(f:Nat->D):rg (n+1) f=rg n f++[f n]:=by
 unfold rg
 rw[List.range_succ,List.map_append]
 rfl
theorem rep_rg(n:Nat)(d:D):List.replicate n d=rg n λ_=>d:=by
 refine List.ext_getElem? λi=>?_
 unfold rg
 rw[List.getElem?_map,List.getElem?_replicate]
 by_cases h:i<n
 ·rw[if_pos h,List.getElem?_range h];rfl
 ·rw[if_neg h,List.getElem?_eq_none (by rw[List.length_range];omega)];rfl
theorem ints_rg(T:List Int):T.map PyData.int=rg T.length λp=>.int (T.getD p 0):=by
 refine List.ext_getElem? λi=>?_
 unfold rg
 rw[List.getElem?_map,List.getElem?_map]
 by_cases h:i<T.length
 ·rw[List.getElem?_range h,List.getElem?_eq_getElem h]
  show some (PyData.int T[i])=some (.int (T.getD i 0))
  rw[List.getD_eq_getElem?_getD,List.getElem?_eq_getElem h]
  rfl
 ·rw[List.getElem?_eq_none (by omega),List.getElem?_eq_none (by rw[List.length_range];omega)]
  rfl
theorem rngD_nat(n:Nat):b6 0 n=(List.range' 0 n).map λj:Nat=>PyData.int (j:Int):=by
 unfold b6
 rw[List.range_eq_range']
 exact List.map_congr_left λi _=>by rw[Int.zero_add]
theorem flat_of{α:Type}{f:α->D}(h:∀x,bM (f x)=true):∀l:List α,aM (l.map f)=true
 | []=>rfl
 | x::l=>by
  show(bM (f x)&&aM (l.map f))=true
  rw[h x,flat_of h l]
  rfl
theorem rg_flat{n:Nat}{f:Nat->D}(h:∀k,bM (f k)=true):aM (rg n f)=true:=flat_of h _
theorem addR{k:Nat}:∀(n:Nat) (hs:List Val) (ν:Sto),k<ν.length->ν[k]?=some (.lst hs)->(ei k (List.replicate n []) hs ν).length=ν.length+n/\(ei k (List.replicate n []) hs ν)[k]?=some (.lst (hs++(List.range' ν.length n).map Val.h))/\(∀i,i<n->(ei k (List.replicate n []) hs ν)[ν.length+i]?=some (.lst []))/\∀j,j<ν.length->j≠k->(ei k (List.replicate n []) hs ν)[j]?=ν[j]?
 | 0,hs,ν,hk,h=>⟨rfl,by rw[show List.range' ν.length 0=[] from rfl,List.map_nil,List.append_nil];exact h,λi hi=>absurd hi (Nat.not_lt_zero _),λ_ _ _=>rfl⟩
 | n+1,hs,ν,hk,h=>by
  obtain⟨ν2,h2⟩:∃ν2,ν2=(ν++[Ob.lst (([]:List D).map Val.d)]).set k (.lst (hs++[Val.h ν.length])):=⟨_,rfl⟩
  have l2:ν2.length=ν.length+1:=by rw[h2,List.length_set,List.length_append];rfl
  obtain⟨i1,i2,i3,i4⟩:=addR (k:=k) n (hs++[Val.h ν.length]) ν2 (by omega) (by rw[h2];exact cn (by rw[List.length_append];omega))
  have e:ei k (List.replicate (n+1) []) hs ν=ei k (List.replicate n []) (hs++[Val.h ν.length]) ν2:=by rw[List.replicate_succ,ei,h2]
  rw[e]
  refine⟨by rw[i1,l2];omega,by rw[i2,l2,List.append_assoc,List.range'_succ];rfl,λi hi=>?_,λj hj hne=>?_⟩
  ·cases i with
   | zero =>
    rw[i4 (ν.length+0) (by omega) (by omega),h2,aA (by omega),List.getElem?_append_right (by omega)]
    simp
   | succ i =>
    have:=i3 i (by omega)
    rw[l2] at this
    rw[show ν.length+(i+1)=ν.length+1+i by omega]
    exact this
  ·rw[i4 j (by omega) hne,h2,aA (λz=>hne z.symm),List.getElem?_append_left hj]
theorem lv_ins{μ:Sto}{fs:List (Str×Val)}{ds:List D}(h:μ[0]?=some (.ins "Tree" fs))(ha:cY ((fs.map Prod.snd).map (lvN 3 μ))=some ds):lvN 4 μ (.h 0)=some (iY "Tree" ((fs.map Prod.fst).zip ds)):=by
 show(match μ[0]? with
   | some (.lst xs)=>(cY (xs.map (lvN 3 μ))).map PyData.list
   | some (.ins c fs)=>(cY ((fs.map Prod.snd).map (lvN 3 μ))).map λds=>iY c ((fs.map Prod.fst).zip ds)
   | _=>none)=_
 rw[h]
 show(cY ((fs.map Prod.snd).map (lvN 3 μ))).map _=_
 rw[ha]
 rfl
end CT
open PySem PySem.Spec L2 DL SL
namespace CT
theorem es_lst1{fa:aq->Sto->R (List Val×Sto)}{δ:aq}{μ μ':Sto}{xs:List Val}(h:fa δ μ=R.ret (xs,μ'))(hs:aL xs.length=true):sLst fa δ μ=R.ret (.h μ'.length,μ'++[.lst xs]):=by
 unfold sLst
 rw[h,aW,if_pos hs]
theorem f2_rules(a b:D):bg "Tree" "rules" (iY "Tree" [("many",a),("rules",b)])=some b:=by kernel_rfl
theorem f3_rules(a b c:D):bg "Tree" "rules" (iY "Tree" [("many",a),("rules",b),("bounds",c)])=some b:=by kernel_rfl
theorem f7_many(a b c d e f g:D):bg "Tree" "many" (iY "Tree" [("many",a),("rules",b),("bounds",c),("flow",d),("times",e),("over",f),("under",g)])=some a:=by kernel_rfl
abbrev gF(m:Nat)(R:D)(n k:Nat):List (Str×Val):=List.take k [("many",.d (.int (m:Int))),("rules",.d R),("bounds",.h 1),("flow",.h 2),("times",.h 3),("over",.h 4),("under",.h (8+n)),("hooks",.h (9+n)),("depths",.h (10+n))]
abbrev iE(A B:D)(n:Nat)(t:Int):aq:=[some (.h 0),some (.d A),some (.d B),some (.d (.int (n:Int))),some (.d (.int t))]
theorem init_ev{T:List Int}{rs:List Rl}(hT:T.length<=900)(hr:rs.length<=1000)(hff:∀r∈rs,r.lo=r.hi->0<r.le->r.w≠none):∃μ0,eW [.h 0,.d (.list (T.map PyData.int)),.d (.list (rs.map rl))] [.ins "Tree" []]=R.ret (.d .none,μ0)/\Rp (Eo T rs) (so T rs) μ0:=by
 obtain⟨n,hn⟩:∃n,n=T.length:=⟨_,rfl⟩
 obtain⟨tt,htt⟩:∃tt,tt=(wts rs).sum:=⟨_,rfl⟩
 obtain⟨RL,hRL⟩:∃RL:D,RL=.list ((ba T rs).map rl):=⟨_,rfl⟩
 have hAl:(ba T rs).length=rs.length+n:=by unfold ba;rw[List.length_append,iD,hn]
 have hffA:∀r∈ba T rs,r.lo=r.hi->0<r.le->r.w≠none:=λr hm=>by
  rcases List.mem_append.mp hm with hm | hm
  ·exact hff r hm
  ·intro hl _
   obtain⟨i,hi,rfl⟩:=List.mem_iff_getElem.mp hm
   have:=thrs_get T.length 0 T i (by rw[iD] at hi;exact hi)
   rw[List.getD_eq_getElem?_getD,List.getElem?_eq_getElem hi] at this
   have e:(thrs T.length 0 T)[i]=⟨0+i,T.length,-T.getD i 0,none,.tuple []⟩:=this
   rw[e] at hl
   have hl:0+i=T.length:=hl
   rw[iD] at hi
   omega
 obtain⟨B,hB⟩:∃B:List D,B=rg (ba T rs).length λk=>.int ((Eo T rs).bd k):=⟨_,rfl⟩
 obtain⟨Fl,hFl⟩:∃Fl:List D,Fl=rg (ba T rs).length λk=>.int ((so T rs).fl k):=⟨_,rfl⟩
 obtain⟨Tm,hTm⟩:∃Tm:List D,Tm=rg (n+1) λp=>.int ((so T rs).tm p):=⟨_,rfl⟩
 obtain⟨Ov,hOv⟩:∃Ov:List D,Ov=rg (n+1) λp=>ovD n ((so T rs).t.ov p) p:=⟨_,rfl⟩
 obtain⟨Hk,hHk⟩:∃Hk:List D,Hk=rg (n+1) λp=>ovD n ((so T rs).t.hk p) p:=⟨_,rfl⟩
 obtain⟨Dp,hDp⟩:∃Dp:List D,Dp=rg (n+1) λp=>.int ((so T rs).dp p:Int):=⟨_,rfl⟩
 have eB:(ba T rs).map (λr=>PyData.int (bdr tt r))=B:=by rw[hB,map_rg,htt];rfl
 have eF:(ba T rs).map (λr=>PyData.int (ffr r))=Fl:=by rw[hFl,map_rg];rfl
 have eT:T.map PyData.int++[.int 0]=Tm:=by
  rw[hTm,rg_snoc,ints_rg,hn]
  congr 2
  show PyData.int 0=PyData.int (T.getD T.length 0)
  rw[List.getD_eq_getElem?_getD,List.getElem?_eq_none (Nat.le_refl _)]
  rfl
 have eO:List.replicate n (PyData.int (n:Int))++[.none]=Ov:=by
  rw[hOv,rg_snoc,rep_rg]
  congr 1
  ·exact rg_congr λk hk=>by rw[ovD,if_pos hk,hn];rfl
  ·rw[ovD,if_neg (Nat.lt_irrefl _)]
 have eH:((List.range' 0 n).map λj:Nat=>PyData.int ((rs.length+j:Nat):Int))++[.none]=Hk:=by
  rw[hHk,rg_snoc,<-List.range_eq_range']
  congr 1
  ·exact rg_congr (f:=λj:Nat=>PyData.int ((rs.length+j:Nat):Int)) λk hk=>by rw[ovD,if_pos hk];rfl
  ·rw[ovD,if_neg (Nat.lt_irrefl _)]
 have eD:List.replicate n (PyData.int 1)++[.int 0]=Dp:=by
  rw[hDp,rg_snoc,rep_rg]
  congr 1
  ·exact rg_congr λk hk=>by
    show PyData.int 1=PyData.int ((if k<T.length then 1 else 0:Nat):Int)
    rw[if_pos (by omega)]
    rfl
  ·show [PyData.int 0]=[PyData.int ((if n<T.length then 1 else 0:Nat):Int)]
   rw[if_neg (by omega)]
   rfl
 have ovfl:∀x p,bM (ovD n x p)=true:=λx p=>by unfold ovD;split<;>rfl
 have fB:aM B=true:=by rw[hB];exact rg_flat λ_=>rfl
 have fF:aM Fl=true:=by rw[hFl];exact rg_flat λ_=>rfl
 have fT:aM Tm=true:=by rw[hTm];exact rg_flat λ_=>rfl
 have fO:aM Ov=true:=by rw[hOv];exact rg_flat λ_=>ovfl _ _
 have fH:aM Hk=true:=by rw[hHk];exact rg_flat λ_=>ovfl _ _
 have fD:aM Dp=true:=by rw[hDp];exact rg_flat λ_=>rfl
 obtain⟨TL,hTL⟩:∃TL:D,TL=.list (T.map PyData.int):=⟨_,rfl⟩
 obtain⟨RS,hRS⟩:∃RS:D,RS=.list (rs.map rl):=⟨_,rfl⟩
 have lenT:fg [TL]=some (.int (n:Int)):=by rw[hTL,hn];show some (PyData.int ((T.map PyData.int).length:Int))=_;rw[List.length_map]
 have lenR:fg [RS]=some (.int (rs.length:Int)):=by rw[hRS];show some (PyData.int ((rs.map rl).length:Int))=_;rw[List.length_map]
 obtain⟨μ6,h6⟩:∃μ6:Sto,μ6=[.ins "Tree" (gF rs.length RL n 6),vls B,vls Fl,vls Tm,vls Ov]:=⟨_,rfl⟩
 have l6:μ6.length=5:=by rw[h6];rfl
 obtain⟨ν,hν⟩:∃ν,ν=ei 5 (List.replicate n []) [] (μ6++[.lst []]):=⟨_,rfl⟩
 obtain⟨a1,a2,a3,a4⟩:=addR (k:=5) n [] (μ6++[.lst []]) (by rw[List.length_append,l6];show 5<6;omega) (by rw[List.getElem?_append_right (by omega),l6];rfl)
 have l6':(μ6++[Ob.lst []]).length=6:=by rw[List.length_append,l6];rfl
 rw[<-hν,l6'] at a1 a2 a3 a4
 have nu0:∀j,j<5->ν[j]?=μ6[j]?:=λj hj=>by rw[a4 j (by omega) (by omega),List.getElem?_append_left (by omega)]
 obtain⟨Rg,hRg⟩:∃Rg:List D,Rg=bw (List.range n):=⟨_,rfl⟩
 obtain⟨HS,hHS⟩:∃HS:List Val,HS=(List.range (n+1)).map λp=>Val.h (6+p):=⟨_,rfl⟩
 have eHS:[]++(List.range' 6 n).map Val.h++[Val.h (6+n)]=HS:=by
  rw[hHS,List.nil_append,List.range_succ,List.map_append,List.range_eq_range',List.range'_eq_map_range,List.map_map]
  congr 1
  rw[<-List.range_eq_range']
  rfl
 obtain⟨μ7,h7⟩:∃μ7,μ7=(((ν++[vls Rg])++[Ob.lst [Val.h (6+n)]])++[Ob.lst HS]).set 0 (.ins "Tree" (gF rs.length RL n 7)):=⟨_,rfl⟩
 have l7:μ7.length=9+n:=by rw[h7,List.length_set,List.length_append,List.length_append,List.length_append,a1];show 6+n+1+1+1=_;omega
 have b0:μ7[0]?=some (.ins "Tree" (gF rs.length RL n 7)):=by rw[h7];exact cn (by rw[List.length_append,List.length_append,List.length_append,a1];omega)
 have bb:∀j,0<j->j<6+n->μ7[j]?=ν[j]?:=λj h0 hj=>by
  rw[h7,aA (by omega),List.getElem?_append_left (by rw[List.length_append,List.length_append,a1];omega),List.getElem?_append_left (by rw[List.length_append,a1];omega),List.getElem?_append_left (by omega)]
 have b1:μ7[1]?=some (vls B):=by rw[bb 1 (by omega) (by omega),nu0 1 (by omega),h6];rfl
 have b2:μ7[2]?=some (vls Fl):=by rw[bb 2 (by omega) (by omega),nu0 2 (by omega),h6];rfl
 have b3:μ7[3]?=some (vls Tm):=by rw[bb 3 (by omega) (by omega),nu0 3 (by omega),h6];rfl
 have b4:μ7[4]?=some (vls Ov):=by rw[bb 4 (by omega) (by omega),nu0 4 (by omega),h6];rfl
 have bn:μ7[6+n]?=some (vls Rg):=by
  rw[h7,aA (by omega),List.getElem?_append_left (by rw[List.length_append,List.length_append,a1];show 6+n<6+n+1+1;omega),List.getElem?_append_left (by rw[List.length_append,a1];show 6+n<6+n+1;omega),<-a1,List.getElem?_append_right (Nat.le_refl _),Nat.sub_self]
  rfl
 have bu:μ7[8+n]?=some (.lst HS):=by
  have e:((ν++[vls Rg])++[Ob.lst [Val.h (6+n)]]).length=8+n:=by rw[List.length_append,List.length_append,a1];show 6+n+1+1=_;omega
  rw[h7,aA (by omega),<-e,List.getElem?_append_right (Nat.le_refl _),Nat.sub_self]
  rfl
 have bc:∀p,p<=n->μ7[6+p]?=some (vls (bw ((so T rs).t.un p))):=λp hp=>by
  show _=some (vls (bw (if p=T.length then List.range T.length else [])))
  by_cases e:p=T.length
  ·rw[if_pos e,e,<-hn,bn,hRg]
  ·rw[if_neg e,bb (6+p) (by omega) (by omega),a3 p (by omega)]
   rfl
 have hview:∃X,lvN 4 μ7 (.h 0)=some X/\bg "Tree" "many" X=some (.int (rs.length:Int)):=by
  have hU:lvN 3 μ7 (.h (8+n))=some (.list ((List.range (n+1)).map λp=>PyData.list (bw ((so T rs).t.un p)))):=by
   show(match μ7[8+n]? with
     | some (.lst xs)=>(cY (xs.map (lvN 2 μ7))).map PyData.list
     | some (.ins c fs)=>(cY ((fs.map Prod.snd).map (lvN 2 μ7))).map λds=>iY c ((fs.map Prod.fst).zip ds)
     | _=>none)=_
   rw[bu]
   show(cY (HS.map (lvN 2 μ7))).map PyData.list=_
   rw[hHS,List.map_map,allS_map (f:=lvN 2 μ7∘λp=>Val.h (6+p)) (g:=λp=>PyData.list (bw ((so T rs).t.un p))) (l:=List.range (n+1)) λp hp=>cw (bc p (by have:=List.mem_range.mp hp;omega))]
   rfl
  refine⟨_,lv_ins (ds:=[.int (rs.length:Int),RL,.list B,.list Fl,.list Tm,.list Ov,.list ((List.range (n+1)).map λp=>PyData.list (bw ((so T rs).t.un p)))]) b0 ?_,f7_many _ _ _ _ _ _ _⟩
  show cY [lvN 3 μ7 (.d _),lvN 3 μ7 (.d _),lvN 3 μ7 (.h 1),lvN 3 μ7 (.h 2),lvN 3 μ7 (.h 3),lvN 3 μ7 (.h 4),lvN 3 μ7 (.h (8+n))]=_
  rw[bf,bf,cw b1,cw b2,cw b3,cw b4,hU]
  rfl
 obtain⟨X7,hX7,hm7⟩:=hview
 obtain⟨μ8,h8⟩:∃μ8,μ8=(μ7++[vls Hk]).set 0 (.ins "Tree" (gF rs.length RL n 8)):=⟨_,rfl⟩
 have l8:μ8.length=10+n:=by rw[h8,List.length_set,List.length_append,l7];show 9+n+1=_;omega
 obtain⟨μ9,h9⟩:∃μ9,μ9=(μ8++[vls Dp]).set 0 (.ins "Tree" (gF rs.length RL n 9)):=⟨_,rfl⟩
 have l9:μ9.length=11+n:=by rw[h9,List.length_set,List.length_append,l8];show 10+n+1=_;omega
 have c0:μ8[0]?=some (.ins "Tree" (gF rs.length RL n 8)):=by rw[h8];exact cn (by rw[List.length_append];omega)
 have d0:μ9[0]?=some (.ins "Tree" (gF rs.length RL n 9)):=by rw[h9];exact cn (by rw[List.length_append];omega)
 have cc:∀j,0<j->j<9+n->μ9[j]?=μ7[j]?:=λj h0 hj=>by
  rw[h9,aA (by omega),List.getElem?_append_left (by omega),h8,aA (by omega),List.getElem?_append_left (by omega)]
 have ch:μ9[9+n]?=some (vls Hk):=by
  rw[h9,aA (by omega),List.getElem?_append_left (by omega),h8,aA (by omega),<-l7,List.getElem?_append_right (Nat.le_refl _),Nat.sub_self]
  rfl
 have cd:μ9[10+n]?=some (vls Dp):=by
  rw[h9,aA (by omega),<-l8,List.getElem?_append_right (Nat.le_refl _),Nat.sub_self]
  rfl
 refine⟨μ9.set 0 (.ins "Tree" (tfs (Eo T rs))),?_,?_⟩
 ·refine es_runN (δ:=(iE TL RS n tt)) ?_
  rw[<-hTL,<-hRS]
  unfold ib
  refine aD (bA (bP (el (af (ac rfl) ao) lenT))) ?_
  refine aD (bA (v:=.d (.int tt)) (bP (el (ds:=[.list ((wts rs).map PyData.int)]) (af (cH (ds:=rs.map rl) (fv (x:=RS) (ac rfl) (by rw[hRS];rfl)) (aF (by rw[List.length_map];omega)) (wts_comp rs _)) ao) (by rw[htt];exact o_sumG _)))) ?_
  refine aD (dy (fs:=[]) (bP (el (af (ac rfl) ao) lenR)) (aO rfl) rfl (by show(0:Nat)<1000;omega)) ?_
  refine aD (dy (v:=.d RL) (fs:=(gF rs.length RL n 1)) (bP ?_) (aO rfl) rfl (by show(1:Nat)<1000;omega)) ?_
  ·rw[hRL]
   unfold ba
   rw[List.map_append]
   refine ft (gA (ft (ev_nListL (af (by rw[<-hRS];exact ac rfl) ao))) (cH (ds:=cb 0 (T.map PyData.int)) (ev_enumS (af (by rw[<-hTL];exact ac rfl) ao)) (aF ?_) ?_) (aF (by rw[List.length_map,List.length_map,iD];omega)))
   ·have:∀(i:Nat) (l:List D),(cb i l).length=l.length:=λi l=>by
     induction l generalizing i with
     | nil=>rfl
     | cons a l ih=>rw[cb,List.length_cons,List.length_cons,ih]
    rw[this,List.length_map]
    omega
   ·rw[<-hn]
    exact thr_comp n T 0 _ _
  have v2:lvN 4 [Ob.ins "Tree" (gF rs.length RL n 2)] (.h 0)=some (iY "Tree" [("many",.int (rs.length:Int)),("rules",RL)]):=rfl
  refine aD (dy (v:=.h 1) (μ1:=[.ins "Tree" (gF rs.length RL n 2),vls B]) (fs:=(gF rs.length RL n 2)) (es_newFN (ds:=B) (cH (ds:=(ba T rs).map rl) (fv (x:=RL) (ci (ap rfl v2) (f2_rules _ _)) (by rw[hRL];rfl)) (aF (by rw[List.length_map];omega)) (by rw[<-eB];exact bd_comp tt _ _)) fB) (aO rfl) rfl (by show(2:Nat)<1000;omega)) ?_
  have v3:lvN 4 [Ob.ins "Tree" (gF rs.length RL n 3),vls B] (.h 0)=some (iY "Tree" [("many",.int (rs.length:Int)),("rules",RL),("bounds",.list B)]):=by
   refine lv_ins (μ:=[Ob.ins "Tree" (gF rs.length RL n 3),vls B]) (fs:=(gF rs.length RL n 3)) (ds:=[.int (rs.length:Int),RL,.list B]) rfl ?_
   show cY [lvN 3 _ (.d _),lvN 3 _ (.d _),lvN 3 _ (.h 1)]=_
   rw[bf,bf,cw (ds:=B) rfl]
   rfl
  refine aD (dy (v:=.h 2) (μ1:=[.ins "Tree" (gF rs.length RL n 3),vls B,vls Fl]) (fs:=(gF rs.length RL n 3)) (es_newFN (ds:=Fl) (cH (ds:=(ba T rs).map rl) (fv (x:=RL) (ci (ap rfl v3) (f3_rules _ _ _)) (by rw[hRL];rfl)) (aF (by rw[List.length_map];omega)) (by rw[<-eF];exact ff_comp _ _ hffA)) fF) (aO rfl) rfl (by show(3:Nat)<1000;omega)) ?_
  refine aD (dy (v:=.h 3) (μ1:=[.ins "Tree" (gF rs.length RL n 4),vls B,vls Fl,vls Tm]) (fs:=(gF rs.length RL n 4)) (gB (ds:=Tm) (by rw[<-eT];exact gA (ft (ev_nListL (af (by rw[<-hTL];exact ap rfl bf) ao))) (ft (cg (af ar ao) rfl)) (aF (by rw[List.length_map];show T.length+1<=_;omega))) fT) (aO rfl) rfl (by show(4:Nat)<1000;omega)) ?_
  refine aD (dy (v:=.h 4) (μ1:=[.ins "Tree" (gF rs.length RL n 5),vls B,vls Fl,vls Tm,vls Ov]) (fs:=(gF rs.length RL n 5)) (gB (ds:=Ov) (by
   rw[<-eO]
   refine gA (ft ?_) (ft (cg (af ar ao) rfl)) (aF (by rw[List.length_replicate];show n+1<=_;omega))
   have:=ev_nRep (δ:=viewN 4 [Ob.ins "Tree" (gF rs.length RL n 5),vls B,vls Fl,vls Tm] (iE TL RS n tt)) (fn:=dW (ag (ad 3) aw)) (g:=ad 3) (d:=.int (n:Int)) (k:=(n:Int)) (cg (af (ap rfl bf) ao) rfl) (ap rfl bf) (by omega) (by omega)
   rw[Int.toNat_natCast] at this
   exact this) fO) (aO rfl) rfl (by show(5:Nat)<1000;omega)) ?_
  refine aD (dy (v:=.h (8+n)) (μ1:=((ν++[vls Rg])++[Ob.lst [Val.h (6+n)]])++[Ob.lst HS]) (μ2:=((ν++[vls Rg])++[Ob.lst [Val.h (6+n)]])++[Ob.lst HS]) (k:=0) (fs:=(gF rs.length RL n 6)) ?_ (aO rfl) ?_ (by show(6:Nat)<1000;omega)) ?_
  ·have hc:sCompN (dRng gZ (ag (ad 3) aw)) (dW aw) (iE TL RS n tt) μ6=R.ret (.h 5,ν):=by
    have hrg:gZ [.int (n:Int)]=some (b6 0 n):=by
     show(if b62 (n:Int)=true then some (b6 0 (n:Int).toNat) else none)=_
     rw[if_pos (by unfold b62;simp;omega),Int.toNat_natCast]
    have hcn:∀l:List D,compN (dW aw) l=M.ret (List.replicate l.length []):=λl=>by
     induction l with
     | nil=>rfl
     | cons a l ih =>
      show(nX (dW aw) [.vl a]).thn (λr=>if aM r=true then (compN (dW aw) l).thn λb7=>M.ret (r::b7) else none)=_
      rw[ih]
      rfl
    have hlr:(b6 0 n).length=n:=by unfold b6;rw[List.length_map,List.length_range]
    have:=es_compN (δ:=(iE TL RS n tt)) (μ:=μ6) (fi:=dRng gZ (ag (ad 3) aw)) (fn:=dW aw) (ds:=b6 0 n) (rows:=List.replicate n []) (ev_rngS (af (ac rfl) ao) hrg) (aF (by rw[hlr];omega)) (by rw[hcn,hlr])
    rw[this,l6,hν]
   have hl:sLst (cA (hG (nListR (ag (ad 3) aw))) sNil) (iE TL RS n tt) ν=R.ret (.h (7+n),(ν++[vls Rg])++[Ob.lst [Val.h (6+n)]]):=by
    have e1:hG (nListR (ag (ad 3) aw)) (iE TL RS n tt) ν=R.ret (.h (6+n),ν++[vls Rg]):=by
     have:=gB (δ:=(iE TL RS n tt)) (μ:=ν) (fn:=nListR (ag (ad 3) aw)) (ds:=Rg) (by
      unfold nListR
      rw[af (ap rfl bf) ao,aQ]
      show(if 0<=(n:Int)/\(n:Int)<=100000 then M.ret _ else none)=_
      rw[if_pos ⟨by omega,by omega⟩,hRg,Int.toNat_natCast]
      rfl) (by rw[hRg];exact nat_flat _)
     rw[this,a1]
    have e:(ν++[vls Rg]).length=7+n:=by rw[List.length_append,a1];show 6+n+1=_;omega
    have:=es_lst1 (cE e1 gQ) rfl
    rw[e] at this
    exact this
   rw[h6] at hc
   have hcat:=es_cat hc hl (xs:=[]++(List.range' 6 n).map Val.h) (zs:=[Val.h (6+n)]) (by
    rw[List.getElem?_append_left (by rw[List.length_append,a1];omega),List.getElem?_append_left (by omega)]
    exact a2) (by
    have e:(ν++[vls Rg]).length=7+n:=by rw[List.length_append,a1];show 6+n+1=_;omega
    rw[<-e,List.getElem?_append_right (Nat.le_refl _),Nat.sub_self]
    rfl) (aF (by rw[List.length_append,List.length_map,List.length_range'];show 0+n+1<=_;omega))
   rw[eHS] at hcat
   have e:((ν++[vls Rg])++[Ob.lst [Val.h (6+n)]]).length=8+n:=by rw[List.length_append,List.length_append,a1];show 6+n+1+1=_;omega
   rw[e] at hcat
   exact hcat
  ·rw[List.getElem?_append_left (by rw[List.length_append,List.length_append,a1];omega),List.getElem?_append_left (by rw[List.length_append,a1];omega),List.getElem?_append_left (by omega),nu0 0 (by omega),h6]
   rfl
  rw[show((((ν++[vls Rg])++[Ob.lst [Val.h (6+n)]])++[Ob.lst HS]).set 0 (.ins "Tree" (fV "under" (.h (8+n)) (gF rs.length RL n 6))):Sto)=μ7 from h7.symm]
  refine aD (dy (v:=.h (9+n)) (μ1:=μ7++[vls Hk]) (μ2:=μ7++[vls Hk]) (k:=0) (fs:=(gF rs.length RL n 7)) ?_ (aO rfl) (by rw[List.getElem?_append_left (by omega)];exact b0) (by show(7:Nat)<1000;omega)) ?_
  ·have hrg:gZ [.int (n:Int)]=some (b6 0 n):=by
    show(if b62 (n:Int)=true then some (b6 0 (n:Int).toNat) else none)=_
    rw[if_pos (by unfold b62;simp;omega),Int.toNat_natCast]
   have hlr:(b6 0 n).length=n:=by unfold b6;rw[List.length_map,List.length_range]
   have:=gB (δ:=(iE TL RS n tt)) (μ:=μ7) (fn:=nCat (cy 1 [0] (tgN 0) (dRng gZ (ag (ad 3) aw)) er (d2 cO (d1 (bg "Tree" "many") (ad 1)) (ad 0))) (iC (dW (ag (dC .none) aw)))) (ds:=Hk) (by
    rw[<-eH]
    refine gA (cH (ds:=b6 0 n) (ev_rngS (af (ap rfl bf) ao) hrg) (aF (by rw[hlr];omega)) ?_) (ft (cg (af ar ao) rfl)) (aF (by rw[List.length_map,List.length_range'];show n+1<=_;omega))
    show bZ _ _ _ _ [Sl.un,_]=_
    rw[slotN rfl hX7,rngD_nat]
    exact hk_comp rs.length X7 hm7 n 0 _) fH
   rw[l7] at this
   exact this
  rw[show((μ7++[vls Hk]).set 0 (.ins "Tree" (fV "hooks" (.h (9+n)) (gF rs.length RL n 7))):Sto)=μ8 from h8.symm]
  refine aD (dy (v:=.h (10+n)) (μ1:=μ8++[vls Dp]) (μ2:=μ8++[vls Dp]) (k:=0) (fs:=(gF rs.length RL n 8)) ?_ (aO rfl) (by rw[List.getElem?_append_left (by omega)];exact c0) (by show(8:Nat)<1000;omega)) ?_
  ·have:=gB (δ:=(iE TL RS n tt)) (μ:=μ8) (fn:=nCat (iC (nRep (dW (ag (dC (.int 1)) aw)) (ad 3))) (iC (dW (ag (dC (.int 0)) aw)))) (ds:=Dp) (by
    rw[<-eD]
    refine gA (ft ?_) (ft (cg (af ar ao) rfl)) (aF (by rw[List.length_replicate];show n+1<=_;omega))
    have:=ev_nRep (δ:=viewN 4 μ8 (iE TL RS n tt)) (fn:=dW (ag (dC (.int 1)) aw)) (g:=ad 3) (d:=.int 1) (k:=(n:Int)) (cg (af ar ao) rfl) (ap rfl bf) (by omega) (by omega)
    rw[Int.toNat_natCast] at this
    exact this) fD
   rw[l8] at this
   exact this
  rw[show((μ8++[vls Dp]).set 0 (.ins "Tree" (fV "depths" (.h (10+n)) (gF rs.length RL n 8))):Sto)=μ9 from h9.symm]
  have hlast:=dy (n:=([.ins "Tree" []]:Sto).length) (x := "begin") (fe:=b9 (dC (.int 0))) (fo:=aN 0) (δ:=(iE TL RS n tt)) (v:=.d (.int 0)) (μ:=μ9) (bP ar) (aO rfl) d0 (by show(9:Nat)<1000;omega)
  have ef:fV "begin" (.d (.int 0)) (gF rs.length RL n 9)=tfs (Eo T rs):=by
   unfold tfs Eo
   rw[hRL,hn]
   rfl
  rw[ef] at hlast
  exact hlast
 ·have hs:∀j,0<j->(μ9.set 0 (.ins "Tree" (tfs (Eo T rs))))[j]?=μ9[j]?:=λj hj=>aA (by omega)
  refine⟨cn (by omega),?_,?_,?_,?_,?_,λp hp=>?_,?_,?_⟩
  ·rw[hs 1 (by omega),cc 1 (by omega) (by omega),b1,hB];rfl
  ·rw[hs 2 (by omega),cc 2 (by omega) (by omega),b2,hFl];rfl
  ·rw[hs 3 (by omega),cc 3 (by omega) (by omega),b3,hTm,hn];rfl
  ·rw[hs 4 (by omega),cc 4 (by omega) (by omega),b4,hOv,hn];rfl
  ·show(μ9.set 0 _)[8+T.length]?=some (.lst ((List.range (T.length+1)).map λp=>Val.h (6+p)))
   rw[<-hn,hs _ (by omega),cc _ (by omega) (by omega),bu,hHS]
  ·have hp:p<=n:=by rw[hn];exact hp
   rw[hs _ (by omega),cc _ (by omega) (by omega)]
   exact bc p hp
  ·show(μ9.set 0 _)[9+T.length]?=some (vls (rg (T.length+1) λp=>ovD T.length ((so T rs).t.hk p) p))
   rw[<-hn,hs _ (by omega),ch,hHk]
  ·show(μ9.set 0 _)[10+T.length]?=some (vls (rg (T.length+1) λp=>.int ((so T rs).dp p:Int)))
   rw[<-hn,hs _ (by omega),cd,hDp]
end CT
open PySem PySem.Spec L2 DL SL
namespace CT
theorem cutLast(xs:List D):oCutS none (some (-1)) (.list xs)=some (.list xs.dropLast):=by
 show some (PyData.list (cutD xs none (some (-1))))=_
 unfold cutD HT.sIx
 rw[List.dropLast_eq_take]
 congr 2
 by_cases h:xs.length=0
 ·rw[List.length_eq_zero_iff.mp h];rfl
 ·simp
  congr 1
  omega
theorem cutHead(xs:List D)(n:Nat):oCutS none (some (n:Int)) (.list xs)=some (.list (xs.take n)):=by
 show some (PyData.list (cutD xs none (some (n:Int))))=_
 rw[cutL_take]
section
variable{T:List Int}{rs:List Rl}
theorem iM{k:Nat}(h:k<rs.length):(ba T rs).getD k r0=rs.getD k r0:=by
 unfold ba
 rw[List.getD_eq_getElem?_getD,List.getElem?_append_left h,List.getD_eq_getElem?_getD]
theorem aR_hi{p:Nat}(h:p<T.length):(ba T rs).getD (rs.length+p) r0=⟨p,T.length,-T.getD p 0,none,.tuple []⟩:=by
 unfold ba
 rw[List.getD_eq_getElem?_getD,List.getElem?_append_right (by omega),Nat.add_sub_cancel_left,<-List.getD_eq_getElem?_getD,thrs_get _ _ _ _ h,Nat.zero_add]
theorem aR_len:(ba T rs).length=rs.length+T.length:=by unfold ba;rw[List.length_append,iD]
theorem wts_nn(hw:∀r∈rs,∀w,r.w=some w->0<=w):0<=(wts rs).sum:=by
 induction rs with
 | nil=>exact Int.le_refl _
 | cons r rs ih =>
  have ih:=ih λq hq=>hw q (List.mem_cons_of_mem _ hq)
  unfold wts
  split
  ·exact ih
  ·rename_i w e
   have:=hw r List.mem_cons_self w e
   rw[List.sum_cons];omega
theorem dZ{k:Nat}(h:k<rs.length):rs.getD k r0∈rs:=by
 rw[List.getD_eq_getElem?_getD,List.getElem?_eq_getElem h]
 exact List.getElem_mem h
theorem sm_head(f:Nat->Int):∀k,TR.sm (k+1) f=f 0+TR.sm k λj=>f (j+1)
 | 0=>by show 0+f 0=f 0+0;omega
 | k+1=>by rw[TR.sm,sm_head f k,TR.sm];omega
theorem sm_list(f:Rl->Int):∀l:List Rl,TR.sm l.length (λk=>f (l.getD k r0))=(l.map f).sum
 | []=>rfl
 | a::l=>by
  rw[List.length_cons,sm_head,List.map_cons,List.sum_cons,<-sm_list f l]
  rfl
theorem wts_sum(tt:Int):∀l:List Rl,(l.map λr=>if r.w.isNone=true then 0 else bdr tt r).sum=(wts l).sum
 | []=>rfl
 | r::l=>by
  rw[List.map_cons,List.sum_cons,wts_sum tt l,wts]
  unfold bdr
  cases hw:r.w with
  | none=>exact Int.zero_add _
  | some w=>exact(List.sum_cons).symm
theorem Inv0(hp:Pts T.length rs)(hw:∀r∈rs,∀w,r.w=some w->0<=w)(hk:KeptT (λv=>T.getD v 0) rs):TR.Inv (Eo T rs).net (so T rs):=by
 have ht:=wts_nn hw
 have T0:T.getD T.length 0=0:=by rw[List.getD_eq_getElem?_getD,List.getElem?_eq_none (Nat.le_refl _)];rfl
 have cas:∀k,k<(ba T rs).length->(k<rs.length/\(ba T rs).getD k r0=rs.getD k r0/\rs.getD k r0∈rs)\/∃p,p<T.length/\k=rs.length+p/\(ba T rs).getD k r0=⟨p,T.length,-T.getD p 0,none,.tuple []⟩:=λk hk=>by
  rw[aR_len] at hk
  rcases Nat.lt_or_ge k rs.length with z | z
  ·exact .inl ⟨z,iM z,dZ z⟩
  ·exact .inr ⟨k-rs.length,by omega,by omega,by rw[show k=rs.length+(k-rs.length) by omega];rw[aR_hi (by omega)];rw[Nat.add_sub_cancel_left]⟩
 have must0:∀r∈rs,r.w=none->r.lo=r.hi->r.le<=0:=λr hr hn hl=>by
  have:=hk r hr hn
  rw[hl] at this
  omega
 have ff:∀k,k<(ba T rs).length->(ffr ((ba T rs).getD k r0)=0\/(((ba T rs).getD k r0).lo=((ba T rs).getD k r0).hi/\0<((ba T rs).getD k r0).le/\ffr ((ba T rs).getD k r0)=bdr (wts rs).sum ((ba T rs).getD k r0)))/\0<=bdr (wts rs).sum ((ba T rs).getD k r0):=λk hk=>by
  rcases cas k hk with ⟨_,e,hm⟩ | ⟨p,hp,_,e⟩
  ·rw[e]
   have h1:=hw _ hm
   have h2:=must0 _ hm
   generalize rs.getD k r0=r at h1 h2
   unfold ffr bdr
   cases hw:r.w with
   | none =>
    refine⟨.inl ?_,by show 0<=(wts rs).sum+1;omega⟩
    split<;>rfl
   | some w =>
    refine⟨?_,h1 w hw⟩
    by_cases c:r.lo=r.hi/\0<r.le
    ·rw[if_pos c];exact .inr ⟨c.1,c.2,rfl⟩
    ·rw[if_neg c];exact .inl rfl
  ·rw[e]
   refine⟨.inl ?_,by show 0<=(wts rs).sum+1;omega⟩
   unfold ffr
   split<;>rfl
 refine⟨⟨rfl,?_,λp hp=>?_⟩,λq hq=>?_,λp hp=>?_,λp hp=>?_,λk hk=>?_,λk hk _=>?_,λp=>?_,λp hp=>?_,λk hk hl=>?_,T0⟩
 ·show(if T.length<T.length then 1 else 0)=0
  rw[if_neg (Nat.lt_irrefl _)]
 ·have hp:p<T.length:=hp
  refine⟨Nat.le_refl _,?_⟩
  show(if p<T.length then 1 else 0)=(if T.length<T.length then 1 else 0)+1
  rw[if_pos hp,if_neg (Nat.lt_irrefl _)]
 ·show(if q=T.length then List.range T.length else []).Nodup/\∀p,p∈(if q=T.length then List.range T.length else [])↔p<T.length/\T.length=q
  by_cases e:q=T.length
  ·rw[if_pos e]
   exact⟨List.nodup_range,λp=>by rw[List.mem_range];omega⟩
  ·rw[if_neg e]
   exact⟨List.nodup_nil,λp=>⟨(λz=>by cases z),λz=>absurd z.2.symm e⟩⟩
 ·have hp:p<T.length:=hp
  refine⟨?_,.inl ⟨?_,?_⟩⟩
  ·show rs.length+p<(ba T rs).length
   rw[aR_len];omega
  ·show((ba T rs).getD (rs.length+p) r0).lo=p
   rw[aR_hi hp]
  ·show((ba T rs).getD (rs.length+p) r0).hi=T.length
   rw[aR_hi hp]
 ·have hp:p<T.length:=hp
  show((ba T rs).getD (rs.length+p) r0).le-T.getD ((ba T rs).getD (rs.length+p) r0).hi 0+T.getD ((ba T rs).getD (rs.length+p) r0).lo 0=0
  rw[aR_hi hp]
  show -T.getD p 0-T.getD T.length 0+T.getD p 0=0
  rw[T0];omega
 ·show 0<=ffr ((ba T rs).getD k r0)/\ffr ((ba T rs).getD k r0)<=bdr (wts rs).sum ((ba T rs).getD k r0)
  obtain⟨h1,h2⟩:=ff k hk
  rcases h1 with z | ⟨_,_,z⟩<;>rw[z]<;>omega
 ·show ffr ((ba T rs).getD k r0)=0\/ffr ((ba T rs).getD k r0)=bdr (wts rs).sum ((ba T rs).getD k r0)
  rcases (ff k hk).1 with z | ⟨_,_,z⟩
  ·exact .inl z
  ·exact .inr z
 ·rw[TR.bz (g:=λ_=>0) λk hk=>?_,TR.iT]
  show ffr ((ba T rs).getD k r0)*TR.inc _ p k=0
  rcases (ff k hk).1 with z | ⟨z,_,_⟩
  ·rw[z,Int.zero_mul]
  ·unfold TR.inc
   show _*((if ((ba T rs).getD k r0).hi=p then 1 else 0)-(if ((ba T rs).getD k r0).lo=p then 1 else 0))=0
   rw[z,Int.sub_self,Int.mul_zero]
 ·have hp:p<T.length:=hp
  show 0<(if ((ba T rs).getD (rs.length+p) r0).lo=p then bdr (wts rs).sum ((ba T rs).getD (rs.length+p) r0)-ffr ((ba T rs).getD (rs.length+p) r0) else ffr ((ba T rs).getD (rs.length+p) r0))
  rw[aR_hi hp,if_pos rfl]
  unfold bdr ffr
  show 0<(wts rs).sum+1-(if p=T.length/\_ then _ else 0)
  rw[if_neg (by omega)]
  omega
 ·have hl:((ba T rs).getD k r0).lo=((ba T rs).getD k r0).hi:=hl
  show(0<((ba T rs).getD k r0).le->ffr ((ba T rs).getD k r0)=bdr (wts rs).sum ((ba T rs).getD k r0))/\(((ba T rs).getD k r0).le<=0->ffr ((ba T rs).getD k r0)=0)
  refine⟨λh=>?_,λh=>?_⟩
  ·rcases cas k hk with ⟨_,e,hm⟩ | ⟨p,hp,_,e⟩
   ·rw[e] at hl h ⊢
    have h2:=must0 _ hm
    generalize rs.getD k r0=r at hl h h2
    unfold ffr bdr
    rw[if_pos ⟨hl,h⟩]
    cases hw:r.w with
    | none=>have:=h2 hw hl;omega
    | some w=>rfl
   ·rw[e] at hl
    have hl:p=T.length:=hl
    omega
  ·unfold ffr
   rw[if_neg (by omega)]
theorem Nw0(hp:Pts T.length rs)(hk:KeptT (λv=>T.getD v 0) rs):TR.Nw (Eo T rs).net rs.length (λk=>(rs.getD k r0).w.isNone) (wts rs).sum (λv=>T.getD v 0):=by
 refine⟨aR_len,λk h=>?_,λk h=>?_,λp h=>?_,?_,λk h hm=>?_,λk h hm=>?_⟩
 ·show((ba T rs).getD k r0).lo<T.length
  rw[iM h];exact(hp _ (dZ h)).1
 ·show((ba T rs).getD k r0).hi<T.length
  rw[iM h];exact(hp _ (dZ h)).2
 ·have h:p<T.length:=h
  show((ba T rs).getD (rs.length+p) r0).lo=p/\((ba T rs).getD (rs.length+p) r0).hi=T.length
  rw[aR_hi h]
  exact⟨rfl,rfl⟩
 ·rw[<-wts_sum (wts rs).sum rs,<-sm_list]
  refine TR.bz λk h=>?_
  show(if (rs.getD k r0).w.isNone=true then 0 else bdr (wts rs).sum ((ba T rs).getD k r0))=_
  rw[iM h]
 ·show bdr (wts rs).sum ((ba T rs).getD k r0)=(wts rs).sum+1
  rw[iM h]
  unfold bdr
  rw[Option.isNone_iff_eq_none.mp hm]
 ·show((ba T rs).getD k r0).le<=T.getD ((ba T rs).getD k r0).hi 0-T.getD ((ba T rs).getD k r0).lo 0
  rw[iM h]
  have this:T.getD (rs.getD k r0).lo 0+(rs.getD k r0).le<=T.getD (rs.getD k r0).hi 0:=hk _ (dZ h) (Option.isNone_iff_eq_none.mp hm)
  omega
end
def cst(T:List Int)(r:Rl):Int:=match r.w with
 | none=>0
 | some w=>w*max 0 (r.le-T.getD r.hi 0+T.getD r.lo 0)
structure Lt(m:Nat)(rs:List Rl)(T F:List Int):Prop where
 lT:T.length=m+1
 t0:T.getD 0 0=0
 lF:F.length=rs.length
 bb:∀k,k<rs.length->0<=F.getD k 0/\∀w,(rs.getD k r0).w=some w->F.getD k 0<=w
 cs:∀p,p<m+1->TR.sm rs.length (λk=>F.getD k 0*((if (rs.getD k r0).hi=p then 1 else 0)-(if (rs.getD k r0).lo=p then 1 else 0)))=0
 kp:KeptT (λv=>T.getD v 0) rs
 eq:TR.sm rs.length (λk=>F.getD k 0*(rs.getD k r0).le)=TR.sm rs.length (λk=>cst T (rs.getD k r0))
theorem hJ{n:Nat}{f:Nat->Int}{k:Nat}(h:k<n):((List.range n).map f).getD k 0=f k:=by
 rw[List.getD_eq_getElem?_getD,List.getElem?_map,List.getElem?_range h]
 rfl
theorem tim_comp{n:Nat}{f:Nat->Int}{X:D}{t0:Int}(h:bg "Tree" "times" X=some (.list (rg n λp=>.int (f p))))(h0:oIx (.list (rg n λp=>.int (f p))) (.int 0)=some (.int t0)):∀(q:List Int) (x:Sl),bZ (tgN 0) (nX er) (nX (d2 oSub (ad 0) (d2 oIx (d1 (bg "Tree" "times") (ad 1)) (dC (.int 0))))) (q.map PyData.int) [x,.vl X]=M.ret ((q.map λt=>t-t0).map PyData.int)
 | [],x=>rfl
 | t::q,x=>dw (δ':=[.vl (.int t),.vl X]) rfl (ak (ac rfl) (ak (ci (ac rfl) h) ar h0) o_sub) (tim_comp h h0 q _)
theorem timing_ev{E:Tn}{s:TR.St}{X:D}(Tf':Tf E s X)(hn:0<E.n)(hz:E.n<=900):ec [X]=M.ret (.list (((List.range E.n).map λp=>s.tm p-s.tm 0).map PyData.int)):=by
 refine ck ?_
 unfold fI
 have hc:oCutS none (some (-1)) (.list (rg (E.n+1) λp=>.int (s.tm p)))=some (.list (((List.range E.n).map s.tm).map PyData.int)):=by
  rw[cutLast,rg_snoc,List.dropLast_concat]
  unfold rg
  rw[List.map_map]
  rfl
 have e:((List.range E.n).map λp=>s.tm p-s.tm 0)=((List.range E.n).map s.tm).map λt=>t-s.tm 0:=by rw[List.map_map];rfl
 rw[e]
 exact dv (cH (ds:=((List.range E.n).map s.tm).map PyData.int) (fv (ev_cutS (ci (ac rfl) Tf'.times) ev_nopart (ev_part (ci ar rfl)) hc) rfl) (aF (by rw[List.length_map,List.length_map,List.length_range];omega)) (tim_comp Tf'.times (dR (k:=0) (by omega)) _ _))
theorem flow_ev{E:Tn}{s:TR.St}{X:D}(Tf':Tf E s X)(hm:E.m<=E.rs.length):bF [X]=M.ret (.list (((List.range E.m).map s.fl).map PyData.int)):=by
 refine ck ?_
 unfold cu
 refine dv (ev_cutS (ci (ac rfl) Tf'.flow) ev_nopart (ev_part (ci (ac rfl) Tf'.many)) ?_)
 rw[cutHead]
 unfold rg
 rw[<-List.map_take,List.take_range,Nat.min_eq_left hm,List.map_map]
 rfl
theorem least_ev{m:Nat}{rs:List Rl}(hp:Pts (m+1) rs)(hm:m<=800)(hr:rs.length<50)(hw:∀r∈rs,∀w,r.w=some w->0<=w)(hy:∀r∈rs,bM r.why=true) :
  (∃L:List Int,bR [.int (m:Int),.list (rs.map rl)]=M.ret (.tuple [.str "ring",.list (L.map PyData.int)])/\0<L.length/\L.length<=m+1/\ringD rs (L.map PyData.int)=true) \/
  (∃T F:List Int,bR [.int (m:Int),.list (rs.map rl)]=M.ret (.tuple [.str "timed",.list (T.map PyData.int),.list (F.map PyData.int)])/\Lt m rs T F):=by
 have toF:∀{d:D} {μ:Sto},cZ [.d (.int (m:Int)),.d (.list (rs.map rl))] []=R.ret (.d d,μ)->bR [.int (m:Int),.list (rs.map rl)]=M.ret d:=λ{d μ} h=>by
  unfold bR asD
  show(match cZ [.d (.int (m:Int)),.d (.list (rs.map rl))] [] with | some (.ok (.d x,_))=>M.ret x | _=>none)=_
  rw[h]
  rfl
 have eqr:oEq (.str "ring") (.str "ring")=some (.bool true):=by kernel_rfl
 have eqk:oEq (.str "kept") (.str "ring")=some (.bool false):=by kernel_rfl
 rcases keeping_fullS hp (by omega) with ⟨T,h1,h2,h3,h4⟩ | ⟨L,h1,h2,h3,h4⟩
 ·right
  obtain⟨RS,hRS⟩:∃RS:D,RS=.list (rs.map rl):=⟨_,rfl⟩
  have hp':Pts T.length rs:=by rw[h2];exact hp
  have hE:(Eo T rs).n=m+1:=h2
  have hm':(Eo T rs).m<=(Eo T rs).rs.length:=by show rs.length<=(ba T rs).length;rw[aR_len];omega
  obtain⟨μ0,e0,P0⟩:=init_ev (T:=T) (rs:=rs) (by omega) (by omega) λr hr hl h0 hn=>by
   have:=h4 r hr hn
   rw[hl] at this
   omega
  have hPin:Pin (Eo T rs):=λk hk=>by
   show((ba T rs).getD k r0).lo<=T.length/\((ba T rs).getD k r0).hi<=T.length
   have hk:k<(ba T rs).length:=hk
   rw[aR_len] at hk
   rcases Nat.lt_or_ge k rs.length with z | z
   ·rw[iM z];have:=hp' _ (dZ z);omega
   ·rw[show k=rs.length+(k-rs.length) by omega,aR_hi (by omega)]
    show k-rs.length<=T.length/\T.length<=T.length
    omega
  have hFla:Fla (Eo T rs):=λk hk=>by
   show bM (rl ((ba T rs).getD k r0))=true
   have hk:k<(ba T rs).length:=hk
   rw[aR_len] at hk
   have fl:∀r:Rl,bM r.why=true->bM (rl r)=true:=λr h=>by
    show(true&&(true&&(true&&(bM (wD r.w)&&(bM r.why&&true)))))=true
    rw[h]
    cases r.w<;>rfl
   rcases Nat.lt_or_ge k rs.length with z | z
   ·rw[iM z];exact fl _ (hy _ (dZ z))
   ·rw[show k=rs.length+(k-rs.length) by omega,aR_hi (by omega)];rfl
  obtain⟨s,μ1,e1,P1,I1,hno⟩:=settle_ev P0 (Inv0 hp' hw h4) hPin hFla hm' (show rs.length<50 from hr) (by omega)
  have G:=I1.ends (Nw0 hp' h4) hno
  obtain⟨X,hX,Tf'⟩:=P1.tf
  have ht:=timing_ev Tf' (by omega) (by omega)
  have hf:=flow_ev Tf' hm'
  rw[hE] at ht
  have hf:bF [X]=M.ret (.list (((List.range rs.length).map s.fl).map PyData.int)):=hf
  refine⟨(List.range (m+1)).map λp=>s.tm p-s.tm 0,(List.range rs.length).map s.fl,toF (μ:=[]) ?_,⟨by rw[List.length_map,List.length_range],?_,by rw[List.length_map,List.length_range],λk hk=>?_,λp hpm=>?_,λr hr hn=>?_,?_⟩⟩
  ·refine es_run ?_
   unfold dn
   refine aD (bA (es_call (cE (aO rfl) (cE (aO rfl) gQ)) h1)) ?_
   refine aD (ig (b:=false) (eh (bj (ak (ak (ac rfl) ar (rfl:oIx (.tuple [.str "kept",.list (T.map PyData.int)]) (.int 0)=some (.str "kept"))) ar eqk))) (gg rfl rfl)) ?_
   refine aD (bA (es_mk (cE (bP (ak (ac rfl) ar (rfl:oIx (.tuple [.str "kept",.list (T.map PyData.int)]) (.int 1)=some (.list (T.map PyData.int))))) (cE (aO rfl) gQ)) e0)) ?_
   refine aD (jb (es_met (aO rfl) P0.h0 rfl gQ e1)) ?_
   exact es_retN (du (af ar (af (cG Tf' nf_timing (ap rfl hX) ao ht) (af (cG Tf' nf_fr (ap rfl hX) ao hf) ao))) rfl)
  ·rw[hJ (by omega)];exact Int.sub_self _
  ·rw[hJ hk]
   obtain⟨g1,g2⟩:=G.bb k hk
   refine⟨g1,λw hw=>?_⟩
   have:=g2 (by rw[hw];rfl)
   have hb:(Eo T rs).net.bd k=w:=by
    show bdr (wts rs).sum ((ba T rs).getD k r0)=w
    rw[iM hk]
    unfold bdr
    rw[hw]
   omega
  ·have:=G.cs p (by show p<T.length;omega)
   refine Eq.trans (TR.bz λk hk=>?_) this
   rw[hJ hk]
   unfold TR.inc
   show _=s.fl k*((if ((ba T rs).getD k r0).hi=p then 1 else 0)-(if ((ba T rs).getD k r0).lo=p then 1 else 0))
   rw[iM hk]
  ·obtain⟨k,hk,rfl⟩:=List.mem_iff_getElem.mp hr
   have hg:rs.getD k r0=rs[k]:=by rw[List.getD_eq_getElem?_getD,List.getElem?_eq_getElem hk];rfl
   have:=G.mu k hk (by rw[hg,hn];rfl)
   obtain⟨p1,p2⟩:=hp _ hr
   show((List.range (m+1)).map λp=>s.tm p-s.tm 0).getD (rs[k]).lo 0+(rs[k]).le<=((List.range (m+1)).map λp=>s.tm p-s.tm 0).getD (rs[k]).hi 0
   rw[hJ p1,hJ p2]
   have this:((ba T rs).getD k r0).le-s.tm ((ba T rs).getD k r0).hi+s.tm ((ba T rs).getD k r0).lo<=0:=this
   rw[iM hk,hg] at this
   omega
  ·have:=G.eq
   rw[TR.bz (g:=λk=>s.fl k*(Eo T rs).net.ln k) λk hk=>?_,this]
   ·refine TR.bz λk hk=>?_
    obtain⟨p1,p2⟩:=hp _ (dZ hk)
    unfold cst TR.lack
    show(if (rs.getD k r0).w.isNone=true then 0 else bdr (wts rs).sum ((ba T rs).getD k r0)*max 0 (((ba T rs).getD k r0).le-s.tm ((ba T rs).getD k r0).hi+s.tm ((ba T rs).getD k r0).lo))=_
    rw[iM hk,hJ p1,hJ p2]
    generalize rs.getD k r0=r
    unfold bdr
    cases hw:r.w with
    | none=>rfl
    | some w =>
     show w*max 0 _=w*max 0 _
     congr 2
     omega
   ·rw[hJ hk]
    show _=s.fl k*((ba T rs).getD k r0).le
    rw[iM hk]
 ·left
  refine⟨L,toF (μ:=[]) ?_,h2,h3,h4⟩
  refine es_run ?_
  unfold dn
  refine aD (bA (es_call (cE (aO rfl) (cE (aO rfl) gQ)) h1)) ?_
  exact es_seqR (ig (b:=true) (eh (bj (ak (ak (ac rfl) ar (rfl:oIx (.tuple [.str "ring",.list (L.map PyData.int)]) (.int 0)=some (.str "ring"))) ar eqr))) (fP rfl (es_ret (aO rfl))))
end CT
open PySem PySem.Spec L2 DL CT
namespace CT
theorem fresh_iff:∀(l acc:List Int),freshL acc l=true↔(∀x∈l,x∉acc)/\l.Nodup
 | [],acc=>⟨λ_=>⟨λx h=>(nomatch h),List.nodup_nil⟩,λ_=>rfl⟩
 | a::l,acc=>by
  rw[freshL,Bool.and_eq_true,fresh_iff l (acc++[a]),List.nodup_cons]
  have h1:(!(acc.any (·==a)))=true↔a∉acc:=by
   rw[Bool.not_eq_true',List.any_eq_false]
   exact⟨λh z=>h a z (by simp),λh x hx z=>h ((show x=a from by simpa using z)▸hx)⟩
  rw[h1]
  constructor
  ·rintro⟨g1,g2,g3⟩
   refine⟨λx hx=>?_,λz=>g2 a z (by simp),g3⟩
   rcases List.mem_cons.mp hx with rfl | hx
   ·exact g1
   ·exact λz=>g2 x hx (List.mem_append_left _ z)
  ·rintro⟨g1,g2,g3⟩
   refine⟨g1 a List.mem_cons_self,λx hx z=>?_,g3⟩
   rcases List.mem_append.mp z with z | z
   ·exact g1 x (List.mem_cons_of_mem _ hx) z
   ·rw[List.mem_singleton] at z
    exact g2 (z▸hx)
structure IsR(q:List Rl):Prop where
 rnd:q.map hiI=(q.map loI).drop 1++(q.map loI).take 1
 nd:(q.map loI).Nodup
 no:∀r∈q,r.w=none
 pos:0<(q.map leI).sum
 ne:q≠[]
theorem isR_of{rs:List Rl}{L:List Int}(h:ringD rs (L.map PyData.int)=true):IsR ((L.map PyData.int).map (atR rs))/\∀r∈(L.map PyData.int).map (atR rs),r∈rs:=by
 unfold ringD ringB at h
 simp only[Bool.and_eq_true,decide_eq_true_eq] at h
 obtain⟨h1,h2,⟨h3,h4⟩,h5,h6⟩:=h
 refine⟨⟨h3,((fresh_iff _ _).mp h4).2,λr hr=>?_,h6,λz=>?_⟩,λr hr=>?_⟩
 ·have:=List.all_eq_true.mp h5 r hr
  exact Option.isNone_iff_eq_none.mp this
 ·have:L.map PyData.int=[]:=List.map_eq_nil_iff.mp z
  rw[this] at h1
  cases h1
 ·obtain⟨d,hd,rfl⟩:=List.mem_map.mp hr
  have:=List.all_eq_true.mp h2 d hd
  obtain⟨i,_,rfl⟩:=List.mem_map.mp hd
  unfold okE at this
  rw[Bool.and_eq_true,decide_eq_true_eq,decide_eq_true_eq] at this
  show rs.getD i.toNat r0∈rs
  rw[List.getD_eq_getElem?_getD,List.getElem?_eq_getElem (by omega)]
  exact List.getElem_mem _
theorem rot_sum{α:Type}(g:α->Int)(l:List α):((l.drop 1++l.take 1).map g).sum=(l.map g).sum:=by
 cases l with
 | nil=>rfl
 | cons a l=>simp [List.map_append,List.sum_append,Int.add_comm]
theorem sum_le{t:Nat->Int}:∀(q:List Rl),(∀r∈q,t r.lo+r.le<=t r.hi)->(q.map λr=>t r.lo).sum+(q.map leI).sum<=(q.map λr=>t r.hi).sum
 | [],_=>Int.le_refl _
 | r::q,h=>by
  have ih:=sum_le q λa ha=>h a (List.mem_cons_of_mem _ ha)
  have hr:=h r List.mem_cons_self
  simp only[List.map_cons,List.sum_cons]
  have:leI r=r.le:=rfl
  omega
theorem IsR.not_kept{q:List Rl}(h:IsR q){t:Nat->Int}(hk:∀r∈q,t r.lo+r.le<=t r.hi):False:=by
 have h1:=sum_le q hk
 have e1:(q.map λr=>t r.lo).sum=((q.map loI).map λi=>t i.toNat).sum:=by
  rw[List.map_map];rfl
 have e2:(q.map λr=>t r.hi).sum=((q.map hiI).map λi=>t i.toNat).sum:=by
  rw[List.map_map];rfl
 rw[e1,e2,h.rnd,rot_sum] at h1
 have:=h.pos
 omega
end CT
namespace K41
open PySem PySem.Spec L2 DL CT SL
noncomputable def dq:DS->M Out:=(bq (gIf (dB (d2 oLt (ad 1) (dCB fg (ag (ad 0) aw)))) (eL (d2 oIx (ad 0) (ad 1))) fQ)
  (eL (dC (.int 0))))
noncomputable def bB:List D->M D:=run 2 dq
noncomputable def gv:DS->M Out:=(eL (dAndV (dIs "int" (ad 0)) (dNotV (dIs "bool" (ad 0)))))
noncomputable def cR:List D->M D:=run 1 gv
noncomputable def dO:DS->M Out:=(bq (cx (d2 im (d2 oMul (d2 cO (d2 cO (ad 3) (ad 4)) (dC (.int 1))) (dC (.int 48271))) (dC (.int 2147483647))) (tgN 3))
  (gApp 2 (ad 3)))
noncomputable def eE:DS->M Out:=(bq (gNewL 2 (dW aw))
  (bq (cx (d2 im (ad 0) (dC (.int 2147483647))) (tgN 3))
  (bq (gForI (dRng gZ (ag (ad 1) aw)) (tgN 4) dO)
  (gRetO 2))))
noncomputable def dE:List D->M D:=run 5 eE
noncomputable def cW:DS->M Out:=(bq (cx (cf (λds=>noX (dE ds)) (ag (ad 3) (ag (dC (.int 3)) aw))) (tgN 4))
  (bq (cx (d2 oSub (d2 im (d2 oIx (ad 4) (dC (.int 0))) (dC (.int 41))) (dC (.int 20))) (tgN 5))
  (bq (gIf (dB (ad 1)) (cx (d2 oSub (d2 im (d2 oIx (ad 4) (dC (.int 0))) (d2 cO (d2 oMul (dC (.int 2)) (d2 oPow (dC (.int 10)) (dC (.int 9)))) (dC (.int 1)))) (d2 oPow (dC (.int 10)) (dC (.int 9)))) (tgN 5)) fQ)
  (gApp 2 (gG (ag (ad 5) (ag (d2 oIx (dLst (ag (d2 im (d2 oIx (ad 4) (dC (.int 1))) (dC (.int 10))) (ag (d2 im (d2 oIx (ad 4) (dC (.int 1))) (dC (.int 100))) aw))) (d2 oDiv (d2 im (d2 oIx (ad 4) (dC (.int 2))) (dC (.int 4))) (dC (.int 3)))) (ag (d2 oEq (d2 im (d2 oDiv (d2 oIx (ad 4) (dC (.int 2))) (dC (.int 4))) (dC (.int 2))) (dC (.int 0))) aw))))))))
noncomputable def fG:DS->M Out:=(bq (gNewL 2 (dW aw))
  (bq (gForI (gH (ad 0)) (tgN 3) cW)
  (gRetO 2)))
noncomputable def d6:List D->M D:=run 6 fG
noncomputable def eR:DS->M Out:=(gIf (dB (d2 oIx (ad 3) (dC (.int 2)))) (gApp 1 (gG (ag (dC (.int 0)) (ag (dC (.int 1)) (ag (d2 oIx (ad 3) (dC (.int 0))) (ag (d2 oIx (ad 3) (dC (.int 1))) (ag (gG (ag (dC (.str "from")) (ag (ad 2) aw))) aw))))))) (gApp 1 (gG (ag (dC (.int 1)) (ag (dC (.int 0)) (ag (d2 oSub (dC (.int 0)) (d2 oIx (ad 3) (dC (.int 0)))) (ag (d2 oIx (ad 3) (dC (.int 1))) (ag (gG (ag (dC (.str "till")) (ag (ad 2) aw))) aw))))))))
noncomputable def gw:DS->M Out:=(bq (gNewL 1 (dW aw))
  (bq (gForI (dEnum (ag (ad 0) aw)) (tgTup 2 (cN (tgN 2) (cN (tgN 3) tgNil))) eR)
  (gRetO 1)))
noncomputable def eU:List D->M D:=run 4 gw
noncomputable def eS:DS->M Out:=(gIf (dB (ad 5)) (cx (d2 cO (ad 2) (d2 oMul (ad 4) (dCB oMax (ag (dC (.int 0)) (ag (d2 oSub (ad 3) (ad 1)) aw))))) (tgN 2)) (cx (d2 cO (ad 2) (d2 oMul (ad 4) (dCB oMax (ag (dC (.int 0)) (ag (d2 oSub (ad 1) (ad 3)) aw))))) (tgN 2)))
noncomputable def gx:DS->M Out:=(bq (cx (dC (.int 0)) (tgN 2))
  (bq (gForI (gH (ad 0)) (tgTup 3 (cN (tgN 3) (cN (tgN 4) (cN (tgN 5) tgNil)))) eS)
  (eL (ad 2))))
noncomputable def bY:List D->M D:=run 6 gx
noncomputable def b_law_0:DS->M Out:=(bq (gIf (dOr (dNot (dB (cf (λds=>noX (cR ds)) (ag (d2 oIx (ad 8) (ad 11)) aw)))) (dOr (dB (d2 oLt (d2 oIx (ad 8) (ad 11)) (dC (.int 0)))) (dAnd (dB (d2 io (d2 oIx (ad 12) (dC (.int 3))) (dC .none))) (dB (d2 oGt (d2 oIx (ad 8) (ad 11)) (d2 oIx (ad 12) (dC (.int 3)))))))) (eL (dC (.bool false))) fQ)
  (gIf (dAnd (dB (d2 oIs (d2 oIx (ad 12) (dC (.int 3))) (dC .none))) (dB (d2 oLt (d2 oSub (d2 oIx (ad 7) (d2 oIx (ad 12) (dC (.int 1)))) (d2 oIx (ad 7) (d2 oIx (ad 12) (dC (.int 0))))) (d2 oIx (ad 12) (dC (.int 2)))))) (eL (dC (.bool false))) fQ))
noncomputable def g_law:DS->M Out:=(bq (cx (cf (λds=>noX (bB ds)) (ag (ad 0) (ag (dC (.int 0)) aw))) (tgN 1))
  (bq (cx (cf (λds=>noX (d6 ds)) (ag (dCutS (ad 0) (dPart (dC (.int 2))) (dPart (dC (.int 22)))) (ag (d2 oEq (d2 im (ad 1) (dC (.int 2))) (dC (.int 1))) aw))) (tgN 2))
  (bq (cx (cf (λds=>noX (eU ds)) (ag (ad 2) aw)) (tgN 3))
  (bq (cx (d2 cO (dLst (ag (dC (.int 0)) aw)) (cy 1 [] (tgN 0) (gH (ad 2)) er (d2 oIx (ad 0) (dC (.int 0))))) (tgN 4))
  (bq (gIf (dB (d2 oEq (d2 im (d2 oDiv (ad 1) (dC (.int 2))) (dC (.int 2))) (dC (.int 1)))) (bq (cx (d2 oSub (d2 cO (d2 oIx (ad 4) (d2 im (cf (λds=>noX (bB ds)) (ag (ad 0) (ag (dC (.int 1)) aw))) (dCB fg (ag (ad 4) aw)))) (d2 im (d2 oDiv (cf (λds=>noX (bB ds)) (ag (ad 0) (ag (dC (.int 1)) aw))) (dC (.int 64))) (dC (.int 3)))) (dC (.int 1))) (tgN 9))
  (bq (cx (d2 im (d2 oDiv (cf (λds=>noX (bB ds)) (ag (ad 0) (ag (dC (.int 1)) aw))) (dC (.int 200))) (d2 cO (dCB fg (ag (ad 3) aw)) (dC (.int 1)))) (tgN 10))
  (bq (cx (d2 cO (d2 cO (dCutS (ad 3) dNoPart (dPart (ad 10))) (dLst (ag (gG (ag (dC (.int 0)) (ag (dC (.int 1)) (ag (ad 9) (ag (dC .none) (ag (gG (ag (dC (.str "must")) (ag (dC (.int 0)) aw))) aw)))))) aw))) (dCutS (ad 3) (dPart (ad 10)) dNoPart)) (tgN 3))
  (cx (d2 cO (dLst (ag (ad 9) aw)) (cy 1 [9] (tgN 0) (gH (ad 4)) (dB (d2 oGe (ad 0) (ad 1))) (ad 0))) (tgN 4))))) fQ)
  (bq (cx (dCB oMinM (ag (cy 1 [2] (tgN 0) (gH (ad 4)) er (cf (λds=>noX (bY ds)) (ag (ad 1) (ag (ad 0) aw)))) aw)) (tgN 5))
  (bq (cx (cf (λds=>noX (bR ds)) (ag (dC (.int 1)) (ag (dCB oListOf (ag (ad 3) aw)) aw))) (tgN 6))
  (bq (gIf (dOr (dNot (dB (dIs "tuple" (ad 6)))) (dOr (dB (d2 oNe (dCB fg (ag (ad 6) aw)) (dC (.int 3)))) (dB (d2 oNe (d2 oIx (ad 6) (dC (.int 0))) (dC (.str "timed")))))) (eL (dC (.bool false))) fQ)
  (bq (cx (d2 oIx (ad 6) (dC (.int 1))) (tgN 7))
  (bq (cx (d2 oIx (ad 6) (dC (.int 2))) (tgN 8))
  (bq (gIf (dOr (dNot (dB (dIs "list" (ad 7)))) (dOr (dB (d2 oNe (dCB fg (ag (ad 7) aw)) (dC (.int 2)))) (dOr (dB (d2 oNe (d2 oIx (ad 7) (dC (.int 0))) (dC (.int 0)))) (dNot (dB (cf (λds=>noX (cR ds)) (ag (d2 oIx (ad 7) (dC (.int 1))) aw))))))) (eL (dC (.bool false))) fQ)
  (bq (gIf (dOr (dNot (dB (dIs "list" (ad 8)))) (dB (d2 oNe (dCB fg (ag (ad 8) aw)) (dCB fg (ag (ad 3) aw))))) (eL (dC (.bool false))) fQ)
  (bq (gForI (dEnum (ag (ad 3) aw)) (tgTup 2 (cN (tgN 11) (cN (tgN 12) tgNil))) b_law_0)
  (eL (d2 oEq (cf (λds=>noX (bY ds)) (ag (ad 2) (ag (d2 oIx (ad 7) (dC (.int 1))) aw))) (ad 5))))))))))))))))
noncomputable def F_law:List D->M D:=run 13 g_law
end K41
open PySem PySem.Spec L2 DL CT
namespace K41
theorem cell_at_ev(ns:List Int)(k:Int)(k0:0<=k):∃c,bB [.list (ns.map PyData.int),.int k]=M.ret (.int c):=by
 by_cases h:k.toNat<ns.length
 ·refine⟨ns[k.toNat],ck ?_⟩
  unfold dq
  refine ev_seqIf (b:=true) (bj (ak (ac rfl) (el (af (ac rfl) ao) o_lenL) (by rw[o_lt,List.length_map,decide_eq_true (by omega)]))) (fP rfl (ev_seqR (dv (ak (ac rfl) (ac rfl) (ix_nat k0 ?_)))))
  rw[List.getElem?_map,List.getElem?_eq_getElem h]
  rfl
 ·refine⟨0,ck ?_⟩
  unfold dq
  exact ev_seqIf (b:=false) (bj (ak (ac rfl) (el (af (ac rfl) ao) o_lenL) (by rw[o_lt,List.length_map,decide_eq_false (by omega)]))) (gg rfl (ev_seqN (dv ar)))
theorem num_loop(A B:Sl):∀(q i:Nat) (l:List Int) (m:Int) (x:Sl),l.length+q<=1000->∃(l':List Int) (m':Int) (y:Sl),l'.length=l.length+q/\((∀x∈l,0<=x/\x<2147483647)->∀x∈l',0<=x/\x<2147483647)/\forD (e8 (tgN 4) dO) ((List.range' i q).map λj:Nat=>PyData.int (j:Int)) [A,B,.ow (l.map PyData.int),.vl (.int m),x]=M.ret (.nx [A,B,.ow (l'.map PyData.int),.vl (.int m'),y])
 | 0,i,l,m,x,_=>⟨l,m,x,rfl,λh=>h,rfl⟩
 | q+1,i,l,m,x,hz=>by
  obtain⟨v,hv⟩:∃v:Int,v=(m+(i:Int)+1)*48271 % 2147483647:=⟨_,rfl⟩
  obtain⟨l',m',y,h1,h2,h3⟩:=num_loop A B q (i+1) (l++[v]) v (.vl (.int (i:Int))) (by rw[List.length_append];show l.length+1+q<=1000;omega)
  refine⟨l',m',y,by rw[h1,List.length_append];show l.length+1+q=_;omega,λh=>h2 λz hz=>?_,?_⟩
  ·rcases List.mem_append.mp hz with hz | hz
   ·exact h z hz
   ·rw[List.mem_singleton] at hz;omega
  ·rw[List.range'_succ,List.map_cons]
   rw[List.map_append] at h3
   refine gK (ie (δ':=[A,B,.ow (l.map PyData.int),.vl (.int m),.vl (.int (i:Int))]) rfl ?_) h3
   unfold dO
   exact aT (bo (d:=.int v) (by rw[hv];exact ak (ak (ak (ak (ac rfl) (ac rfl) eY) ar eY) ar (o_mul (bMul_r (by decide) (by decide)))) ar (gM (by decide)))) (ev_app (d:=.int v) rfl (ac rfl) (aF (by rw[List.length_map];omega)))
theorem numbers_ev(c:Int)(n:Nat)(hn:n<=100):∃l:List Int,l.length=n/\(∀x∈l,0<=x/\x<2147483647)/\dE [.int c,.int (n:Int)]=M.ret (.list (l.map PyData.int)):=by
 have hr:gZ [.int (n:Int)]=some (b6 0 n):=by
  show(if b62 (n:Int)=true then some (b6 0 (n:Int).toNat) else none)=_
  rw[if_pos (by unfold b62;simp;omega),Int.toNat_natCast]
 obtain⟨l,m,y,h1,h2,h3⟩:=num_loop (.vl (.int c)) (.vl (.int (n:Int))) n 0 [] (c % 2147483647) .un (by show 0+n<=1000;omega)
 refine⟨l,by rw[h1];exact Nat.zero_add n,h2 (λx hx=>nomatch hx),ck ?_⟩
 unfold eE
 refine aT (ev_newL (ds:=[]) (cg ao rfl)) ?_
 refine aT (bo (ak (ac rfl) ar (gM (by decide)))) ?_
 exact aT (ja (ev_rngS (af (ac rfl) ao) (by rw[hr,rngD_nat])) h3) rfl
end K41
open PySem PySem.Spec L2 DL
namespace DL
def pk(l:List Int)(i:Int):Int:=l.getD i.toNat 0
theorem ix_pick2{a b i:Int}(h0:0<=i)(h1:i<2):oIx (.list [.int a,.int b]) (.int i)=some (.int (pk [a,b] i)):=by
 refine ix_nat h0 ?_
 have:i=0\/i=1:=by omega
 rcases this with rfl | rfl<;>rfl
end DL
open PySem PySem.Spec L2 DL CT
namespace K41
structure Wi where
 a:Int
 w:Int
 b:Bool
def wi(x:Wi):D:=.tuple [.int x.a,.int x.w,.bool x.b]
def Wok(x:Wi):Prop:=0<=x.w/\x.w<=99
theorem getD_bd{l:List Int}{n:Nat}(hl:l.length=n)(hb:∀x∈l,0<=x/\x<2147483647)(i:Nat):0<=l.getD i 0/\l.getD i 0<2147483647:=by
 rw[List.getD_eq_getElem?_getD]
 cases e:l[i]? with
 | none=>exact⟨by decide,by decide⟩
 | some x=>exact hb x (List.mem_of_getElem? e)
theorem pk2_w{a b i:Int}(ha:0<=a/\a<=99)(hb:0<=b/\b<=99)(h0:0<=i)(h1:i<2):0<=pk [a,b] i/\pk [a,b] i<=99:=by
 have:i=0\/i=1:=by omega
 rcases this with rfl | rfl
 ·exact ha
 ·exact hb
theorem wish_step(CC:D)(far:Bool)(acc:List D)(hz:acc.length<=1000)(c:Int)(x3 x4 x5:Sl):∃(x:Wi) (y4 y5:Sl),Wok x/\e8 (tgN 3) cW (.int c) [.vl CC,.vl (.bool far),.ow acc,x3,x4,x5]=M.ret (.nx [.vl CC,.vl (.bool far),.ow (acc++[wi x]),.vl (.int c),y4,y5]):=by
 obtain⟨l,hl,hb,hn⟩:=numbers_ev c 3 (by decide)
 have b0:=getD_bd hl hb 0
 have b1:=getD_bd hl hb 1
 have b2:=getD_bd hl hb 2
 obtain⟨A,hA⟩:∃A:D,PyData.list (l.map PyData.int)=A:=⟨_,rfl⟩
 have mid:∃m0 mo:Int,(cx (d2 oSub (d2 im (d2 oIx (ad 4) (dC (.int 0))) (dC (.int 41))) (dC (.int 20))) (tgN 5)) [.vl CC,.vl (.bool far),.ow acc,.vl (.int c),.vl A,x5]=M.ret (.nx [.vl CC,.vl (.bool far),.ow acc,.vl (.int c),.vl A,.vl (.int m0)])/\(gIf (dB (ad 1)) (cx (d2 oSub (d2 im (d2 oIx (ad 4) (dC (.int 0))) (d2 cO (d2 oMul (dC (.int 2)) (d2 oPow (dC (.int 10)) (dC (.int 9)))) (dC (.int 1)))) (d2 oPow (dC (.int 10)) (dC (.int 9)))) (tgN 5)) fQ) [.vl CC,.vl (.bool far),.ow acc,.vl (.int c),.vl A,.vl (.int m0)]=M.ret (.nx [.vl CC,.vl (.bool far),.ow acc,.vl (.int c),.vl A,.vl (.int mo)]):=by
  cases far with
  | true=>exact⟨_,_,bo (ak (ak (ak (ac rfl) ar (hA▸dL (T:=l) (i:=0) (by omega))) ar (gM (by first | decide | omega))) ar o_sub),iu (b:=true) (bj (ac rfl)) (fP rfl (bo (ak (ak (ak (ac rfl) ar (hA▸dL (T:=l) (i:=0) (by omega))) (ak (ak ar (ak ar ar o_pow9) (o_mul (bMul_l (by decide) (by decide)))) ar eY) (gM (by first | decide | omega))) (ak ar ar o_pow9) o_sub)))⟩
  | false=>exact⟨_,_,bo (ak (ak (ak (ac rfl) ar (hA▸dL (T:=l) (i:=0) (by omega))) ar (gM (by first | decide | omega))) ar o_sub),iu (b:=false) (bj (ac rfl)) (gg rfl rfl)⟩
 obtain⟨m0,mo,hm1,hm2⟩:=mid
 obtain⟨wv,hwv⟩:∃wv:Int,wv=(pk [((l.getD 1 0) % 10),((l.getD 1 0) % 100)] (((l.getD 2 0) % 4) / 3)):=⟨_,rfl⟩
 refine⟨⟨mo,wv,decide (l.getD 2 0 / 4 % 2=0)⟩,.vl A,.vl (.int mo),?_,ie (δ':=[.vl CC,.vl (.bool far),.ow acc,.vl (.int c),x4,x5]) rfl ?_⟩
 ·show 0<=wv/\wv<=99
  rw[hwv]
  exact pk2_w (by omega) (by omega) (by omega) (by omega)
 unfold cW
 refine aT (bo (d:=A) (by rw[<-hA];exact(cP (af (ac rfl) (af ar ao)) hn))) ?_
 have fin:(gApp 2 (gG (ag (ad 5) (ag (d2 oIx (dLst (ag (d2 im (d2 oIx (ad 4) (dC (.int 1))) (dC (.int 10))) (ag (d2 im (d2 oIx (ad 4) (dC (.int 1))) (dC (.int 100))) aw))) (d2 oDiv (d2 im (d2 oIx (ad 4) (dC (.int 2))) (dC (.int 4))) (dC (.int 3)))) (ag (d2 oEq (d2 im (d2 oDiv (d2 oIx (ad 4) (dC (.int 2))) (dC (.int 4))) (dC (.int 2))) (dC (.int 0))) aw))))) [.vl CC,.vl (.bool far),.ow acc,.vl (.int c),.vl A,.vl (.int mo)]=M.ret (.nx [.vl CC,.vl (.bool far),.ow (acc++[wi ⟨mo,wv,decide (l.getD 2 0 / 4 % 2=0)⟩]),.vl (.int c),.vl A,.vl (.int mo)]):=ev_app (ds:=acc) rfl (by rw[hwv];exact(du (af (ac rfl) (af (ak (ev_lst (af (ak (ak (ac rfl) ar (hA▸dL (T:=l) (i:=1) (by omega))) ar (gM (by first | decide | omega))) (af (ak (ak (ac rfl) ar (hA▸dL (T:=l) (i:=1) (by omega))) ar (gM (by first | decide | omega))) ao)) rfl) (ak (ak (ak (ac rfl) ar (hA▸dL (T:=l) (i:=2) (by omega))) ar (gM (by first | decide | omega))) ar (o_div (bDiv_of (by first | decide | omega) (by first | decide | omega)))) (ix_pick2 (by omega) (by omega))) (af (ak (ak (ak (ak (ac rfl) ar (hA▸dL (T:=l) (i:=2) (by omega))) ar (o_div (bDiv_of (by first | decide | omega) (by first | decide | omega)))) ar (gM (by first | decide | omega))) ar o_eq) ao))) rfl)) (aF (by omega))
 exact aT hm1 (aT hm2 fin)
theorem wishes_ev(is:List Int)(hi:is.length<=100)(far:Bool):∃ws:List Wi,ws.length=is.length/\(∀x∈ws,Wok x)/\d6 [.list (is.map PyData.int),.bool far]=M.ret (.list (ws.map wi)):=by
 obtain⟨CC,hCC⟩:∃CC:D,CC=.list (is.map PyData.int):=⟨_,rfl⟩
 have main:∀(q:List Int) (acc:List Wi) (x3 x4 x5:Sl),acc.length+q.length<=900->∃(ws:List Wi) (y3 y4 y5:Sl),ws.length=q.length/\(∀r∈ws,Wok r)/\forD (e8 (tgN 3) cW) (q.map PyData.int) [.vl CC,.vl (.bool far),.ow (acc.map wi),x3,x4,x5]=M.ret (.nx [.vl CC,.vl (.bool far),.ow ((acc++ws).map wi),y3,y4,y5]):=by
  intro q
  induction q with
  | nil=>intro acc x3 x4 x5 _;exact⟨[],_,_,_,rfl,(λc h=>nomatch h),by rw[List.append_nil];rfl⟩
  | cons c q ih =>
   intro acc x3 x4 x5 hz
   rw[List.length_cons] at hz
   obtain⟨r,y4,y5,hk,hs⟩:=wish_step CC far (acc.map wi) (by rw[List.length_map];omega) c x3 x4 x5
   obtain⟨rs,z3,z4,z5,i1,i2,hI⟩:=ih (acc++[r]) (.vl (.int c)) y4 y5 (by rw[List.length_append,List.length_singleton];omega)
   refine⟨r::rs,z3,z4,z5,by rw[List.length_cons,List.length_cons,i1],λe he=>?_,?_⟩
   ·rcases List.mem_cons.mp he with rfl | he
    ·exact hk
    ·exact i2 e he
   ·rw[List.map_append] at hI
    rw[List.append_assoc] at hI
    exact gK hs hI
 obtain⟨rs,y3,y4,y5,h1,h2,h3⟩:=main is [] .un .un .un (by show 0+_<=_;omega)
 refine⟨rs,h1,h2,ck ?_⟩
 rw[<-hCC]
 unfold fG
 refine aT (ev_newL (ds:=[]) (cg ao rfl)) ?_
 rw[List.nil_append] at h3
 exact aT (ja (ds:=is.map PyData.int) (fv (ac rfl) (by rw[hCC];rfl)) h3) rfl
def wr(k:Nat)(x:Wi):Rl:=if x.b=true then ⟨0,1,x.a,some x.w,.tuple [.str "from",.int (k:Int)]⟩ else ⟨1,0,0-x.a,some x.w,.tuple [.str "till",.int (k:Int)]⟩
def wrs:Nat->List Wi->List Rl
 | _,[]=>[]
 | k,x::q=>wr k x::wrs (k+1) q
theorem wrs_len:∀(q:List Wi) (k:Nat),(wrs k q).length=q.length
 | [],_=>rfl
 | x::q,k=>by rw[wrs,List.length_cons,wrs_len q,List.length_cons]
theorem wrs_mem:∀(q:List Wi) (k:Nat) (r:Rl),r∈wrs k q->∃x∈q,∃j,r=wr j x
 | x::q,k,r,h=>by
  rcases List.mem_cons.mp h with rfl | h
  ·exact⟨x,List.mem_cons_self,k,rfl⟩
  ·obtain⟨y,hy,j,e⟩:=wrs_mem q (k+1) r h
   exact⟨y,List.mem_cons_of_mem _ hy,j,e⟩
theorem rules_ev(ws:List Wi)(hi:ws.length<=100):eU [.list (ws.map wi)]=M.ret (.list ((wrs 0 ws).map rl)):=by
 obtain⟨CC,hCC⟩:∃CC:D,CC=.list (ws.map wi):=⟨_,rfl⟩
 have main:∀(q:List Wi) (k:Nat) (acc:List D) (x2 x3:Sl),acc.length+q.length<=900->∃y2 y3:Sl,forD (e8 (tgTup 2 (cN (tgN 2) (cN (tgN 3) tgNil))) eR) (cb k (q.map wi)) [.vl CC,.ow acc,x2,x3]=M.ret (.nx [.vl CC,.ow (acc++(wrs k q).map rl),y2,y3]):=by
  intro q
  induction q with
  | nil=>intro k acc x2 x3 _;exact⟨x2,x3,by show _=M.ret (Out.nx [.vl CC,.ow (acc++[]),x2,x3]);rw[List.append_nil];rfl⟩
  | cons x q ih =>
   intro k acc x2 x3 hz
   rw[List.length_cons] at hz
   obtain⟨y2,y3,hI⟩:=ih (k+1) (acc++[rl (wr k x)]) (.vl (.int (k:Int))) (.vl (wi x)) (by rw[List.length_append,List.length_singleton];omega)
   refine⟨y2,y3,?_⟩
   rw[wrs,List.map_cons]
   rw[List.append_assoc] at hI
   refine gK (ie (δ':=[.vl CC,.ow acc,.vl (.int (k:Int)),.vl (wi x)]) rfl ?_) hI
   unfold eR
   have hb:(d2 oIx (ad 3) (dC (.int 2))) [.vl CC,.ow acc,.vl (.int (k:Int)),.vl (wi x)]=M.ret (.bool x.b):=ak (ac rfl) ar rfl
   cases hxb:x.b with
   | true =>
    have e:rl (wr k x)=.tuple [.int 0,.int 1,.int x.a,.int x.w,.tuple [.str "from",.int (k:Int)]]:=by unfold wr;rw[if_pos hxb];rfl
    rw[e]
    exact iu (b:=true) (bj (by rw[<-hxb];exact hb)) (fP rfl (ev_app (ds:=acc) rfl (du (af ar (af ar (af (ak (ac rfl) ar rfl) (af (ak (ac rfl) ar rfl) (af (du (af ar (af (ac rfl) ao)) rfl) ao))))) rfl) (aF (by omega))))
   | false =>
    have e:rl (wr k x)=.tuple [.int 1,.int 0,.int (0-x.a),.int x.w,.tuple [.str "till",.int (k:Int)]]:=by unfold wr;rw[if_neg (by rw[hxb];exact Bool.false_ne_true)];rfl
    rw[e]
    exact iu (b:=false) (bj (by rw[<-hxb];exact hb)) (gg rfl (ev_app (ds:=acc) rfl (du (af ar (af ar (af (ak ar (ak (d:=.int x.a) (x:=wi x) (ac rfl) ar rfl) o_sub) (af (ak (ac rfl) ar rfl) (af (du (af ar (af (ac rfl) ao)) rfl) ao))))) rfl) (aF (by omega))))
 obtain⟨y2,y3,h3⟩:=main ws 0 [] .un .un (by show 0+_<=_;omega)
 refine ck ?_
 rw[<-hCC]
 unfold gw
 refine aT (ev_newL (ds:=[]) (cg ao rfl)) ?_
 rw[List.nil_append] at h3
 exact aT (ja (ds:=cb 0 (ws.map wi)) (ev_enumS (af (by rw[<-hCC];exact ac rfl) ao)) h3) rfl
def pc(y:Int)(x:Wi):Int:=x.w*max 0 (if x.b=true then x.a-y else y-x.a)
theorem price_ev(ws:List Wi)(hw:∀x∈ws,Wok x)(y:Int):bY [.list (ws.map wi),.int y]=M.ret (.int (ws.map (pc y)).sum):=by
 obtain⟨CC,hCC⟩:∃CC:D,CC=.list (ws.map wi):=⟨_,rfl⟩
 have main:∀(q:List Wi) (t:Int) (x3 x4 x5:Sl),(∀x∈q,Wok x)->∃y3 y4 y5:Sl,forD (e8 (tgTup 3 (cN (tgN 3) (cN (tgN 4) (cN (tgN 5) tgNil)))) eS) (q.map wi) [.vl CC,.vl (.int y),.vl (.int t),x3,x4,x5]=M.ret (.nx [.vl CC,.vl (.int y),.vl (.int (t+(q.map (pc y)).sum)),y3,y4,y5]):=by
  intro q
  induction q with
  | nil=>intro t x3 x4 x5 _;exact⟨x3,x4,x5,by show _=M.ret (Out.nx [.vl CC,.vl (.int y),.vl (.int (t+0)),x3,x4,x5]);rw[Int.add_zero];rfl⟩
  | cons x q ih =>
   intro t x3 x4 x5 hq
   have hx:=hq x List.mem_cons_self
   unfold Wok at hx
   obtain⟨y3,y4,y5,hI⟩:=ih (t+pc y x) (.vl (.int x.a)) (.vl (.int x.w)) (.vl (.bool x.b)) (λz hz=>hq z (List.mem_cons_of_mem _ hz))
   refine⟨y3,y4,y5,?_⟩
   rw[List.map_cons,List.map_cons,List.sum_cons]
   rw[Int.add_assoc] at hI
   refine gK (ie (δ':=[.vl CC,.vl (.int y),.vl (.int t),.vl (.int x.a),.vl (.int x.w),.vl (.bool x.b)]) rfl ?_) hI
   unfold eS
   cases hxb:x.b with
   | true =>
    have e:pc y x=x.w*max 0 (x.a-y):=by unfold pc;rw[if_pos hxb]
    rw[e]
    exact iu (b:=true) (bj (ac rfl)) (fP rfl (bo (ak (ac rfl) (ak (ac rfl) (el (af ar (af (ak (ac rfl) (ac rfl) o_sub) ao)) o_max) (o_mul (bMul_l (by omega) (by omega)))) eY)))
   | false =>
    have e:pc y x=x.w*max 0 (y-x.a):=by unfold pc;rw[if_neg (by rw[hxb];exact Bool.false_ne_true)]
    rw[e]
    exact iu (b:=false) (bj (ac rfl)) (gg rfl (bo (ak (ac rfl) (ak (ac rfl) (el (af ar (af (ak (ac rfl) (ac rfl) o_sub) ao)) o_max) (o_mul (bMul_l (by omega) (by omega)))) eY)))
 obtain⟨y3,y4,y5,h3⟩:=main ws 0 .un .un .un hw
 rw[Int.zero_add] at h3
 refine ck ?_
 rw[<-hCC]
 unfold gx
 refine aT (bo ar) ?_
 exact aT (ja (ds:=ws.map wi) (fv (ac rfl) (by rw[hCC];rfl)) h3) (dv (ac rfl))
end K41
open PySem PySem.Spec L2 DL CT
namespace K41
def slp(A:Int)(x:Wi):Int:=if x.b=true then (if x.a<=A then 0 else -x.w) else (if x.a<=A then x.w else 0)
theorem pc_lin{A B t:Int}(x:Wi)(h:x.a<=A\/B<=x.a)(h1:A<=t)(h2:t<=B):pc t x=pc A x+(t-A)*slp A x:=by
 unfold pc slp
 cases x.b with
 | true =>
  rw[if_pos rfl,if_pos rfl,if_pos rfl]
  rcases Int.lt_or_le A x.a with z | z
  ·rw[if_neg (by omega),Int.max_eq_right (by omega),Int.max_eq_right (by omega)]
   grind
  ·rw[if_pos z,Int.max_eq_left (by omega),Int.max_eq_left (by omega)]
   grind
 | false =>
  rw[if_neg Bool.false_ne_true,if_neg Bool.false_ne_true,if_neg Bool.false_ne_true]
  rcases Int.lt_or_le A x.a with z | z
  ·rw[if_neg (by omega),Int.max_eq_left (by omega),Int.max_eq_left (by omega)]
   grind
  ·rw[if_pos z,Int.max_eq_right (by omega),Int.max_eq_right (by omega)]
   grind
theorem sum_lin{A B t:Int}(h1:A<=t)(h2:t<=B):∀ws:List Wi,(∀x∈ws,x.a<=A\/B<=x.a)->(ws.map (pc t)).sum=(ws.map (pc A)).sum+(t-A)*(ws.map (slp A)).sum
 | [],_=>by show(0:Int)=0+(t-A)*0;omega
 | x::ws,h=>by
  rw[List.map_cons,List.map_cons,List.map_cons,List.sum_cons,List.sum_cons,List.sum_cons,sum_lin h1 h2 ws (λy hy=>h y (List.mem_cons_of_mem _ hy)),pc_lin x (h x List.mem_cons_self) h1 h2,Int.mul_add]
  omega
theorem slp_up{A:Int}:∀ws:List Wi,(∀x∈ws,Wok x)->(∀x∈ws,x.a<=A)->0<=(ws.map (slp A)).sum
 | [],_,_=>Int.le_refl 0
 | x::ws,h,g=>by
  have i:=slp_up ws (λy hy=>h y (List.mem_cons_of_mem _ hy)) (λy hy=>g y (List.mem_cons_of_mem _ hy))
  have h1:=h x List.mem_cons_self
  have g1:=g x List.mem_cons_self
  unfold Wok at h1
  rw[List.map_cons,List.sum_cons]
  have:0<=slp A x:=by unfold slp;cases x.b<;>simp [g1]<;>omega
  omega
theorem slp_dn{A:Int}:∀ws:List Wi,(∀x∈ws,Wok x)->(∀x∈ws,A<x.a)->(ws.map (slp A)).sum<=0
 | [],_,_=>Int.le_refl 0
 | x::ws,h,g=>by
  have i:=slp_dn ws (λy hy=>h y (List.mem_cons_of_mem _ hy)) (λy hy=>g y (List.mem_cons_of_mem _ hy))
  have h1:=h x List.mem_cons_self
  have g1:=g x List.mem_cons_self
  unfold Wok at h1
  rw[List.map_cons,List.sum_cons]
  have g2:¬x.a<=A:=by omega
  have:slp A x<=0:=by unfold slp;cases x.b<;>simp [g2]<;>omega
  omega
theorem ex_low(y:Int):∀tr:List Int,(∀t∈tr,y<t)\/∃L∈tr,L<=y/\∀t∈tr,t<=y->t<=L
 | []=>.inl λt h=>nomatch h
 | a::tr=>by
  rcases ex_low y tr with h | ⟨L,h1,h2,h3⟩
  ·rcases Int.lt_or_le y a with z | z
   ·exact .inl λt ht=>(List.mem_cons.mp ht).elim (λe=>by omega) (h t)
   ·exact .inr ⟨a,List.mem_cons_self,z,λt ht hy=>(List.mem_cons.mp ht).elim (λe=>by omega) (λht=>by have:=h t ht;omega)⟩
  ·rcases Int.lt_or_le y a with z | z
   ·exact .inr ⟨L,List.mem_cons_of_mem _ h1,h2,λt ht hy=>(List.mem_cons.mp ht).elim (λe=>by omega) (λht=>by have:=h3 t ht hy;omega)⟩
   ·rcases Int.lt_or_le L a with u | u
    ·exact .inr ⟨a,List.mem_cons_self,z,λt ht hy=>(List.mem_cons.mp ht).elim (λe=>by omega) (λht=>by have:=h3 t ht hy;omega)⟩
    ·exact .inr ⟨L,List.mem_cons_of_mem _ h1,h2,λt ht hy=>(List.mem_cons.mp ht).elim (λe=>by omega) (λht=>by have:=h3 t ht hy;omega)⟩
theorem ex_high(y:Int):∀tr:List Int,(∀t∈tr,t<y)\/∃L∈tr,y<=L/\∀t∈tr,y<=t->L<=t
 | []=>.inl λt h=>nomatch h
 | a::tr=>by
  rcases ex_high y tr with h | ⟨L,h1,h2,h3⟩
  ·rcases Int.lt_or_le a y with z | z
   ·exact .inl λt ht=>(List.mem_cons.mp ht).elim (λe=>by omega) (h t)
   ·exact .inr ⟨a,List.mem_cons_self,z,λt ht hy=>(List.mem_cons.mp ht).elim (λe=>by omega) (λht=>by have:=h t ht;omega)⟩
  ·rcases Int.lt_or_le a y with z | z
   ·exact .inr ⟨L,List.mem_cons_of_mem _ h1,h2,λt ht hy=>(List.mem_cons.mp ht).elim (λe=>by omega) (λht=>by have:=h3 t ht hy;omega)⟩
   ·rcases Int.lt_or_le a L with u | u
    ·exact .inr ⟨a,List.mem_cons_self,z,λt ht hy=>(List.mem_cons.mp ht).elim (λe=>by omega) (λht=>by have:=h3 t ht hy;omega)⟩
    ·exact .inr ⟨L,List.mem_cons_of_mem _ h1,h2,λt ht hy=>(List.mem_cons.mp ht).elim (λe=>by omega) (λht=>by have:=h3 t ht hy;omega)⟩
theorem best_at{ws:List Wi}(hw:∀x∈ws,Wok x){tr:List Int}(hne:tr≠[])(y:Int)(h:∀x∈ws,x.a∈tr\/∃l∈tr,x.a<=l/\l<=y):∃t∈tr,(ws.map (pc t)).sum<=(ws.map (pc y)).sum:=by
 rcases ex_low y tr with hl | ⟨L,l1,l2,l3⟩
 ·rcases ex_high y tr with hh | ⟨R,r1,r2,r3⟩
  ·exfalso
   cases tr with
   | nil=>exact hne rfl
   | cons a tr=>have:=hl a List.mem_cons_self;have:=hh a List.mem_cons_self;omega
  ·refine⟨R,r1,?_⟩
   have hx:∀x∈ws,R<=x.a/\y<x.a:=λx hx=>by
    rcases h x hx with a | ⟨l,a,b,c⟩
    ·have:=hl _ a;exact⟨r3 _ a (by omega),this⟩
    ·have:=hl _ a;omega
   rw[sum_lin (A:=y) (B:=R) r2 (Int.le_refl _) ws λx h=>.inr (hx x h).1]
   have s:=slp_dn ws hw λx h=>(hx x h).2
   have:=Int.mul_nonneg (show 0<=R-y by omega) (show 0 <= -(ws.map (slp y)).sum by omega)
   rw[Int.mul_neg] at this
   omega
 ·rcases ex_high y tr with hh | ⟨R,r1,r2,r3⟩
  ·refine⟨L,l1,?_⟩
   have hx:∀x∈ws,x.a<=L:=λx hx=>by
    rcases h x hx with a | ⟨l,a,b,c⟩
    ·have:=hh _ a;exact l3 _ a (by omega)
    ·have:=l3 _ a c;omega
   rw[sum_lin (A:=L) (B:=y) (t:=y) l2 (Int.le_refl _) ws λx h=>.inl (hx x h)]
   have:=Int.mul_nonneg (show 0<=y-L by omega) (slp_up ws hw hx)
   omega
  ·have hx:∀x∈ws,x.a<=L\/R<=x.a:=λx hx=>by
    rcases h x hx with a | ⟨l,a,b,c⟩
    ·rcases Int.lt_or_le y x.a with z | z
     ·exact .inr (r3 _ a (by omega))
     ·exact .inl (l3 _ a z)
    ·have:=l3 _ a c;exact .inl (by omega)
   have e1:=sum_lin (A:=L) (B:=R) (t:=y) l2 r2 ws hx
   have e2:=sum_lin (A:=L) (B:=R) (t:=R) (by omega) (Int.le_refl _) ws hx
   rcases Int.lt_or_le (ws.map (slp L)).sum 0 with z | z
   ·refine⟨R,r1,?_⟩
    rw[e1,e2]
    have:=Int.mul_nonneg (show 0<=R-y by omega) (show 0 <= -(ws.map (slp L)).sum by omega)
    rw[Int.mul_neg,Int.sub_mul] at this
    rw[Int.sub_mul,Int.sub_mul]
    omega
   ·refine⟨L,l1,?_⟩
    rw[e1]
    have:=Int.mul_nonneg (show 0<=y-L by omega) z
    omega
theorem minL_mem{l:List Int}(h:l≠[]):minL l∈l:=by
 cases l with
 | nil=>exact absurd rfl h
 | cons a r =>
  obtain⟨_,_,h3⟩:=gz r a
  rcases h3 with h3 | h3
  ·exact List.mem_cons.mpr (.inl h3)
  ·exact List.mem_cons_of_mem _ h3
theorem minL_le{l:List Int}{x:Int}(h:x∈l):minL l<=x:=by
 cases l with
 | nil=>cases h
 | cons a r =>
  obtain⟨h1,h2,_⟩:=gz r a
  rcases List.mem_cons.mp h with rfl | h
  ·exact h1
  ·exact h2 x h
theorem o_minL{l:List Int}(h:l≠[]):oMinM [.list (l.map PyData.int)]=some (.int (minL l)):=by
 match l,h with
 | [],h=>exact absurd rfl h
 | a::r,_ =>
  match hr:r with
  | []=>rfl
  | b::[]=>rfl
  | b::c::t =>
   show(match gP ((a::b::c::t).map PyData.int) with | some []=>none | some is=>some (PyData.int (minL is)) | none=>none)=_
   rw[ints_of]
theorem cst_wr(y:Int)(k:Nat)(x:Wi):cst [0,y] (wr k x)=pc y x:=by
 unfold wr pc cst
 cases hb:x.b with
 | true =>
  rw[if_pos rfl,if_pos rfl]
  show x.w*max 0 (x.a-y+0)=_
  rw[Int.add_zero]
 | false =>
  rw[if_neg Bool.false_ne_true,if_neg Bool.false_ne_true]
  show x.w*max 0 (0-x.a-0+y)=_
  rw[show 0-x.a-0+y=y-x.a by omega]
theorem cst_wrs(y:Int):∀(q:List Wi) (k:Nat),((wrs k q).map (cst [0,y])).sum=(q.map (pc y)).sum
 | [],_=>rfl
 | x::q,k=>by rw[wrs,List.map_cons,List.sum_cons,List.map_cons,List.sum_cons,cst_wr,cst_wrs y q]
theorem cutTail(xs:List D)(n:Nat):oCutS (some (n:Int)) none (.list xs)=some (.list (xs.drop n)):=by
 show some (PyData.list (cutD xs (some (n:Int)) none))=_
 rw[cutL_drop]
end K41
open PySem PySem.Spec L2 DL
namespace TR
theorem pot0{m n:Nat}{lo hi:Nat->Nat}{fl:Nat->Int}(hl:∀k,k<m->lo k<n)(hh:∀k,k<m->hi k<n)(cs:∀p,p<n->sm m (λk=>fl k*((if hi k=p then 1 else 0)-(if lo k=p then 1 else 0)))=0)(π:Nat->Int):sm m (λk=>fl k*(π (hi k)-π (lo k)))=0:=by
 rw[bz (g:=λk=>sm n (λp=>π p*(fl k*((if hi k=p then 1 else 0)-(if lo k=p then 1 else 0))))) λk hk=>?_,sm_swap,bz (g:=λ_=>0) λp hp=>?_,iT]
 ·rw[sm_mul,cs p hp,Int.mul_zero]
 ·rw[<-pick_two (π:=π) (hh k hk) (hl k hk),<-sm_mul]
  refine bz λp _=>?_
  rw[<-Int.mul_assoc,<-Int.mul_assoc,Int.mul_comm (π p)]
end TR
namespace CT
theorem Lt.weak{m:Nat}{rs:List Rl}{T F:List Int}(h:Lt m rs T F)(hp:Pts (m+1) rs){U:List Int}(hU:KeptT (λv=>U.getD v 0) rs):TR.sm rs.length (λk=>cst T (rs.getD k r0))<=TR.sm rs.length (λk=>cst U (rs.getD k r0)):=by
 rw[<-h.eq]
 have hz:=TR.pot0 (m:=rs.length) (n:=m+1) (lo:=λk=>(rs.getD k r0).lo) (hi:=λk=>(rs.getD k r0).hi) (fl:=λk=>F.getD k 0) (λk hk=>(hp _ (dZ hk)).1) (λk hk=>(hp _ (dZ hk)).2) h.cs (λv=>U.getD v 0)
 have e:TR.sm rs.length (λk=>F.getD k 0*(rs.getD k r0).le)=TR.sm rs.length (λk=>F.getD k 0*((rs.getD k r0).le-U.getD (rs.getD k r0).hi 0+U.getD (rs.getD k r0).lo 0))+TR.sm rs.length (λk=>F.getD k 0*(U.getD (rs.getD k r0).hi 0-U.getD (rs.getD k r0).lo 0)):=by
  rw[<-TR.sm_add]
  refine TR.bz λk _=>?_
  rw[<-Int.mul_add]
  congr 1
  omega
 rw[e,hz,Int.add_zero]
 refine TR.sm_le λk hk=>?_
 obtain⟨b1,b2⟩:=h.bb k hk
 have hm:=dZ hk
 generalize F.getD k 0=f at b1 b2
 generalize rs.getD k r0=r at b2 hm
 unfold cst
 cases hw:r.w with
 | none =>
  have h1:U.getD r.lo 0+r.le<=U.getD r.hi 0:=hU r hm hw
  have:=Int.mul_le_mul_of_nonneg_left (show r.le-U.getD r.hi 0+U.getD r.lo 0<=0 by omega) b1
  rw[Int.mul_zero] at this
  exact this
 | some w =>
  have h2:=b2 w hw
  show f*_<=w*max 0 _
  generalize r.le-U.getD r.hi 0+U.getD r.lo 0=x
  exact Int.le_trans (Int.mul_le_mul_of_nonneg_left (show x<=max 0 x by omega) b1) (Int.mul_le_mul_of_nonneg_right h2 (by omega))
end CT
open PySem PySem.Spec L2 DL CT
namespace K41
theorem whole_int(i:Int):cR [.int i]=M.ret (.bool true):=by
 refine ck ?_
 unfold gv
 exact dv (ev_andV_t (ev_is (d:=.int i) (ac rfl)) (ev_notV (b:=false) (ev_is (d:=.int i) (ac rfl))))
theorem wish_comp:∀(q:List Wi) (x:Sl),bZ (tgN 0) (nX er) (nX (d2 oIx (ad 0) (dC (.int 0)))) (q.map wi) [x]=M.ret ((q.map Wi.a).map PyData.int)
 | [],_=>rfl
 | w::q,x=>dw (δ':=[.vl (wi w)]) rfl (ak (ac rfl) ar rfl) (wish_comp q _)
theorem low_comp(low:Int):∀(q:List Int) (x:Sl),bZ (tgN 0) (nX (dB (d2 oGe (ad 0) (ad 1)))) (nX (ad 0)) (q.map PyData.int) [x,.vl (.int low)]=M.ret ((q.filter λt=>decide (low<=t)).map PyData.int)
 | [],_=>rfl
 | t::q,x=>by
  rw[List.map_cons]
  by_cases h:low<=t
  ·rw[List.filter_cons_of_pos (by rw[decide_eq_true h])]
   exact ev_compT (δ':=[.vl (.int t),.vl (.int low)]) rfl (bj (ak (ac rfl) (ac rfl) (by rw[o_ge,decide_eq_true h]))) (ac rfl) (low_comp low q _)
  ·rw[List.filter_cons_of_neg (by rw[decide_eq_false h];exact Bool.false_ne_true)]
   exact ev_compS (δ':=[.vl (.int t),.vl (.int low)]) rfl (bj (ak (ac rfl) (ac rfl) (by rw[o_ge,decide_eq_false h]))) (low_comp low q _)
theorem price_comp{ws:List Wi}(hw:∀x∈ws,Wok x)(WW:D)(hW:WW=.list (ws.map wi)):∀(q:List Int) (x:Sl),bZ (tgN 0) (nX er) (nX (cf (λds=>noX (bY ds)) (ag (ad 1) (ag (ad 0) aw)))) (q.map PyData.int) [x,.vl WW]=M.ret ((q.map λt=>(ws.map (pc t)).sum).map PyData.int)
 | [],_=>rfl
 | t::q,x=>dw (δ':=[.vl (.int t),.vl WW]) rfl (cP (af (ac rfl) (af (ac rfl) ao)) (by rw[hW];exact price_ev ws hw t)) (price_comp hw WW hW q _)
theorem ne_timed:oNe (.str "timed") (.str "timed")=some (.bool false):=by kernel_rfl
theorem tail_ev{ws:List Wi}(hw:∀x∈ws,Wok x){rs:List Rl}(hrl:rs.length<=40){tr:List Int}(hne:tr≠[])(htl:tr.length<=100)
  (hp:Pts 2 rs) (hww:∀r∈rs,∀w,r.w=some w->0<=w) (hfl:∀r∈rs,bM r.why=true)
  (hc:∀y,(rs.map (cst [0,y])).sum=(ws.map (pc y)).sum)
  (hkt:∀t∈tr,KeptT (λv=>[0,t].getD v 0) rs)
  (hkb:∀y,KeptT (λv=>[0,y].getD v 0) rs->∀x∈ws,x.a∈tr\/∃l∈tr,x.a<=l/\l<=y)
  (NS:D) (c0:Int) (z9 z10:Sl):(bq (cx (dCB oMinM (ag (cy 1 [2] (tgN 0) (gH (ad 4)) er (cf (λds=>noX (bY ds)) (ag (ad 1) (ag (ad 0) aw)))) aw)) (tgN 5)) (bq (cx (cf (λds=>noX (bR ds)) (ag (dC (.int 1)) (ag (dCB oListOf (ag (ad 3) aw)) aw))) (tgN 6)) (bq (gIf (dOr (dNot (dB (dIs "tuple" (ad 6)))) (dOr (dB (d2 oNe (dCB fg (ag (ad 6) aw)) (dC (.int 3)))) (dB (d2 oNe (d2 oIx (ad 6) (dC (.int 0))) (dC (.str "timed")))))) (eL (dC (.bool false))) fQ) (bq (cx (d2 oIx (ad 6) (dC (.int 1))) (tgN 7)) (bq (cx (d2 oIx (ad 6) (dC (.int 2))) (tgN 8)) (bq (gIf (dOr (dNot (dB (dIs "list" (ad 7)))) (dOr (dB (d2 oNe (dCB fg (ag (ad 7) aw)) (dC (.int 2)))) (dOr (dB (d2 oNe (d2 oIx (ad 7) (dC (.int 0))) (dC (.int 0)))) (dNot (dB (cf (λds=>noX (cR ds)) (ag (d2 oIx (ad 7) (dC (.int 1))) aw))))))) (eL (dC (.bool false))) fQ) (bq (gIf (dOr (dNot (dB (dIs "list" (ad 8)))) (dB (d2 oNe (dCB fg (ag (ad 8) aw)) (dCB fg (ag (ad 3) aw))))) (eL (dC (.bool false))) fQ) (bq (gForI (dEnum (ag (ad 3) aw)) (tgTup 2 (cN (tgN 11) (cN (tgN 12) tgNil))) b_law_0) (eL (d2 oEq (cf (λds=>noX (bY ds)) (ag (ad 2) (ag (d2 oIx (ad 7) (dC (.int 1))) aw))) (ad 5))))))))))) [.vl NS,.vl (.int c0),.vl (.list (ws.map wi)),.vl (.list (rs.map rl)),.vl (.list (tr.map PyData.int)),.un,.un,.un,.un,z9,z10,.un,.un]=M.ret (.rt (.bool true)):=by
 have hlt:=least_ev (m:=1) hp (by omega) (by omega) hww hfl
 have lst:oListOf [.list (rs.map rl)]=some (.list (rs.map rl)):=rfl
 rcases hlt with ⟨L,k1,k2,k3,k4⟩ | ⟨T,F,k1,k2⟩
 ·exfalso
  obtain⟨i1,i2⟩:=isR_of k4
  cases tr with
  | nil=>exact hne rfl
  | cons t tr=>exact i1.not_kept (t:=λv=>[0,t].getD v 0) λr hr=>hkt t List.mem_cons_self r (i2 r hr) (i1.no r hr)
 obtain⟨y,hT⟩:∃y,T=[0,y]:=by
  have h1:=k2.lT
  have h2:=k2.t0
  match T,h1,h2 with
  | [a,b],_,h2=>exact⟨b,by have h2:a=0:=h2;rw[h2]⟩
 subst hT
 have hmin:(ws.map (pc y)).sum=minL (tr.map λt=>(ws.map (pc t)).sum):=by
  have hne':(tr.map λt=>(ws.map (pc t)).sum)≠[]:=λz=>hne (List.map_eq_nil_iff.mp z)
  obtain⟨t,t1,t2⟩:=best_at hw hne y (hkb y k2.kp)
  have a1:=minL_le (List.mem_map_of_mem (f:=λt=>(ws.map (pc t)).sum) t1)
  obtain⟨u,u1,u2⟩:=List.mem_map.mp (minL_mem hne')
  have a2:=k2.weak hp (hkt u u1)
  rw[sm_list (cst [0,y]) rs,sm_list (cst [0,u]) rs,hc,hc] at a2
  omega
 obtain⟨P,hP⟩:∃P,P=(ws.map (pc y)).sum:=⟨_,rfl⟩
 have hpr:=price_ev ws hw y
 have hpc:=price_comp hw _ rfl tr .un
 have hmn:=o_minL (l:=tr.map λt=>(ws.map (pc t)).sum) (λz=>hne (List.map_eq_nil_iff.mp z))
 rw[<-hmin] at hmn
 rw[<-hP] at hmn hpr
 have hsz:aL (tr.map PyData.int).length=true:=aF (by rw[List.length_map];omega)
 have hany:anyD (.list (tr.map PyData.int))=some (tr.map PyData.int):=rfl
 have lenR:fg [.list (rs.map rl)]=some (.int (rs.length:Int)):=by rw[o_lenL,List.length_map]
 have lenF:fg [.list (F.map PyData.int)]=some (.int (rs.length:Int)):=by rw[o_lenL,List.length_map,k2.lF]
 have gF:∀k,k<rs.length->oIx (.list (F.map PyData.int)) (.int (k:Int))=some (.int (F.getD k 0)):=λk hk=>dL (by rw[k2.lF];exact hk)
 have gT:∀p:Nat,p<2->oIx (.list ([0,y].map PyData.int)) (.int (p:Int))=some (.int ([0,y].getD p 0)):=λp hp=>dL hp
 obtain⟨WW,hWW⟩:∃WW:D,WW=.list (ws.map wi):=⟨_,rfl⟩
 obtain⟨TT,hTT⟩:∃TT:D,TT=.list ([0,y].map PyData.int):=⟨_,rfl⟩
 obtain⟨FF,hFF⟩:∃FF:D,FF=.list (F.map PyData.int):=⟨_,rfl⟩
 obtain⟨RR,hRR⟩:∃RR:D,RR=.list (rs.map rl):=⟨_,rfl⟩
 obtain⟨QQ,hQQ⟩:∃QQ:D,QQ=.list (tr.map PyData.int):=⟨_,rfl⟩
 have hFi:isD "list" FF=true:=by rw[hFF];rfl
 have hFn:noIns FF=true:=by rw[hFF];rfl
 have hTi:isD "list" TT=true:=by rw[hTT];rfl
 have hTn:noIns TT=true:=by rw[hTT];rfl
 have lenT:fg [TT]=some (.int 2):=by rw[hTT];rfl
 have gT0:oIx TT (.int 0)=some (.int 0):=by rw[hTT];rfl
 have gT1:oIx TT (.int 1)=some (.int y):=by rw[hTT];rfl
 have henum:dEnum (ag (ad 3) aw) [.vl NS,.vl (.int c0),.vl WW,.vl RR,.vl QQ,.vl (.int P),.vl (.tuple [.str "timed",TT,FF]),.vl TT,.vl FF,z9,z10,.un,.un]=M.ret (cb 0 (rs.map rl)):=ev_enumS (af (by rw[<-hRR];exact ac rfl) ao)
 rw[<-hWW] at hpr hpc ⊢
 rw[<-hTT] at k1 gT
 rw[<-hFF] at k1 gF lenF
 rw[<-hRR] at k1 lst lenR ⊢
 rw[<-hQQ] at hany ⊢
 refine aT (bo (d:=.int P) (el (af (cH (fv (ac rfl) hany) hsz hpc) ao) hmn)) ?_
 refine aT (bo (d:=.tuple [.str "timed",TT,FF]) (cP (af ar (af (el (af (ac rfl) ao) lst) ao)) k1)) ?_
 refine ev_pass (b:=false) (fL (ev_not (b:=true) (bj (ev_is (d:=.tuple [.str "timed",TT,FF]) (ac rfl)))) (fL (bj (ak (el (af (ac rfl) ao) o_lenT) ar (by rw[o_ne];rfl))) (bj (ak (x:=.str "timed") (ak (ac rfl) ar rfl) ar ne_timed)))) rfl ?_
 refine aT (bo (d:=TT) (ak (ac rfl) ar rfl)) ?_
 refine aT (bo (d:=FF) (ak (ac rfl) ar rfl)) ?_
 refine ev_pass (b:=false) (fL (ev_not (b:=true) (bj (by rw[<-hTi];exact ev_is (ac rfl) hTn))) (fL (bj (ak (el (af (ac rfl) ao) lenT) ar (by rw[o_ne];rfl))) (fL (bj (ak (ak (ac rfl) ar gT0) ar (by rw[o_ne];rfl))) (ev_not (b:=true) (bj (cP (af (ak (ac rfl) ar gT1) ao) (whole_int y))))))) rfl ?_
 refine ev_pass (b:=false) (fL (ev_not (b:=true) (bj (by rw[<-hFi];exact ev_is (ac rfl) hFn))) (bj (ak (el (af (ac rfl) ao) lenF) (el (af (ac rfl) ao) lenR) (by rw[o_ne,decide_eq_true rfl];rfl)))) rfl ?_
 refine ev_forGI (λδ=>∃x11 x12,δ=[.vl NS,.vl (.int c0),.vl WW,.vl RR,.vl QQ,.vl (.int P),.vl (.tuple [.str "timed",TT,FF]),.vl TT,.vl FF,z9,z10,x11,x12]) henum ⟨_,_,rfl⟩ (λd hd δ hδ=>?_) (λδ hδ=>?_)
 ·obtain⟨x11,x12,rfl⟩:=hδ
  obtain⟨k,hk⟩:=List.mem_iff_getElem?.mp hd
  obtain⟨e,he,rfl⟩:=DL.iK hk
  rw[List.getElem?_map] at he
  obtain⟨r,hr,rfl⟩:=Option.map_eq_some_iff.mp he
  obtain⟨hk1,hk2⟩:=List.getElem?_eq_some_iff.mp hr
  have hrm:r∈rs:=List.mem_of_getElem? hr
  have hrg:rs.getD k r0=r:=by rw[List.getD_eq_getElem?_getD,hr];rfl
  obtain⟨b1,b2⟩:=k2.bb k hk1
  rw[hrg] at b2
  obtain⟨p1,p2⟩:=hp r hrm
  have hkp:=k2.kp r hrm
  have gf:=gF k hk1
  have gl:=gT r.lo p1
  have gh:=gT r.hi p2
  refine⟨[.vl NS,.vl (.int c0),.vl WW,.vl RR,.vl QQ,.vl (.int P),.vl (.tuple [.str "timed",TT,FF]),.vl TT,.vl FF,z9,z10,.vl (.int (k:Int)),.vl (rl r)],ie (δ':=[.vl NS,.vl (.int c0),.vl WW,.vl RR,.vl QQ,.vl (.int P),.vl (.tuple [.str "timed",TT,FF]),.vl TT,.vl FF,z9,z10,.vl (.int (k:Int)),.vl (rl r)]) (by rw[Nat.zero_add];rfl) ?_,_,_,rfl⟩
  unfold b_law_0
  have hwh:=whole_int (F.getD k 0)
  cases hrw:r.w with
  | some w =>
   have g3:oIx (rl r) (.int 3)=some (.int w):=by rw[ix_rl3,hrw];rfl
   have:=b2 w hrw
   refine ev_pass (b:=false) (fL (ev_not (b:=true) (bj (cP (af (ak (ac rfl) (ac rfl) gf) ao) hwh))) (fL (bj (ak (ak (ac rfl) (ac rfl) gf) ar (by rw[o_lt,decide_eq_false (by omega)]))) (ev_and_t (bj (ak (ak (ac rfl) ar g3) ar rfl)) (bj (ak (ak (ac rfl) (ac rfl) gf) (ak (ac rfl) ar g3) (by rw[o_gt,decide_eq_false (by omega)])))))) rfl ?_
   exact ev_pass1 (b:=false) (ev_and_f (bj (ak (ak (ac rfl) ar g3) ar rfl))) rfl
  | none =>
   have g3:oIx (rl r) (.int 3)=some .none:=by rw[ix_rl3,hrw];rfl
   have this:[0,y].getD r.lo 0+r.le<=[0,y].getD r.hi 0:=hkp hrw
   refine ev_pass (b:=false) (fL (ev_not (b:=true) (bj (cP (af (ak (ac rfl) (ac rfl) gf) ao) hwh))) (fL (bj (ak (ak (ac rfl) (ac rfl) gf) ar (by rw[o_lt,decide_eq_false (by omega)]))) (ev_and_f (bj (ak (ak (ac rfl) ar g3) ar rfl))))) rfl ?_
   exact ev_pass1 (b:=false) (ev_and_t (bj (ak (ak (ac rfl) ar g3) ar rfl)) (bj (ak (ak (ak (ac rfl) (ak (ac rfl) ar (fX r)) gh) (ak (ac rfl) (ak (ac rfl) ar (gO r)) gl) o_sub) (ak (ac rfl) ar (ix_rl2 r)) (by rw[o_lt,decide_eq_false (by omega)])))) rfl
 ·obtain⟨x11,x12,rfl⟩:=hδ
  exact dv (ak (cP (af (ac rfl) (af (ak (ac rfl) ar gT1) ao)) hpr) (ac rfl) (by rw[o_eq,decide_eq_true rfl]))
end K41
open PySem PySem.Spec L2 DL CT
namespace K41
theorem wr_ok{ws:List Wi}(hw:∀x∈ws,Wok x){k:Nat}{r:Rl}(h:r∈wrs k ws):(r.lo<2/\r.hi<2)/\(∀w,r.w=some w->0<=w)/\bM r.why=true/\r.w≠none:=by
 obtain⟨x,hx,j,rfl⟩:=wrs_mem _ _ _ h
 have:=hw x hx
 unfold Wok at this
 unfold wr
 split
 ·exact⟨⟨Nat.zero_lt_two,Nat.one_lt_two⟩,(λw e=>by cases e;exact this.1),rfl,λe=>by cases e⟩
 ·exact⟨⟨Nat.one_lt_two,Nat.zero_lt_two⟩,(λw e=>by cases e;exact this.1),rfl,λe=>by cases e⟩
theorem law_true(ns:List Int)(hl:ns.length<=63):F_law [.list (ns.map PyData.int)]=M.ret (.bool true):=by
 obtain⟨c0,hc0⟩:=cell_at_ev ns 0 (by decide)
 obtain⟨c1,hc1⟩:=cell_at_ev ns 1 (by decide)
 have hcut:∃is:List Int,cutD (ns.map PyData.int) (some 2) (some 22)=is.map PyData.int/\is.length<=20:=by
  unfold cutD
  refine⟨((ns.drop (HT.sIx (ns.map PyData.int).length 0 (some 2))).take (HT.sIx (ns.map PyData.int).length (ns.map PyData.int).length (some 22)-HT.sIx (ns.map PyData.int).length 0 (some 2))),by rw[<-List.map_drop,<-List.map_take],?_⟩
  rw[List.length_take]
  unfold HT.sIx
  simp
  omega
 obtain⟨is,his,hisl⟩:=hcut
 obtain⟨ws,wl,hw,hwe⟩:=wishes_ev is (by omega) (decide (c0 % 2=1))
 have hre:=rules_ev ws (by omega)
 obtain⟨rs,hrs⟩:∃rs,rs=wrs 0 ws:=⟨_,rfl⟩
 have hrl:rs.length=ws.length:=by rw[hrs,wrs_len]
 have hcs:∀y,(rs.map (cst [0,y])).sum=(ws.map (pc y)).sum:=λy=>by rw[hrs];exact cst_wrs y ws 0
 have hok:∀r∈rs,(r.lo<2/\r.hi<2)/\(∀w,r.w=some w->0<=w)/\bM r.why=true/\r.w≠none:=λr hr=>wr_ok hw (hrs▸hr)
 rw[<-hrs] at hre
 obtain⟨NS,hNS⟩:∃NS:D,NS=.list (ns.map PyData.int):=⟨_,rfl⟩
 have cut1:oCutS (some 2) (some 22) NS=some (.list (is.map PyData.int)):=by rw[hNS,<-his];rfl
 rw[<-hNS] at hc0 hc1 ⊢
 refine ck ?_
 unfold g_law
 have cell:∀(k v:Int) (x:List Sl),bB [NS,.int k]=M.ret (.int v)->cf (λds=>noX (bB ds)) (ag (ad 0) (ag (dC (.int k)) aw)) (.vl NS::x)=M.ret (.int v):=λk v x h=>cP (af (ac rfl) (af ar ao)) h
 refine aT (bo (d:=.int c0) (cell 0 c0 _ hc0)) ?_
 refine aT (bo (d:=.list (ws.map wi)) (cP (ds:=[.list (is.map PyData.int),.bool (decide (c0 % 2=1))]) (af (ev_cutS (ac rfl) (ev_part ar) (ev_part ar) cut1) (af (ak (ak (ac rfl) ar (gM (by decide))) ar o_eq) ao)) hwe)) ?_
 refine aT (bo (d:=.list (rs.map rl)) (cP (af (ac rfl) ao) hre)) ?_
 have htr:cO (.list [.int 0]) (.list ((ws.map Wi.a).map PyData.int))=some (.list ((0::ws.map Wi.a).map PyData.int)):=o_addL (aF (by rw[List.length_map,List.length_map];show 1+_<=_;omega))
 refine aT (bo (d:=.list ((0::ws.map Wi.a).map PyData.int)) (ak (ev_lst (af ar ao) rfl) (cH (ds:=ws.map wi) (fv (ac rfl) rfl) (aF (by rw[List.length_map];omega)) (wish_comp ws _)) htr)) ?_
 by_cases hmu:c0 / 2 % 2=1
 ·have hn0:(0:Int)<(ws.length:Int)+1:=by omega
  obtain⟨i,hi⟩:∃i:Nat,(i:Int)=c1 % ((ws.length:Int)+1):=⟨(c1 % ((ws.length:Int)+1)).toNat,by have:=Int.emod_nonneg c1 (show(ws.length:Int)+1≠0 by omega);omega⟩
  have hi1:i<ws.length+1:=by have:=Int.emod_lt_of_pos c1 hn0;omega
  obtain⟨at1,hat⟩:∃at1:Nat,(at1:Int)=c1 / 200 % ((rs.length:Int)+1):=⟨(c1 / 200 % ((rs.length:Int)+1)).toNat,by have:=Int.emod_nonneg (c1 / 200) (show(rs.length:Int)+1≠0 by omega);omega⟩
  obtain⟨low,hlow⟩:∃low:Int,low=(0::ws.map Wi.a).getD i 0+c1 / 64 % 3-1:=⟨_,rfl⟩
  obtain⟨mu,hmur⟩:∃mu:Rl,mu=⟨0,1,low,none,.tuple [.str "must",.int 0]⟩:=⟨_,rfl⟩
  have gI:oIx (.list ((0::ws.map Wi.a).map PyData.int)) (.int (i:Int))=some (.int ((0::ws.map Wi.a).getD i 0)):=dL (by rw[List.length_cons,List.length_map];exact hi1)
  have len4:fg [.list ((0::ws.map Wi.a).map PyData.int)]=some (.int ((ws.length:Int)+1)):=by rw[o_lenL,List.length_map,List.length_cons,List.length_map];rfl
  have len3:fg [.list (rs.map rl)]=some (.int (rs.length:Int)):=by rw[o_lenL,List.length_map]
  have hlen:(rs.take at1++[mu]++rs.drop at1).length=rs.length+1:=by simp only[List.length_append,List.length_take,List.length_drop,List.length_singleton];omega
  have hmem:∀r∈rs.take at1++[mu]++rs.drop at1,r∈rs\/r=mu:=λr hr=>by
   rcases List.mem_append.mp hr with hr | hr
   ·rcases List.mem_append.mp hr with hr | hr
    ·exact .inl (List.mem_of_mem_take hr)
    ·exact .inr (List.mem_singleton.mp hr)
   ·exact .inl (List.mem_of_mem_drop hr)
  have hmm:mu∈rs.take at1++[mu]++rs.drop at1:=List.mem_append_left _ (List.mem_append_right _ (List.mem_singleton.mpr rfl))
  have add1:cO (.list ((rs.map rl).take at1)) (.list [rl mu])=some (.list ((rs.map rl).take at1++[rl mu])):=o_addL (aF (by rw[List.length_take,List.length_map];show _+1<=_;omega))
  have add2:cO (.list ((rs.map rl).take at1++[rl mu])) (.list ((rs.map rl).drop at1))=some (.list ((rs.take at1++[mu]++rs.drop at1).map rl)):=by
   rw[List.map_append,List.map_append,List.map_take,List.map_drop]
   exact o_addL (aF (by simp only[List.length_append,List.length_take,List.length_drop,List.length_map,List.length_singleton];omega))
  have add3:cO (.list [.int low]) (.list (((0::ws.map Wi.a).filter λt=>decide (low<=t)).map PyData.int))=some (.list ((low::(0::ws.map Wi.a).filter λt=>decide (low<=t)).map PyData.int)):=o_addL (aF (by
   have:=List.length_filter_le (λt=>decide (low<=t)) (0::ws.map Wi.a)
   rw[List.length_cons,List.length_map] at this
   rw[List.length_map];show 1+_<=_;omega))
  have hmud:rl mu=.tuple [.int 0,.int 1,.int low,.none,.tuple [.str "must",.int 0]]:=by rw[hmur];rfl
  refine ev_seqIf (b:=true) (bj (ak (ak (ak (ac rfl) ar (o_div (bDiv_of (by decide) (by decide)))) ar (gM (by decide))) ar (by rw[o_eq,decide_eq_true hmu]))) (fP rfl ?_)
  refine aT (δ':=[.vl NS,.vl (.int c0),.vl (.list (ws.map wi)),.vl (.list ((rs.take at1++[mu]++rs.drop at1).map rl)),.vl (.list ((low::(0::ws.map Wi.a).filter λt=>decide (low<=t)).map PyData.int)),.un,.un,.un,.un,.vl (.int low),.vl (.int (at1:Int)),.un,.un]) ?_ ?_
  ·refine aT (bo (d:=.int low) (by rw[hlow];exact ak (ak (ak (ac rfl) (d:=.int ((0::ws.map Wi.a).getD i 0)) (ak (d:=.int (i:Int)) (cell 1 c1 _ hc1) (el (af (ac rfl) ao) len4) (by rw[hi];exact gM hn0)) gI) (ak (ak (cell 1 c1 _ hc1) ar (o_div (bDiv_of (by decide) (by decide)))) ar (gM (by decide))) eY) ar o_sub)) ?_
   refine aT (bo (d:=.int (at1:Int)) (by rw[hat];exact ak (ak (cell 1 c1 _ hc1) ar (o_div (bDiv_of (by decide) (by decide)))) (ak (el (af (ac rfl) ao) len3) ar eY) (gM (by omega)))) ?_
   refine aT (bo (ak (ak (ev_cutS (ac rfl) ev_nopart (ev_part (ac rfl)) (cutHead _ at1)) (ev_lst (ds:=[rl mu]) (af (by rw[hmud];exact du (af ar (af ar (af (ac rfl) (af ar (af (du (af ar (af ar ao)) rfl) ao))))) rfl) ao) rfl) add1) (ev_cutS (ac rfl) (ev_part (ac rfl)) ev_nopart (cutTail _ at1)) add2)) ?_
   exact bo (ak (ev_lst (af (ac rfl) ao) rfl) (cH (ds:=(0::ws.map Wi.a).map PyData.int) (fv (ac rfl) rfl) (aF (by rw[List.length_map,List.length_cons,List.length_map];omega)) (low_comp low _ _)) add3)
  ·refine tail_ev hw (by omega) (λz=>by cases z) ?_ ?_ ?_ ?_ ?_ ?_ ?_ NS c0 _ _
   ·have:=List.length_filter_le (λt=>decide (low<=t)) (0::ws.map Wi.a)
    rw[List.length_cons,List.length_map] at this
    rw[List.length_cons]
    omega
   ·intro r hr
    rcases hmem r hr with h | rfl
    ·exact(hok r h).1
    ·rw[hmur];exact⟨Nat.zero_lt_two,Nat.one_lt_two⟩
   ·intro r hr
    rcases hmem r hr with h | rfl
    ·exact(hok r h).2.1
    ·rw[hmur];intro w e;cases e
   ·intro r hr
    rcases hmem r hr with h | rfl
    ·exact(hok r h).2.2.1
    ·rw[hmur];rfl
   ·intro y
    rw[<-hcs y,List.map_append,List.map_append,List.sum_append,List.sum_append]
    have e:([mu].map (cst [0,y])).sum=0:=by rw[hmur];rfl
    have e2:(rs.map (cst [0,y])).sum=((rs.take at1).map (cst [0,y])).sum+((rs.drop at1).map (cst [0,y])).sum:=by
     rw[<-List.sum_append,<-List.map_append,List.take_append_drop]
    rw[e,e2]
    omega
   ·intro t ht r hr hn
    rcases hmem r hr with h | rfl
    ·exact absurd hn (hok r h).2.2.2
    ·rw[hmur]
     show(0:Int)+low<=t
     rcases List.mem_cons.mp ht with rfl | ht
     ·omega
     ·have:=of_decide_eq_true (List.mem_filter.mp ht).2
      omega
   ·intro y hy x hx
    have hly:(0:Int)+low<=y:=by have:=hy mu hmm (by rw[hmur]);rw[hmur] at this;exact this
    rcases Int.lt_or_le x.a low with z | z
    ·exact .inr ⟨low,List.mem_cons_self,by omega,by omega⟩
    ·exact .inl (List.mem_cons_of_mem _ (List.mem_filter.mpr ⟨List.mem_cons_of_mem _ (List.mem_map_of_mem hx),decide_eq_true z⟩))
 ·refine ev_pass (b:=false) (bj (ak (ak (ak (ac rfl) ar (o_div (bDiv_of (by decide) (by decide)))) ar (gM (by decide))) ar (by rw[o_eq,decide_eq_false hmu]))) rfl ?_
  refine tail_ev hw (by omega) (λz=>by cases z) ?_ (λr hr=>(hok r hr).1) (λr hr=>(hok r hr).2.1) (λr hr=>(hok r hr).2.2.1) hcs (λt _ r hr hn=>absurd hn (hok r hr).2.2.2) (λy _ x hx=>.inl (List.mem_cons_of_mem _ (List.mem_map_of_mem hx))) NS c0 _ _
  rw[List.length_cons,List.length_map]
  omega
end K41
namespace K41
open PySem PySem.Spec PyProof.Rows L2 DL CT SL
def top(i:Nat):Stmt:=PySem.Challenge.pw_cuetimer_k41_least_of_one_point.main.body.getD i (.Pass ⟨0,0,0,0⟩)
def mth(s:Stmt)(i:Nat):Stmt:=match s with
 | .ClassDef _ _ _ b _ _ _ _ _ _ _=>b.getD i (.Pass ⟨0,0,0,0⟩)
 | s=>s
local macro_rules | `(tactic| walk_at "L")=>`(tactic| first | exact Or.inl rfl | exact Or.inr rfl)
local macro_rules | `(tactic| walk_at "S")=>`(tactic| exact⟨rfl,rfl,rfl,by decide +kernel,rfl,by decide +kernel,by decide +kernel⟩)
local macro_rules | `(tactic| walk_at "B1")=>`(tactic| exact λ_ _ _ _ _ _ us hl=>match us,hl with | [_],_=>rfl)
local macro_rules | `(tactic| walk_at "B2")=>`(tactic| exact λ_ _ _ _ _ _ us hl=>match us,hl with | [_,_],_=>rfl)
local macro_rules | `(tactic| walk_at "B3")=>`(tactic| exact λ_ _ _ _ _ _ us hl=>match us,hl with | [_,_,_],_=>rfl)
local macro_rules | `(tactic| walk_at "B4")=>`(tactic| exact λ_ _ _ _ _ _ us hl=>match us,hl with | [_,_,_,_],_=>rfl)
structure ClsT_Tree(K:PySem.W.Frag)(C:Addr):Prop where
 nn:PySem.W.nsIn K mainGlobals "Tree" = some (some (.ref C))
 cl:Cls K C
 many_:PySem.W.findIn K (.ref C) "many" = some none
 rules_:PySem.W.findIn K (.ref C) "rules" = some none
 bounds_:PySem.W.findIn K (.ref C) "bounds" = some none
 flow_:PySem.W.findIn K (.ref C) "flow" = some none
 times_:PySem.W.findIn K (.ref C) "times" = some none
 over_:PySem.W.findIn K (.ref C) "over" = some none
 under_:PySem.W.findIn K (.ref C) "under" = some none
 hooks_:PySem.W.findIn K (.ref C) "hooks" = some none
 depths_:PySem.W.findIn K (.ref C) "depths" = some none
 begin_:PySem.W.findIn K (.ref C) "begin" = some none
def MthT(K:PySem.W.Frag)(C:Addr)(m:Str)(f:Addr):Prop:=PySem.W.findIn K (.ref C) m=some (some (.ref f))/\PySem.W.isFn K (.ref f)=true
section
variable{P:Program}{w:World}{K:PySem.W.Frag}{mg:Str->Option Value}{base:Heap}
theorem sc_must_be_kept:FnScope ["rule"] ["rule"] (aj (top 1)):=by walk_at "S"
theorem cI{f:Addr}{fd:FuncData}(F0:Fun K "must_be_kept" "must_be_kept" (top 1) f fd)(hm:mg "must_be_kept" = some (.ref f)):Def P w K mg base 1 "must_be_kept" 1 bh:=by
 have S:=sc_must_be_kept
 refine def_of (N:=["rule"]) (ps:=["rule"]) (k:=0) (g:=eC) F0 S hm (F0.binds (by walk_at "B1")) λcdv A outer s H E hr=>?_
 unfold eC
 exact(aE (cj (iW dop_is (au (aa (pv 0)) ah (λ_ _=>rfl)) dm (aX _))))
theorem sc_first_flow:FnScope ["rule"] ["rule"] (aj (top 9)):=by walk_at "S"
theorem d_first_flow{f:Addr}{fd:FuncData}(F0:Fun K "first_flow" "first_flow" (top 9) f fd)(hm:mg "first_flow" = some (.ref f)):Def P w K mg base 1 "first_flow" 1 dQ:=by
 have S:=sc_first_flow
 refine def_of (N:=["rule"]) (ps:=["rule"]) (k:=0) (g:=gr) F0 S hm (F0.binds (by walk_at "B1")) λcdv A outer s H E hr=>?_
 unfold gr
 exact(aE (cj (pd_if (PDW.t (pdw_and (aY (iz hr.units) (au (aa (pv 0)) ah (λ_ _=>rfl)) (au (aa (pv 0)) ah (λ_ _=>rfl)) (aX _)) (pdw_and1 (aY dop_gt (au (aa (pv 0)) ah (λ_ _=>rfl)) ah (aX _))))) (au (aa (pv 0)) ah (λ_ _=>rfl)) ah)))
theorem sc_Tree_init:FnScope ["self", "times", "rules", "root", "total"] ["self", "times", "rules"] (aj (mth (top 8) 0)):=by walk_at "S"
theorem jd{f:Addr}{fd:FuncData}(F0:Fun K "__init__" "Tree.__init__" (mth (top 8) 0) f fd){C_Tree:Addr}(m_Tree:mg "Tree" = some (.ref C_Tree))(cT:ClsT_Tree K C_Tree)(cI:Def P w K mg base 1 "must_be_kept" 1 bh)(d_first_flow:Def P w K mg base 1 "first_flow" 1 dQ)(z_len:mg "len" = none)(z_sum:mg "sum" = none)(z_list:mg "list" = none)(z_enumerate:mg "enumerate" = none)(z_range:mg "range" = none)(hM:MthT K C_Tree "__init__" f)(mk:PySem.W.makesIn K C_Tree=true)(kc:PySem.W.keepIn K (.ref C_Tree)=true):SL.MkS P w K mg base 2 "Tree" 3 eW:=by
 have S:=sc_Tree_init
 refine⟨C_Tree,f,fd,["self", "times", "rules"],cT.nn,m_Tree,⟨mk,hM.1,hM.2,kc⟩,SL.fn_ofS (N:=["self", "times", "rules", "root", "total"]) (ps:=["self", "times", "rules"]) (k:=1) (g:=ib) F0 S (λcdv A outer s H E hr=>?_),(F0.binds (by walk_at "B3"))⟩
 unfold ib
 exact(av (bI (i:=3) S.nd rfl (by walk_at "L") (bO (bQ db rfl z_len PySem.boot_len (ae (aa (pv 1)) ai))))
  (av (bI (i:=4) S.nd rfl (by walk_at "L") (bO (bQ (dcall_sumG rfl) rfl z_sum PyProof.Rows.boot_sum (ae (eu (fr:=[]) (tn:=["rule"]) rfl rfl (by decide +kernel) (by rfl) sub_nil (de (by rfl)) fm (by decide +kernel) (dI (aa (pv 2))) (λC s3 H3 fp=>(be (aR (i:=0) (show(["rule"]:List Str).Nodup from by decide +kernel) rfl (by walk_at "L")))) (λC s3 H3 fp=>(pdts_one (pdt_not (cB (cq cI (hr.mono (by decide)) rfl rfl (ae (aa (pv 0)) ai)))))) (λC s3 H3 fp=>(au (aa (pv 0)) ah (λ_ _=>rfl)))) ai))))
  (av (di (aH (pv 0)) (bO (bQ db rfl z_len PySem.boot_len (ae (aa (pv 2)) ai))) cT.nn cT.cl cT.many_)
  (av (di (aH (pv 0)) (bO (e9 (gn (e9 (pdn_list rfl rfl z_list (ae (aa (pv 2)) ai))) (eu (fr:=[(3, "root")]) (tn:=["point", "moment"]) rfl rfl (by decide +kernel) (by rfl) (sub_one (n := "root") (by rfl)) (de (by rfl)) (fK rfl rfl rfl ⟨_,rfl⟩ fm) (by decide +kernel) (pdi_enum rfl z_enumerate (ae (aa (pv 1)) ai)) (λC s3 H3 fp=>(pdg_tup rfl (dJ (be (aR (i:=0) (show(["point", "moment", "root"]:List Str).Nodup from by decide +kernel) rfl (by walk_at "L"))) (dJ (be (aR (i:=1) (show(["point", "moment", "root"]:List Str).Nodup from by decide +kernel) rfl (by walk_at "L"))) pdgs_nil)))) (λC s3 H3 fp=>cV) (λC s3 H3 fp=>(dk (ae (aa (pv 0)) (ae (aa (pv 2)) (ae (pd_neg (aa (pv 1))) (ae dm (ae (dk ai) ai))))))))))) cT.nn cT.cl cT.rules_)
  (av (di (aH (pv 0)) (sx_newFN (pdf_compG (fr:=[(4, "total")]) (tn:=["rule"]) rfl rfl (by decide +kernel) (by rfl) (sub_one (n := "total") (by rfl)) (de (by rfl)) (fK rfl rfl rfl ⟨_,rfl⟩ fm) (by decide +kernel) (dI (aZ ⟨cT.nn,cT.cl⟩ cT.rules_ (aa (pv 0)))) (λC s3 H3 fp=>(be (aR (i:=0) (show(["rule", "total"]:List Str).Nodup from by decide +kernel) rfl (by walk_at "L")))) (λC s3 H3 fp=>cV) (λC s3 H3 fp=>(pd_if (cB (cq cI (hr.mono (by decide)) rfl rfl (ae (aa (pv 0)) ai))) (aS bL (aa (pv 1)) ah) (au (aa (pv 0)) ah (λ_ _=>rfl)))))) cT.nn cT.cl cT.bounds_)
  (av (di (aH (pv 0)) (sx_newFN (pdf_compG (fr:=[]) (tn:=["rule"]) rfl rfl (by decide +kernel) (by rfl) sub_nil (de (by rfl)) fm (by decide +kernel) (dI (aZ ⟨cT.nn,cT.cl⟩ cT.rules_ (aa (pv 0)))) (λC s3 H3 fp=>(be (aR (i:=0) (show(["rule"]:List Str).Nodup from by decide +kernel) rfl (by walk_at "L")))) (λC s3 H3 fp=>cV) (λC s3 H3 fp=>(cq d_first_flow (hr.mono (by decide)) rfl rfl (ae (aa (pv 0)) ai))))) cT.nn cT.cl cT.flow_)
  (av (di (aH (pv 0)) (gi (gn (e9 (pdn_list rfl rfl z_list (ae (aa (pv 1)) ai))) (e9 (bW (ae ah ai))))) cT.nn cT.cl cT.times_)
  (av (di (aH (pv 0)) (gi (gn (e9 (pdn_rep (bW (ae (aa (pv 3)) ai)) (aa (pv 3)))) (e9 (bW (ae dm ai))))) cT.nn cT.cl cT.over_)
  (av (di (aH (pv 0)) (sx_cat (sx_compN (x := "point") rfl rfl (by decide +kernel) (by rfl) sub_nil (de (by rfl)) (by decide +kernel) (pdi_rng1 rfl z_range (ae (aa (pv 3)) ai)) (λC s3 H3 fp=>(be (aR (i:=0) (show(["point"]:List Str).Nodup from by decide +kernel) rfl (by walk_at "L")))) (λC s3 H3 fp=>cV) (λC s3 H3 fp=>(bW ai))) (sx_lst (dc (gi (pdn_listR rfl rfl rfl rfl z_list rfl z_range (ae (aa (pv 3)) ai))) sa_nil))) cT.nn cT.cl cT.under_)
  (av (di (aH (pv 0)) (gi (gn (eu (fr:=[(0, "self")]) (tn:=["point"]) rfl rfl (by decide +kernel) (by rfl) (sub_one (n := "self") (by rfl)) (de (by rfl)) (fK rfl rfl rfl ⟨_,rfl⟩ fm) (by decide +kernel) (pdi_rng1 rfl z_range (ae (aa (pv 3)) ai)) (λC s3 H3 fp=>(be (aR (i:=0) (show(["point", "self"]:List Str).Nodup from by decide +kernel) rfl (by walk_at "L")))) (λC s3 H3 fp=>cV) (λC s3 H3 fp=>(aS bL (aZ ⟨cT.nn,cT.cl⟩ cT.many_ (aa (pv 1))) (aa (pv 0))))) (e9 (bW (ae dm ai))))) cT.nn cT.cl cT.hooks_)
  (av (di (aH (pv 0)) (gi (gn (e9 (pdn_rep (bW (ae ah ai)) (aa (pv 3)))) (e9 (bW (ae ah ai))))) cT.nn cT.cl cT.depths_)
  (bD (di (aH (pv 0)) (bO ah) cT.nn cT.cl cT.begin_)))))))))))))
theorem sc_Tree_timing:FnScope ["self"] ["self"] (aj (mth (top 8) 1)):=by walk_at "S"
theorem iB{f:Addr}{fd:FuncData}(F0:Fun K "timing" "Tree.timing" (mth (top 8) 1) f fd){C_Tree:Addr}(m_Tree:mg "Tree" = some (.ref C_Tree))(cT:ClsT_Tree K C_Tree)(hM:MthT K C_Tree "timing" f):DefM P w K mg base 1 "Tree" "timing" 1 ec:=by
 have S:=sc_Tree_timing
 refine⟨C_Tree,f,fd,["self"],cT.nn,cT.cl,⟨hM.1,hM.2,F0.kp⟩,fY (N:=["self"]) (ps:=["self"]) (k:=0) (g:=fI) F0 S (λcdv A outer s H E hr=>?_),(F0.binds (by walk_at "B1"))⟩
 unfold fI
 exact(aE (cj (eu (fr:=[(0, "self")]) (tn:=["moment"]) rfl rfl (by decide +kernel) (by rfl) (λ_ _ h=>h) (de (by rfl)) (fK rfl rfl rfl ⟨_,rfl⟩ fm) (by decide +kernel) (dI (pd_cutS (aZ ⟨cT.nn,cT.cl⟩ cT.times_ (aa (pv 0))) pdo_none (iG (pd_neg ah)))) (λC s3 H3 fp=>(be (aR (i:=0) (show(["moment", "self"]:List Str).Nodup from by decide +kernel) rfl (by walk_at "L")))) (λC s3 H3 fp=>cV) (λC s3 H3 fp=>(aS eM (aa (pv 0)) (au (aZ ⟨cT.nn,cT.cl⟩ cT.times_ (aa (pv 1))) ah (λ_ _=>rfl)))))))
theorem sc_Tree_flow_of_rules:FnScope ["self"] ["self"] (aj (mth (top 8) 2)):=by walk_at "S"
theorem dz{f:Addr}{fd:FuncData}(F0:Fun K "flow_of_rules" "Tree.flow_of_rules" (mth (top 8) 2) f fd){C_Tree:Addr}(m_Tree:mg "Tree" = some (.ref C_Tree))(cT:ClsT_Tree K C_Tree)(hM:MthT K C_Tree "flow_of_rules" f):DefM P w K mg base 1 "Tree" "flow_of_rules" 1 bF:=by
 have S:=sc_Tree_flow_of_rules
 refine⟨C_Tree,f,fd,["self"],cT.nn,cT.cl,⟨hM.1,hM.2,F0.kp⟩,fY (N:=["self"]) (ps:=["self"]) (k:=0) (g:=cu) F0 S (λcdv A outer s H E hr=>?_),(F0.binds (by walk_at "B1"))⟩
 unfold cu
 exact(aE (cj (pd_cutS (aZ ⟨cT.nn,cT.cl⟩ cT.flow_ (aa (pv 0))) pdo_none (iG (aZ ⟨cT.nn,cT.cl⟩ cT.many_ (aa (pv 0)))))))
theorem sc_Tree_lack_of:FnScope ["self", "number", "rule"] ["self", "number"] (aj (mth (top 8) 7)):=by walk_at "S"
theorem ce{f:Addr}{fd:FuncData}(F0:Fun K "lack_of" "Tree.lack_of" (mth (top 8) 7) f fd){C_Tree:Addr}(m_Tree:mg "Tree" = some (.ref C_Tree))(cT:ClsT_Tree K C_Tree)(hM:MthT K C_Tree "lack_of" f):DefM P w K mg base 1 "Tree" "lack_of" 2 bC:=by
 have S:=sc_Tree_lack_of
 refine⟨C_Tree,f,fd,["self", "number"],cT.nn,cT.cl,⟨hM.1,hM.2,F0.kp⟩,fY (N:=["self", "number", "rule"]) (ps:=["self", "number"]) (k:=0) (g:=eK) F0 S (λcdv A outer s H E hr=>?_),(F0.binds (by walk_at "B2"))⟩
 unfold eK
 exact(aB (br (i:=2) S.nd rfl (by walk_at "L") (au (aZ ⟨cT.nn,cT.cl⟩ cT.rules_ (aa (pv 0))) (aa (pv 1)) (λ_ _=>rfl)))
  (aE (cj (aS bL (aS eM (au (aa (pv 2)) ah (λ_ _=>rfl)) (au (aZ ⟨cT.nn,cT.cl⟩ cT.times_ (aa (pv 0))) (au (aa (pv 2)) ah (λ_ _=>rfl)) (λ_ _=>rfl))) (au (aZ ⟨cT.nn,cT.cl⟩ cT.times_ (aa (pv 0))) (au (aa (pv 2)) ah (λ_ _=>rfl)) (λ_ _=>rfl))))))
theorem sc_Tree_is_wrong:FnScope ["self", "number", "lack"] ["self", "number", "lack"] (aj (mth (top 8) 6)):=by walk_at "S"
theorem gc{f:Addr}{fd:FuncData}(F0:Fun K "is_wrong" "Tree.is_wrong" (mth (top 8) 6) f fd){C_Tree:Addr}(m_Tree:mg "Tree" = some (.ref C_Tree))(cT:ClsT_Tree K C_Tree)(hM:MthT K C_Tree "is_wrong" f):DefM P w K mg base 1 "Tree" "is_wrong" 3 cm:=by
 have S:=sc_Tree_is_wrong
 refine⟨C_Tree,f,fd,["self", "number", "lack"],cT.nn,cT.cl,⟨hM.1,hM.2,F0.kp⟩,fY (N:=["self", "number", "lack"]) (ps:=["self", "number", "lack"]) (k:=0) (g:=eg) F0 S (λcdv A outer s H E hr=>?_),(F0.binds (by walk_at "B3"))⟩
 unfold eg
 exact(aE (cj (pd_if (aY dop_gt (aa (pv 2)) ah (aX _)) (iW dop_lt (au (aZ ⟨cT.nn,cT.cl⟩ cT.flow_ (aa (pv 0))) (aa (pv 1)) (λ_ _=>rfl)) (au (aZ ⟨cT.nn,cT.cl⟩ cT.bounds_ (aa (pv 0))) (aa (pv 1)) (λ_ _=>rfl)) (aX _)) (iW dop_gt (au (aZ ⟨cT.nn,cT.cl⟩ cT.flow_ (aa (pv 0))) (aa (pv 1)) (λ_ _=>rfl)) ah (aX _)))))
theorem sc_Tree_worst_rule:FnScope ["self", "begin", "end", "worst", "most", "number", "lack"] ["self", "begin", "end"] (aj (mth (top 8) 5)):=by walk_at "S"
theorem eN{f:Addr}{fd:FuncData}(F0:Fun K "worst_rule" "Tree.worst_rule" (mth (top 8) 5) f fd){C_Tree:Addr}(m_Tree:mg "Tree" = some (.ref C_Tree))(cT:ClsT_Tree K C_Tree)(ce:DefM P w K mg base 1 "Tree" "lack_of" 2 bC)(gc:DefM P w K mg base 1 "Tree" "is_wrong" 3 cm)(z_abs:mg "abs" = none)(z_range:mg "range" = none)(hM:MthT K C_Tree "worst_rule" f):DefM P w K mg base 2 "Tree" "worst_rule" 3 cv:=by
 have S:=sc_Tree_worst_rule
 refine⟨C_Tree,f,fd,["self", "begin", "end"],cT.nn,cT.cl,⟨hM.1,hM.2,F0.kp⟩,fY (N:=["self", "begin", "end", "worst", "most", "number", "lack"]) (ps:=["self", "begin", "end"]) (k:=1) (g:=dg) F0 S (λcdv A outer s H E hr=>?_),(F0.binds (by walk_at "B3"))⟩
 unfold dg bx
 exact(aB (br (i:=3) S.nd rfl (by walk_at "L") dm)
  (aB (br (i:=4) S.nd rfl (by walk_at "L") ah)
  (aB (iV PassesOwn.never rfl (pdi_rng2 rfl z_range (ae (aa (pv 1)) (ae (aa (pv 2)) ai))) (be (aR (i:=5) S.nd rfl (by walk_at "L"))) (aB (br (i:=6) S.nd rfl (by walk_at "L") (cp ce (hr.mono (by decide)) rfl (aa (pv 0)) (ae (aa (pv 5)) ai)))
  (aE (fW (PDW.t (pdw_and (aY dop_gt (bQ dcall_abs rfl z_abs PyProof.Rows.boot_abs (ae (aa (pv 6)) ai)) (aa (pv 4)) (aX _)) (pdw_and1 (cB (cp gc (hr.mono (by decide)) rfl (aa (pv 0)) (ae (aa (pv 5)) (ae (aa (pv 6)) ai))))))) (aB (br (i:=3) S.nd rfl (by walk_at "L") (aa (pv 5)))
  (aE (br (i:=4) S.nd rfl (by walk_at "L") (bQ dcall_abs rfl z_abs PyProof.Rows.boot_abs (ae (aa (pv 6)) ai))))) gm))))
  (aE (cj (aa (pv 3)))))))
theorem sc_Tree_wrong_rule:FnScope ["self", "stride", "end", "worst"] ["self"] (aj (mth (top 8) 4)):=by walk_at "S"
theorem cQ{f:Addr}{fd:FuncData}(F0:Fun K "wrong_rule" "Tree.wrong_rule" (mth (top 8) 4) f fd){C_Tree:Addr}(m_Tree:mg "Tree" = some (.ref C_Tree)){t_STRIDE:Tok}(m_STRIDE:mg "STRIDE" = some (.int 50 t_STRIDE))(cT:ClsT_Tree K C_Tree)(eN:DefM P w K mg base 2 "Tree" "worst_rule" 3 cv)(z_min:mg "min" = none)(z_range:mg "range" = none)(hM:MthT K C_Tree "wrong_rule" f):SL.DefSM P w K mg base 3 "Tree" "wrong_rule" 1 bN:=by
 have S:=sc_Tree_wrong_rule
 refine⟨C_Tree,f,fd,["self"],cT.nn,cT.cl,⟨hM.1,hM.2,F0.kp⟩,SL.fn_ofS (N:=["self", "stride", "end", "worst"]) (ps:=["self"]) (k:=2) (g:=df) F0 S (λcdv A outer s H E hr=>?_),(F0.binds (by walk_at "B1"))⟩
 unfold df cF
 exact(av (ss_forR PassesOwn.never rfl rfl z_range (ae (aS bL (aS dop_div (aZ ⟨cT.nn,cT.cl⟩ cT.many_ (aa (pv 0))) (pd_globI rfl m_STRIDE)) ah) ai) (gj (aR (i:=1) S.nd rfl (by walk_at "L"))) (av (bI (i:=2) S.nd rfl (by walk_at "L") (bU (bQ (dcall_min rfl) rfl z_min PyProof.Rows.boot_min (ae (aS bL (aZ ⟨cT.nn,cT.cl⟩ cT.begin_ (aa (pv 0))) (pd_globI rfl m_STRIDE)) (ae (aZ ⟨cT.nn,cT.cl⟩ cT.many_ (aa (pv 0))) ai)))))
  (av (bI (i:=3) S.nd rfl (by walk_at "L") (bU (cp eN (hr.mono (by decide)) rfl (aa (pv 0)) (ae (aZ ⟨cT.nn,cT.cl⟩ cT.begin_ (aa (pv 0))) (ae (aa (pv 2)) ai)))))
  (av (di (aH (pv 0)) (bU (pd_if (aY dop_lt (aa (pv 2)) (aZ ⟨cT.nn,cT.cl⟩ cT.many_ (aa (pv 0))) (aX _)) (aa (pv 2)) ah)) cT.nn cT.cl cT.begin_)
  (bD (ss_if (st_test (aY dop_isnot (aa (pv 3)) dm (aX _))) (bD (ss_ret (aH (pv 3)))) iR))))))
  (bD (ss_ret (bO dm))))
theorem sc_Tree_meeting:FnScope ["self", "one", "other"] ["self", "one", "other"] (aj (mth (top 8) 9)):=by walk_at "S"
theorem gY{f:Addr}{fd:FuncData}(F0:Fun K "meeting" "Tree.meeting" (mth (top 8) 9) f fd){C_Tree:Addr}(m_Tree:mg "Tree" = some (.ref C_Tree))(cT:ClsT_Tree K C_Tree)(hM:MthT K C_Tree "meeting" f):DefM P w K mg base 1 "Tree" "meeting" 3 dG:=by
 have S:=sc_Tree_meeting
 refine⟨C_Tree,f,fd,["self", "one", "other"],cT.nn,cT.cl,⟨hM.1,hM.2,F0.kp⟩,fY (N:=["self", "one", "other"]) (ps:=["self", "one", "other"]) (k:=0) (g:=eJ) F0 S (λcdv A outer s H E hr=>?_),(F0.binds (by walk_at "B3"))⟩
 unfold eJ cL
 exact(aB (pd_while PassesOwn.never (aY (dop_ne hr.units) (aa (pv 1)) (aa (pv 2)) (aX _)) (aE (fW (aY dop_ge (au (aZ ⟨cT.nn,cT.cl⟩ cT.depths_ (aa (pv 0))) (aa (pv 1)) (λ_ _=>rfl)) (au (aZ ⟨cT.nn,cT.cl⟩ cT.depths_ (aa (pv 0))) (aa (pv 2)) (λ_ _=>rfl)) (aX _)) (aE (br (i:=1) S.nd rfl (by walk_at "L") (au (aZ ⟨cT.nn,cT.cl⟩ cT.over_ (aa (pv 0))) (aa (pv 1)) (λ_ _=>rfl)))) (aE (br (i:=2) S.nd rfl (by walk_at "L") (au (aZ ⟨cT.nn,cT.cl⟩ cT.over_ (aa (pv 0))) (aa (pv 2)) (λ_ _=>rfl)))))))
  (aE (cj (aa (pv 1)))))
theorem sc_Tree_way:FnScope ["self", "point", "top", "points"] ["self", "point", "top"] (aj (mth (top 8) 10)):=by walk_at "S"
theorem d_Tree_way{f:Addr}{fd:FuncData}(F0:Fun K "way" "Tree.way" (mth (top 8) 10) f fd){C_Tree:Addr}(m_Tree:mg "Tree" = some (.ref C_Tree))(cT:ClsT_Tree K C_Tree)(hM:MthT K C_Tree "way" f):DefM P w K mg base 1 "Tree" "way" 3 fA:=by
 have S:=sc_Tree_way
 refine⟨C_Tree,f,fd,["self", "point", "top"],cT.nn,cT.cl,⟨hM.1,hM.2,F0.kp⟩,fY (N:=["self", "point", "top", "points"]) (ps:=["self", "point", "top"]) (k:=0) (g:=iZ) F0 S (λcdv A outer s H E hr=>?_),(F0.binds (by walk_at "B3"))⟩
 unfold iZ gJ
 exact(aB (pd_newL (i:=3) S.nd rfl (by walk_at "L") (bW ai))
  (aB (pd_while PassesOwn.never (aY (dop_ne hr.units) (aa (pv 1)) (aa (pv 2)) (aX _)) (aB (pd_app (i:=3) (pv 3) (aa (pv 1)))
  (aE (br (i:=1) S.nd rfl (by walk_at "L") (au (aZ ⟨cT.nn,cT.cl⟩ cT.over_ (aa (pv 0))) (aa (pv 1)) (λ_ _=>rfl))))))
  (aE (pd_retO (pv 3)))))
theorem sc_Tree_step_down:FnScope ["self", "point"] ["self", "point"] (aj (mth (top 8) 11)):=by walk_at "S"
theorem fx{f:Addr}{fd:FuncData}(F0:Fun K "step_down" "Tree.step_down" (mth (top 8) 11) f fd){C_Tree:Addr}(m_Tree:mg "Tree" = some (.ref C_Tree))(cT:ClsT_Tree K C_Tree)(hM:MthT K C_Tree "step_down" f):DefM P w K mg base 1 "Tree" "step_down" 2 b8:=by
 have S:=sc_Tree_step_down
 refine⟨C_Tree,f,fd,["self", "point"],cT.nn,cT.cl,⟨hM.1,hM.2,F0.kp⟩,fY (N:=["self", "point"]) (ps:=["self", "point"]) (k:=0) (g:=dM) F0 S (λcdv A outer s H E hr=>?_),(F0.binds (by walk_at "B2"))⟩
 unfold dM
 exact(aE (cj (dk (ae (aa (pv 1)) (ae (au (aZ ⟨cT.nn,cT.cl⟩ cT.hooks_ (aa (pv 0))) (aa (pv 1)) (λ_ _=>rfl)) (ae (iW (iz hr.units) (au (au (aZ ⟨cT.nn,cT.cl⟩ cT.rules_ (aa (pv 0))) (au (aZ ⟨cT.nn,cT.cl⟩ cT.hooks_ (aa (pv 0))) (aa (pv 1)) (λ_ _=>rfl)) (λ_ _=>rfl)) ah (λ_ _=>rfl)) (aa (pv 1)) (aX _)) ai))))))
theorem sc_Tree_step_up:FnScope ["self", "point"] ["self", "point"] (aj (mth (top 8) 12)):=by walk_at "S"
theorem gX{f:Addr}{fd:FuncData}(F0:Fun K "step_up" "Tree.step_up" (mth (top 8) 12) f fd){C_Tree:Addr}(m_Tree:mg "Tree" = some (.ref C_Tree))(cT:ClsT_Tree K C_Tree)(hM:MthT K C_Tree "step_up" f):DefM P w K mg base 1 "Tree" "step_up" 2 cM:=by
 have S:=sc_Tree_step_up
 refine⟨C_Tree,f,fd,["self", "point"],cT.nn,cT.cl,⟨hM.1,hM.2,F0.kp⟩,fY (N:=["self", "point"]) (ps:=["self", "point"]) (k:=0) (g:=eI) F0 S (λcdv A outer s H E hr=>?_),(F0.binds (by walk_at "B2"))⟩
 unfold eI
 exact(aE (cj (dk (ae (aa (pv 1)) (ae (au (aZ ⟨cT.nn,cT.cl⟩ cT.hooks_ (aa (pv 0))) (aa (pv 1)) (λ_ _=>rfl)) (ae (iW (iz hr.units) (au (au (aZ ⟨cT.nn,cT.cl⟩ cT.rules_ (aa (pv 0))) (au (aZ ⟨cT.nn,cT.cl⟩ cT.hooks_ (aa (pv 0))) (aa (pv 1)) (λ_ _=>rfl)) (λ_ _=>rfl)) ah (λ_ _=>rfl)) (aa (pv 1)) (aX _)) ai))))))
theorem sc_Tree_room:FnScope ["self", "step", "number"] ["self", "step"] (aj (mth (top 8) 13)):=by walk_at "S"
theorem eo{f:Addr}{fd:FuncData}(F0:Fun K "room" "Tree.room" (mth (top 8) 13) f fd){C_Tree:Addr}(m_Tree:mg "Tree" = some (.ref C_Tree))(cT:ClsT_Tree K C_Tree)(hM:MthT K C_Tree "room" f):DefM P w K mg base 1 "Tree" "room" 2 b5:=by
 have S:=sc_Tree_room
 refine⟨C_Tree,f,fd,["self", "step"],cT.nn,cT.cl,⟨hM.1,hM.2,F0.kp⟩,fY (N:=["self", "step", "number"]) (ps:=["self", "step"]) (k:=0) (g:=hV) F0 S (λcdv A outer s H E hr=>?_),(F0.binds (by walk_at "B2"))⟩
 unfold hV
 exact(aB (br (i:=2) S.nd rfl (by walk_at "L") (au (aa (pv 1)) ah (λ_ _=>rfl)))
  (aE (cj (pd_if (cB (au (aa (pv 1)) ah (λ_ _=>rfl))) (aS eM (au (aZ ⟨cT.nn,cT.cl⟩ cT.bounds_ (aa (pv 0))) (aa (pv 2)) (λ_ _=>rfl)) (au (aZ ⟨cT.nn,cT.cl⟩ cT.flow_ (aa (pv 0))) (aa (pv 2)) (λ_ _=>rfl))) (au (aZ ⟨cT.nn,cT.cl⟩ cT.flow_ (aa (pv 0))) (aa (pv 2)) (λ_ _=>rfl))))))
theorem sc_Tree_way_new:FnScope ["self", "point", "top", "points"] ["self", "point", "top"] (aj (mth (top 8) 10)):=by walk_at "S"
theorem gW{f:Addr}{fd:FuncData}(F0:Fun K "way" "Tree.way" (mth (top 8) 10) f fd){C_Tree:Addr}(m_Tree:mg "Tree" = some (.ref C_Tree))(cT:ClsT_Tree K C_Tree)(hM:MthT K C_Tree "way" f):DefFM P w K mg base 1 "Tree" "way" 3 dF:=by
 have S:=sc_Tree_way_new
 refine⟨C_Tree,f,fd,["self", "point", "top"],cT.nn,cT.cl,⟨hM.1,hM.2,F0.kp⟩,fn_ofDF (N:=["self", "point", "top", "points"]) (ps:=["self", "point", "top"]) (k:=0) (g:=eG) F0 S (λcdv A outer s H E hr=>?_),(F0.binds (by walk_at "B3"))⟩
 unfold eG fy
 exact(pdsf_cons (pd_newL (i:=3) S.nd rfl (by walk_at "L") (bW ai))
  (pdsf_cons (pd_while PassesOwn.never (aY (dop_ne hr.units) (aa (pv 1)) (aa (pv 2)) (aX _)) (aB (pd_app (i:=3) (pv 3) (aa (pv 1)))
  (aE (br (i:=1) S.nd rfl (by walk_at "L") (au (aZ ⟨cT.nn,cT.cl⟩ cT.over_ (aa (pv 0))) (aa (pv 1)) (λ_ _=>rfl))))))
  (pdsf_retO (pv 3))))
theorem sc_Tree_shift:FnScope ["self", "point", "lack", "points"] ["self", "point", "lack"] (aj (mth (top 8) 15)):=by walk_at "S"
theorem iw{f:Addr}{fd:FuncData}(F0:Fun K "shift" "Tree.shift" (mth (top 8) 15) f fd){C_Tree:Addr}(m_Tree:mg "Tree" = some (.ref C_Tree))(cT:ClsT_Tree K C_Tree)(hM:MthT K C_Tree "shift" f):SL.DefSM P w K mg base 1 "Tree" "shift" 3 ed:=by
 have S:=sc_Tree_shift
 refine⟨C_Tree,f,fd,["self", "point", "lack"],cT.nn,cT.cl,⟨hM.1,hM.2,F0.kp⟩,SL.fn_ofS (N:=["self", "point", "lack", "points"]) (ps:=["self", "point", "lack"]) (k:=0) (g:=gy) F0 S (λcdv A outer s H E hr=>?_),(F0.binds (by walk_at "B3"))⟩
 unfold gy dD
 exact(av (bI (i:=3) S.nd rfl (by walk_at "L") (gi (bW (ae (aa (pv 1)) ai))))
  (bD (ss_while PassesOwn.never (st_testN (pdt_tr (aa (pv 3)))) (av (bI (i:=1) S.nd rfl (by walk_at "L") (sx_pop (aH (pv 3))))
  (av (ss_augX ip_add (sx_at (aH (pv 0)) cT.nn cT.cl cT.times_) (aH (pv 1)) (aH (pv 2)))
  (av (ss_setX (sx_at (aH (pv 0)) cT.nn cT.cl cT.depths_) (aH (pv 1)) (bU (aS bL (au (aZ ⟨cT.nn,cT.cl⟩ cT.depths_ (aa (pv 0))) (au (aZ ⟨cT.nn,cT.cl⟩ cT.over_ (aa (pv 0))) (aa (pv 1)) (λ_ _=>rfl)) (λ_ _=>rfl)) ah)))
  (bD (iS (sx_ext (aH (pv 3)) (sx_ix (sx_at (aH (pv 0)) cT.nn cT.cl cT.under_) (aH (pv 1)) (λ_ _=>rfl)))))))))))
theorem sc_Tree_hang:FnScope ["self", "leaving", "inner", "number", "rule", "lack", "points", "hooks", "over", "place", "point"] ["self", "leaving", "inner", "number"] (aj (mth (top 8) 14)):=by walk_at "S"
theorem ds_Tree_hang{f:Addr}{fd:FuncData}(F0:Fun K "hang" "Tree.hang" (mth (top 8) 14) f fd){C_Tree:Addr}(m_Tree:mg "Tree" = some (.ref C_Tree))(cT:ClsT_Tree K C_Tree)(ce:DefM P w K mg base 1 "Tree" "lack_of" 2 bC)(gW:DefFM P w K mg base 1 "Tree" "way" 3 dF)(z_enumerate:mg "enumerate" = none)(iw:SL.DefSM P w K mg base 1 "Tree" "shift" 3 ed)(hM:MthT K C_Tree "hang" f):SL.DefSM P w K mg base 2 "Tree" "hang" 4 cU:=by
 have S:=sc_Tree_hang
 refine⟨C_Tree,f,fd,["self", "leaving", "inner", "number"],cT.nn,cT.cl,⟨hM.1,hM.2,F0.kp⟩,SL.fn_ofS (N:=["self", "leaving", "inner", "number", "rule", "lack", "points", "hooks", "over", "place", "point"]) (ps:=["self", "leaving", "inner", "number"]) (k:=1) (g:=ic) F0 S (λcdv A outer s H E hr=>?_),(F0.binds (by walk_at "B4"))⟩
 unfold ic cz
 exact(av (bI (i:=4) S.nd rfl (by walk_at "L") (bU (au (aZ ⟨cT.nn,cT.cl⟩ cT.rules_ (aa (pv 0))) (aa (pv 3)) (λ_ _=>rfl))))
  (av (bI (i:=5) S.nd rfl (by walk_at "L") (bU (cp ce (hr.mono (by decide)) rfl (aa (pv 0)) (ae (aa (pv 3)) ai))))
  (av (bI (i:=6) S.nd rfl (by walk_at "L") (sx_newFN (pdf_methI gW (hr.mono (by decide)) rfl (aa (pv 0)) (ae (aa (pv 2)) (ae (au (aZ ⟨cT.nn,cT.cl⟩ cT.over_ (aa (pv 0))) (aa (pv 1)) (λ_ _=>rfl)) ai)))))
  (av (bI (i:=7) S.nd rfl (by walk_at "L") (gi (gn (e9 (bW (ae (aa (pv 3)) ai))) (eu (fr:=[(0, "self")]) (tn:=["point"]) rfl rfl (by decide +kernel) (by rfl) (λ_ _ h=>h) (de (by rfl)) (fK rfl rfl rfl ⟨_,rfl⟩ fm) (by decide +kernel) (dI (aa (pv 6))) (λC s3 H3 fp=>(be (aR (i:=0) (show(["point", "self"]:List Str).Nodup from by decide +kernel) rfl (by walk_at "L")))) (λC s3 H3 fp=>cV) (λC s3 H3 fp=>(au (aZ ⟨cT.nn,cT.cl⟩ cT.hooks_ (aa (pv 1))) (aa (pv 0)) (λ_ _=>rfl)))))))
  (av (bI (i:=8) S.nd rfl (by walk_at "L") (gi (gn (e9 (bW (ae (pd_if (aY (iz hr.units) (au (aa (pv 4)) ah (λ_ _=>rfl)) (aa (pv 2)) (aX _)) (au (aa (pv 4)) ah (λ_ _=>rfl)) (au (aa (pv 4)) ah (λ_ _=>rfl))) ai))) (aa (pv 6)))))
  (av (ss_forTE PassesOwn.never rfl rfl z_enumerate (aH (pv 6)) (sg_tup rfl (sgs_cons (gj (aR (i:=9) S.nd rfl (by walk_at "L"))) (sgs_cons (gj (aR (i:=10) S.nd rfl (by walk_at "L"))) sgs_nil))) (av (iS (sx_rem (sx_ix (sx_at (aH (pv 0)) cT.nn cT.cl cT.under_) (bU (au (aZ ⟨cT.nn,cT.cl⟩ cT.over_ (aa (pv 0))) (aa (pv 10)) (λ_ _=>rfl))) (λ_ _=>rfl)) (aH (pv 10))))
  (av (iS (sx_app (sx_ix (sx_at (aH (pv 0)) cT.nn cT.cl cT.under_) (bU (au (aa (pv 8)) (aa (pv 9)) (λ_ _=>rfl))) (λ_ _=>rfl)) (aH (pv 10))))
  (av (ss_setX (sx_at (aH (pv 0)) cT.nn cT.cl cT.over_) (aH (pv 10)) (bU (au (aa (pv 8)) (aa (pv 9)) (λ_ _=>rfl))))
  (bD (ss_setX (sx_at (aH (pv 0)) cT.nn cT.cl cT.hooks_) (aH (pv 10)) (bU (au (aa (pv 7)) (aa (pv 9)) (λ_ _=>rfl)))))))))
  (bD (iS (sx_met iw (hr.mono (by decide)) rfl (aH (pv 0)) (dc (aH (pv 2)) (dc (bO (pd_if (aY (iz hr.units) (au (aa (pv 4)) ah (λ_ _=>rfl)) (aa (pv 2)) (aX _)) (aa (pv 5)) (pd_neg (aa (pv 5))))) sa_nil)))))))))))
theorem sc_Tree_mend:FnScope ["self", "number", "rule", "more", "tail", "head", "top", "down", "up", "amount", "leaving", "step"] ["self", "number"] (aj (mth (top 8) 8)):=by walk_at "S"
theorem jc{f:Addr}{fd:FuncData}(F0:Fun K "mend" "Tree.mend" (mth (top 8) 8) f fd){C_Tree:Addr}(m_Tree:mg "Tree" = some (.ref C_Tree))(cT:ClsT_Tree K C_Tree)(ce:DefM P w K mg base 1 "Tree" "lack_of" 2 bC)(gY:DefM P w K mg base 1 "Tree" "meeting" 3 dG)(d_Tree_way:DefM P w K mg base 1 "Tree" "way" 3 fA)(fx:DefM P w K mg base 1 "Tree" "step_down" 2 b8)(gX:DefM P w K mg base 1 "Tree" "step_up" 2 cM)(eo:DefM P w K mg base 1 "Tree" "room" 2 b5)(ds_Tree_hang:SL.DefSM P w K mg base 2 "Tree" "hang" 4 cU)(hM:MthT K C_Tree "mend" f):SL.DefSM P w K mg base 3 "Tree" "mend" 2 eV:=by
 have S:=sc_Tree_mend
 refine⟨C_Tree,f,fd,["self", "number"],cT.nn,cT.cl,⟨hM.1,hM.2,F0.kp⟩,SL.fn_ofS (N:=["self", "number", "rule", "more", "tail", "head", "top", "down", "up", "amount", "leaving", "step"]) (ps:=["self", "number"]) (k:=2) (g:=ia) F0 S (λcdv A outer s H E hr=>?_),(F0.binds (by walk_at "B2"))⟩
 unfold ia fM d4 d5
 exact(av (bI (i:=2) S.nd rfl (by walk_at "L") (bU (au (aZ ⟨cT.nn,cT.cl⟩ cT.rules_ (aa (pv 0))) (aa (pv 1)) (λ_ _=>rfl))))
  (av (bI (i:=3) S.nd rfl (by walk_at "L") (bU (iW dop_gt (cp ce (hr.mono (by decide)) rfl (aa (pv 0)) (ae (aa (pv 1)) ai)) ah (aX _))))
  (av (bI (i:=4) S.nd rfl (by walk_at "L") (bO (pd_if (cB (aa (pv 3))) (au (aa (pv 2)) ah (λ_ _=>rfl)) (au (aa (pv 2)) ah (λ_ _=>rfl)))))
  (av (bI (i:=5) S.nd rfl (by walk_at "L") (bO (pd_if (cB (aa (pv 3))) (au (aa (pv 2)) ah (λ_ _=>rfl)) (au (aa (pv 2)) ah (λ_ _=>rfl)))))
  (av (bI (i:=6) S.nd rfl (by walk_at "L") (bU (cp gY (hr.mono (by decide)) rfl (aa (pv 0)) (ae (aa (pv 4)) (ae (aa (pv 5)) ai)))))
  (av (ss_compFN (iy:=7) (fr:=[(0, "self")]) (tn:=["point"]) rfl rfl (by decide +kernel) (by rfl) (λ_ _ h=>h) (de (by rfl)) (fK rfl rfl rfl ⟨_,rfl⟩ fm) (by decide +kernel) (dI (cp d_Tree_way (hr.mono (by decide)) rfl (aa (pv 0)) (ae (aa (pv 4)) (ae (aa (pv 6)) ai)))) (λC s3 H3 fp=>(be (aR (i:=0) (show(["point", "self"]:List Str).Nodup from by decide +kernel) rfl (by walk_at "L")))) (λC s3 H3 fp=>cV) (λC s3 H3 fp=>(cp fx (hr.mono (by decide)) rfl (aa (pv 1)) (ae (aa (pv 0)) ai))) S.nd rfl (by walk_at "L"))
  (av (ss_compFN (iy:=8) (fr:=[(0, "self")]) (tn:=["point"]) rfl rfl (by decide +kernel) (by rfl) (λ_ _ h=>h) (de (by rfl)) (fK rfl rfl rfl ⟨_,rfl⟩ fm) (by decide +kernel) (dI (cp d_Tree_way (hr.mono (by decide)) rfl (aa (pv 0)) (ae (aa (pv 5)) (ae (aa (pv 6)) ai)))) (λC s3 H3 fp=>(be (aR (i:=0) (show(["point", "self"]:List Str).Nodup from by decide +kernel) rfl (by walk_at "L")))) (λC s3 H3 fp=>cV) (λC s3 H3 fp=>(cp gX (hr.mono (by decide)) rfl (aa (pv 1)) (ae (aa (pv 0)) ai))) S.nd rfl (by walk_at "L"))
  (av (bI (i:=9) S.nd rfl (by walk_at "L") (bU (au (aZ ⟨cT.nn,cT.cl⟩ cT.bounds_ (aa (pv 0))) (aa (pv 1)) (λ_ _=>rfl))))
  (av (bI (i:=10) S.nd rfl (by walk_at "L") (bO dm))
  (av (ss_forTD PassesOwn.never rfl (aH (pv 7)) (gj (aR (i:=11) S.nd rfl (by walk_at "L"))) (bD (ss_if (st_testN (aY dop_lt (cp eo (hr.mono (by decide)) rfl (aa (pv 0)) (ae (aa (pv 11)) ai)) (aa (pv 9)) (aX _))) (av (bI (i:=9) S.nd rfl (by walk_at "L") (bU (cp eo (hr.mono (by decide)) rfl (aa (pv 0)) (ae (aa (pv 11)) ai))))
  (bD (bI (i:=10) S.nd rfl (by walk_at "L") (bO (dk (ae (au (aa (pv 11)) ah (λ_ _=>rfl)) (ae (aa (pv 4)) ai))))))) iR)))
  (av (ss_forTD PassesOwn.never rfl (aH (pv 8)) (gj (aR (i:=11) S.nd rfl (by walk_at "L"))) (bD (ss_if (st_testN (aY dop_leD (cp eo (hr.mono (by decide)) rfl (aa (pv 0)) (ae (aa (pv 11)) ai)) (aa (pv 9)) (aX _))) (av (bI (i:=9) S.nd rfl (by walk_at "L") (bU (cp eo (hr.mono (by decide)) rfl (aa (pv 0)) (ae (aa (pv 11)) ai))))
  (bD (bI (i:=10) S.nd rfl (by walk_at "L") (bO (dk (ae (au (aa (pv 11)) ah (λ_ _=>rfl)) (ae (aa (pv 5)) ai))))))) iR)))
  (av (ss_forTD PassesOwn.never rfl (gi (gn (e9 (gn (e9 (bW (ae (dk (ae dm (ae (aa (pv 1)) (ae (aa (pv 3)) ai)))) ai))) (aa (pv 7)))) (aa (pv 8)))) (gj (aR (i:=11) S.nd rfl (by walk_at "L"))) (bD (ss_augX ip_add (sx_at (aH (pv 0)) cT.nn cT.cl cT.flow_) (bO (au (aa (pv 11)) ah (λ_ _=>rfl))) (bO (pd_if (cB (au (aa (pv 11)) ah (λ_ _=>rfl))) (aa (pv 9)) (pd_neg (aa (pv 9))))))))
  (bD (ss_if (st_test (aY dop_isnot (aa (pv 10)) dm (aX _))) (bD (iS (sx_met ds_Tree_hang (hr.mono (by decide)) rfl (aH (pv 0)) (dc (bO (au (aa (pv 10)) ah (λ_ _=>rfl))) (dc (bO (au (aa (pv 10)) ah (λ_ _=>rfl))) (dc (aH (pv 1)) sa_nil)))))) iR))))))))))))))
theorem sc_Tree_settle:FnScope ["self", "number"] ["self"] (aj (mth (top 8) 3)):=by walk_at "S"
theorem gR{f:Addr}{fd:FuncData}(F0:Fun K "settle" "Tree.settle" (mth (top 8) 3) f fd){C_Tree:Addr}(m_Tree:mg "Tree" = some (.ref C_Tree))(cT:ClsT_Tree K C_Tree)(cQ:SL.DefSM P w K mg base 3 "Tree" "wrong_rule" 1 bN)(jc:SL.DefSM P w K mg base 3 "Tree" "mend" 2 eV)(hM:MthT K C_Tree "settle" f):SL.DefSM P w K mg base 4 "Tree" "settle" 1 dH:=by
 have S:=sc_Tree_settle
 refine⟨C_Tree,f,fd,["self"],cT.nn,cT.cl,⟨hM.1,hM.2,F0.kp⟩,SL.fn_ofS (N:=["self", "number"]) (ps:=["self"]) (k:=3) (g:=fJ) F0 S (λcdv A outer s H E hr=>?_),(F0.binds (by walk_at "B1"))⟩
 unfold fJ cX
 exact(av (bI (i:=1) S.nd rfl (by walk_at "L") (sx_met0 cQ (hr.mono (by decide)) (aH (pv 0))))
  (bD (ss_while PassesOwn.never (st_test (aY dop_isnot (aa (pv 1)) dm (aX _))) (av (iS (sx_met jc (hr.mono (by decide)) rfl (aH (pv 0)) (dc (aH (pv 1)) sa_nil)))
  (bD (bI (i:=1) S.nd rfl (by walk_at "L") (sx_met0 cQ (hr.mono (by decide)) (aH (pv 0)))))))))
theorem sc_ring_above:FnScope ["rules", "raisers", "point", "step", "ring", "low"] ["rules", "raisers", "point"] (aj (top 5)):=by walk_at "S"
theorem d_ring_above{f:Addr}{fd:FuncData}(F0:Fun K "ring_above" "ring_above" (top 5) f fd)(hm:mg "ring_above" = some (.ref f))(z_len:mg "len" = none)(z_range:mg "range" = none)(z_list:mg "list" = none)(z_reversed:mg "reversed" = none):Def P w K mg base 1 "ring_above" 3 dP:=by
 have S:=sc_ring_above
 refine def_of (N:=["rules", "raisers", "point", "step", "ring", "low"]) (ps:=["rules", "raisers", "point"]) (k:=0) (g:=gq) F0 S hm (F0.binds (by walk_at "B3")) λcdv A outer s H E hr=>?_
 unfold gq eP eQ
 exact(aB (iV PassesOwn.never rfl (pdi_rng1 rfl z_range (ae (bQ db rfl z_len PySem.boot_len (ae (aa (pv 1)) ai)) ai)) (be (aR (i:=3) S.nd rfl (by walk_at "L"))) (aE (br (i:=2) S.nd rfl (by walk_at "L") (au (au (aa (pv 0)) (au (aa (pv 1)) (aa (pv 2)) (λ_ _=>rfl)) (λ_ _=>rfl)) ah (λ_ _=>rfl)))))
  (aB (pd_newL (i:=4) S.nd rfl (by walk_at "L") (bW (ae (au (aa (pv 1)) (aa (pv 2)) (λ_ _=>rfl)) ai)))
  (aB (br (i:=5) S.nd rfl (by walk_at "L") (au (au (aa (pv 0)) (au (aa (pv 1)) (aa (pv 2)) (λ_ _=>rfl)) (λ_ _=>rfl)) ah (λ_ _=>rfl)))
  (aB (pd_while PassesOwn.never (aY (dop_ne hr.units) (aa (pv 5)) (aa (pv 2)) (aX _)) (aB (pd_app (i:=4) (pv 4) (au (aa (pv 1)) (aa (pv 5)) (λ_ _=>rfl)))
  (aE (br (i:=5) S.nd rfl (by walk_at "L") (au (au (aa (pv 0)) (au (aa (pv 1)) (aa (pv 5)) (λ_ _=>rfl)) (λ_ _=>rfl)) ah (λ_ _=>rfl))))))
  (pds_frz 4 (aE (cj (pd_twoTy (dtwo_listrev rfl) rfl z_list PyProof.Rows.boot_list rfl z_reversed PyProof.Rows.boot_reversed (ae (aa (pv 4)) ai)))))))))
theorem sc_raise_points:FnScope ["rules", "times", "raisers", "raised", "number", "rule"] ["rules", "times", "raisers"] (aj (top 4)):=by walk_at "S"
theorem fZ{f:Addr}{fd:FuncData}(F0:Fun K "raise_points" "raise_points" (top 4) f fd)(hm:mg "raise_points" = some (.ref f))(cI:Def P w K mg base 1 "must_be_kept" 1 bh)(z_enumerate:mg "enumerate" = none):SL.DefS P w K mg base 2 "raise_points" 3 bT:=by
 have S:=sc_raise_points
 refine SL.defs_of (N:=["rules", "times", "raisers", "raised", "number", "rule"]) (ps:=["rules", "times", "raisers"]) (k:=1) (g:=eA) F0 S hm (F0.binds (by walk_at "B3")) λcdv A outer s H E hr=>?_
 unfold eA cK
 exact(av (bI (i:=3) S.nd rfl (by walk_at "L") (bO dm))
  (av (ss_for PassesOwn.never rfl (pdi_enum rfl z_enumerate (ae (aa (pv 0)) ai)) (sg_tup rfl (sgs_cons (gj (aR (i:=4) S.nd rfl (by walk_at "L"))) (sgs_cons (gj (aR (i:=5) S.nd rfl (by walk_at "L"))) sgs_nil))) (bD (ss_if (st_test (PDW.t (pdw_and (cB (cq cI (hr.mono (by decide)) rfl rfl (ae (aa (pv 5)) ai))) (pdw_and1 (aY dop_gt (aS bL (au (aa (pv 1)) (au (aa (pv 5)) ah (λ_ _=>rfl)) (λ_ _=>rfl)) (au (aa (pv 5)) ah (λ_ _=>rfl))) (au (aa (pv 1)) (au (aa (pv 5)) ah (λ_ _=>rfl)) (λ_ _=>rfl)) (aX _)))))) (av (ss_setI (i:=1) (pv 1) (bO (au (aa (pv 5)) ah (λ_ _=>rfl))) (sx_lend (aS bL (au (aa (pv 1)) (au (aa (pv 5)) ah (λ_ _=>rfl)) (λ_ _=>rfl)) (au (aa (pv 5)) ah (λ_ _=>rfl)))))
  (av (ss_setI (i:=2) (pv 2) (bO (au (aa (pv 5)) ah (λ_ _=>rfl))) (aH (pv 4)))
  (bD (bI (i:=3) S.nd rfl (by walk_at "L") (bO (au (aa (pv 5)) ah (λ_ _=>rfl))))))) iR)))
  (bD (ss_ret (aH (pv 3))))))
theorem sc_keeping:FnScope ["many", "rules", "times", "raisers", "walk", "raised"] ["many", "rules"] (aj (top 3)):=by walk_at "S"
theorem ds_keeping{f:Addr}{fd:FuncData}(F0:Fun K "keeping" "keeping" (top 3) f fd)(hm:mg "keeping" = some (.ref f))(d_ring_above:Def P w K mg base 1 "ring_above" 3 dP)(z_range:mg "range" = none)(fZ:SL.DefS P w K mg base 2 "raise_points" 3 bT):SL.DefS P w K mg base 3 "keeping" 2 cS:=by
 have S:=sc_keeping
 refine SL.defs_of (N:=["many", "rules", "times", "raisers", "walk", "raised"]) (ps:=["many", "rules"]) (k:=2) (g:=g_keeping) F0 S hm (F0.binds (by walk_at "B2")) λcdv A outer s H E hr=>?_
 unfold g_keeping dA
 exact(av (ss_newL (i:=2) S.nd rfl (by walk_at "L") (pdn_rep (bW (ae ah ai)) (aS bL (aa (pv 0)) ah)))
  (av (ss_newL (i:=3) S.nd rfl (by walk_at "L") (pdn_rep (bW (ae dm ai)) (aS bL (aa (pv 0)) ah)))
  (av (ss_for PassesOwn.never rfl (pdi_rng1 rfl z_range (ae (aS bL (aa (pv 0)) ah) ai)) (gj (aR (i:=4) S.nd rfl (by walk_at "L"))) (av (bI (i:=5) S.nd rfl (by walk_at "L") (sx_call fZ (hr.mono (by decide)) rfl rfl (dc (aH (pv 1)) (dc (aH (pv 2)) (dc (aH (pv 3)) sa_nil)))))
  (bD (ss_if (st_test (aY dop_is (aa (pv 5)) dm (aX _))) (bD (ss_retF (dk (ae pd_str (ae (eu (fr:=[(2, "times")]) (tn:=["moment"]) rfl rfl (by decide +kernel) (by rfl) (λ_ _ h=>h) (de (by rfl)) (fK rfl rfl rfl ⟨_,rfl⟩ fm) (by decide +kernel) (dI (aa (pv 2))) (λC s3 H3 fp=>(be (aR (i:=0) (show(["moment", "times"]:List Str).Nodup from by decide +kernel) rfl (by walk_at "L")))) (λC s3 H3 fp=>cV) (λC s3 H3 fp=>(aS eM (aa (pv 0)) (au (aa (pv 1)) ah (λ_ _=>rfl))))) ai))))) iR))))
  (bD (ss_retF (dk (ae pd_str (ae (cq d_ring_above (hr.mono (by decide)) rfl rfl (ae (aa (pv 1)) (ae (aa (pv 3)) (ae (aa (pv 5)) ai)))) ai))))))))
theorem sc_least_timing:FnScope ["many", "rules", "kept", "tree"] ["many", "rules"] (aj (top 11)):=by walk_at "S"
theorem ds_least_timing{f:Addr}{fd:FuncData}(F0:Fun K "least_timing" "least_timing" (top 11) f fd)(hm:mg "least_timing" = some (.ref f))(iB:DefM P w K mg base 1 "Tree" "timing" 1 ec)(dz:DefM P w K mg base 1 "Tree" "flow_of_rules" 1 bF)(ds_keeping:SL.DefS P w K mg base 3 "keeping" 2 cS)(jd:SL.MkS P w K mg base 2 "Tree" 3 eW)(gR:SL.DefSM P w K mg base 4 "Tree" "settle" 1 dH):SL.DefS P w K mg base 5 "least_timing" 2 cZ:=by
 have S:=sc_least_timing
 refine SL.defs_of (N:=["many", "rules", "kept", "tree"]) (ps:=["many", "rules"]) (k:=4) (g:=dn) F0 S hm (F0.binds (by walk_at "B2")) λcdv A outer s H E hr=>?_
 unfold dn
 exact(av (bI (i:=2) S.nd rfl (by walk_at "L") (sx_call ds_keeping (hr.mono (by decide)) rfl rfl (dc (aH (pv 0)) (dc (aH (pv 1)) sa_nil))))
  (av (ss_if (st_test (aY (iz hr.units) (au (aa (pv 2)) ah (λ_ _=>rfl)) pd_str (aX _))) (bD (ss_ret (aH (pv 2)))) iR)
  (av (bI (i:=3) S.nd rfl (by walk_at "L") (sx_mk jd (hr.mono (by decide)) rfl rfl (dc (bO (au (aa (pv 2)) ah (λ_ _=>rfl))) (dc (aH (pv 1)) sa_nil))))
  (av (iS (sx_met0 gR (hr.mono (by decide)) (aH (pv 3))))
  (bD (ss_retN (dk (ae pd_str (ae (pd_methI0 iB (hr.mono (by decide)) (aa (pv 3))) (ae (pd_methI0 dz (hr.mono (by decide)) (aa (pv 3))) ai))))))))))
theorem sc__law_cell_at:FnScope ["_law_script", "_law_k"] ["_law_script", "_law_k"] (aj (top 13)):=by walk_at "S"
theorem cJ{f:Addr}{fd:FuncData}(F0:Fun K "_law_cell_at" "_law_cell_at" (top 13) f fd)(hm:mg "_law_cell_at" = some (.ref f))(z_len:mg "len" = none):Def P w K mg base 1 "_law_cell_at" 2 bB:=by
 have S:=sc__law_cell_at
 refine def_of (N:=["_law_script", "_law_k"]) (ps:=["_law_script", "_law_k"]) (k:=0) (g:=dq) F0 S hm (F0.binds (by walk_at "B2")) λcdv A outer s H E hr=>?_
 unfold dq
 exact(aB (fW (aY dop_lt (aa (pv 1)) (bQ db rfl z_len PySem.boot_len (ae (aa (pv 0)) ai)) (aX _)) (aE (cj (au (aa (pv 0)) (aa (pv 1)) (λ_ _=>rfl)))) gm)
  (aE (cj ah)))
theorem sc__law_whole:FnScope ["_law_found"] ["_law_found"] (aj (top 14)):=by walk_at "S"
theorem gC{f:Addr}{fd:FuncData}(F0:Fun K "_law_whole" "_law_whole" (top 14) f fd)(hm:mg "_law_whole" = some (.ref f))(z_isinstance:mg "isinstance" = none)(z_int:mg "int" = none)(z_bool:mg "bool" = none):Def P w K mg base 1 "_law_whole" 1 cR:=by
 have S:=sc__law_whole
 refine def_of (N:=["_law_found"]) (ps:=["_law_found"]) (k:=0) (g:=gv) F0 S hm (F0.binds (by walk_at "B1")) λcdv A outer s H E hr=>?_
 unfold gv
 exact(aE (cj (pd_and (iH rfl (kit_int _) rfl z_isinstance rfl z_int PyProof.Rows.boot_int (aa (pv 0))) (pd_one (pd_not (iH rfl (kit_bool _) rfl z_isinstance rfl z_bool PyProof.Rows.boot_bool (aa (pv 0))))))))
theorem sc__law_numbers:FnScope ["_law_cell", "_law_many", "_law_found", "_law_number", "_law_k"] ["_law_cell", "_law_many"] (aj (top 15)):=by walk_at "S"
theorem gU{f:Addr}{fd:FuncData}(F0:Fun K "_law_numbers" "_law_numbers" (top 15) f fd)(hm:mg "_law_numbers" = some (.ref f))(z_range:mg "range" = none):Def P w K mg base 1 "_law_numbers" 2 dE:=by
 have S:=sc__law_numbers
 refine def_of (N:=["_law_cell", "_law_many", "_law_found", "_law_number", "_law_k"]) (ps:=["_law_cell", "_law_many"]) (k:=0) (g:=eE) F0 S hm (F0.binds (by walk_at "B2")) λcdv A outer s H E hr=>?_
 unfold eE dO
 exact(aB (pd_newL (i:=2) S.nd rfl (by walk_at "L") (bW ai))
  (aB (br (i:=3) S.nd rfl (by walk_at "L") (aS dN (aa (pv 0)) ah))
  (aB (iV PassesOwn.never rfl (pdi_rng1 rfl z_range (ae (aa (pv 1)) ai)) (be (aR (i:=4) S.nd rfl (by walk_at "L"))) (aB (br (i:=3) S.nd rfl (by walk_at "L") (aS dN (aS dop_mul (aS bL (aS bL (aa (pv 3)) (aa (pv 4))) ah) ah) ah))
  (aE (pd_app (i:=2) (pv 2) (aa (pv 3))))))
  (aE (pd_retO (pv 2))))))
theorem sc__law_wishes:FnScope ["_law_cells", "_law_far", "_law_wishes_here", "_law_cell", "_law_some", "_law_moment"] ["_law_cells", "_law_far"] (aj (top 16)):=by walk_at "S"
theorem iA{f:Addr}{fd:FuncData}(F0:Fun K "_law_wishes" "_law_wishes" (top 16) f fd)(hm:mg "_law_wishes" = some (.ref f))(gU:Def P w K mg base 1 "_law_numbers" 2 dE):Def P w K mg base 2 "_law_wishes" 2 d6:=by
 have S:=sc__law_wishes
 refine def_of (N:=["_law_cells", "_law_far", "_law_wishes_here", "_law_cell", "_law_some", "_law_moment"]) (ps:=["_law_cells", "_law_far"]) (k:=1) (g:=fG) F0 S hm (F0.binds (by walk_at "B2")) λcdv A outer s H E hr=>?_
 unfold fG cW
 exact(aB (pd_newL (i:=2) S.nd rfl (by walk_at "L") (bW ai))
  (aB (iV PassesOwn.never rfl (dI (aa (pv 0))) (be (aR (i:=3) S.nd rfl (by walk_at "L"))) (aB (br (i:=4) S.nd rfl (by walk_at "L") (cq gU (hr.mono (by decide)) rfl rfl (ae (aa (pv 3)) (ae ah ai))))
  (aB (br (i:=5) S.nd rfl (by walk_at "L") (aS eM (aS dN (au (aa (pv 4)) ah (λ_ _=>rfl)) ah) ah))
  (aB (fW (cB (aa (pv 1))) (aE (br (i:=5) S.nd rfl (by walk_at "L") (aS eM (aS dN (au (aa (pv 4)) ah (λ_ _=>rfl)) (aS bL (aS dop_mul ah (aS dop_pow ah ah)) ah)) (aS dop_pow ah ah)))) gm)
  (aE (pd_app (i:=2) (pv 2) (dk (ae (aa (pv 5)) (ae (au (pd_lst (ae (aS dN (au (aa (pv 4)) ah (λ_ _=>rfl)) ah) (ae (aS dN (au (aa (pv 4)) ah (λ_ _=>rfl)) ah) ai))) (aS dop_div (aS dN (au (aa (pv 4)) ah (λ_ _=>rfl)) ah) ah) (λ_ _=>rfl)) (ae (iW (iz hr.units) (aS dN (aS dop_div (au (aa (pv 4)) ah (λ_ _=>rfl)) ah) ah) ah (aX _)) ai))))))))))
  (aE (pd_retO (pv 2)))))
theorem sc__law_rules:FnScope ["_law_wishes_here", "_law_rules_here", "_law_k", "_law_wish"] ["_law_wishes_here"] (aj (top 17)):=by walk_at "S"
theorem d__law_rules{f:Addr}{fd:FuncData}(F0:Fun K "_law_rules" "_law_rules" (top 17) f fd)(hm:mg "_law_rules" = some (.ref f))(z_enumerate:mg "enumerate" = none):Def P w K mg base 1 "_law_rules" 1 eU:=by
 have S:=sc__law_rules
 refine def_of (N:=["_law_wishes_here", "_law_rules_here", "_law_k", "_law_wish"]) (ps:=["_law_wishes_here"]) (k:=0) (g:=gw) F0 S hm (F0.binds (by walk_at "B1")) λcdv A outer s H E hr=>?_
 unfold gw eR
 exact(aB (pd_newL (i:=1) S.nd rfl (by walk_at "L") (bW ai))
  (aB (iV PassesOwn.never rfl (pdi_enum rfl z_enumerate (ae (aa (pv 0)) ai)) (pdg_tup rfl (dJ (be (aR (i:=2) S.nd rfl (by walk_at "L"))) (dJ (be (aR (i:=3) S.nd rfl (by walk_at "L"))) pdgs_nil))) (aE (fW (cB (au (aa (pv 3)) ah (λ_ _=>rfl))) (aE (pd_app (i:=1) (pv 1) (dk (ae ah (ae ah (ae (au (aa (pv 3)) ah (λ_ _=>rfl)) (ae (au (aa (pv 3)) ah (λ_ _=>rfl)) (ae (dk (ae pd_str (ae (aa (pv 2)) ai))) ai)))))))) (aE (pd_app (i:=1) (pv 1) (dk (ae ah (ae ah (ae (aS eM ah (au (aa (pv 3)) ah (λ_ _=>rfl))) (ae (au (aa (pv 3)) ah (λ_ _=>rfl)) (ae (dk (ae pd_str (ae (aa (pv 2)) ai))) ai)))))))))))
  (aE (pd_retO (pv 1)))))
theorem sc__law_price:FnScope ["_law_wishes_here", "_law_moment", "_law_total", "_law_at", "_law_weight", "_law_ahead"] ["_law_wishes_here", "_law_moment"] (aj (top 18)):=by walk_at "S"
theorem gE{f:Addr}{fd:FuncData}(F0:Fun K "_law_price" "_law_price" (top 18) f fd)(hm:mg "_law_price" = some (.ref f))(z_max:mg "max" = none):Def P w K mg base 1 "_law_price" 2 bY:=by
 have S:=sc__law_price
 refine def_of (N:=["_law_wishes_here", "_law_moment", "_law_total", "_law_at", "_law_weight", "_law_ahead"]) (ps:=["_law_wishes_here", "_law_moment"]) (k:=0) (g:=gx) F0 S hm (F0.binds (by walk_at "B2")) λcdv A outer s H E hr=>?_
 unfold gx eS
 exact(aB (br (i:=2) S.nd rfl (by walk_at "L") ah)
  (aB (iV PassesOwn.never rfl (dI (aa (pv 0))) (pdg_tup rfl (dJ (be (aR (i:=3) S.nd rfl (by walk_at "L"))) (dJ (be (aR (i:=4) S.nd rfl (by walk_at "L"))) (dJ (be (aR (i:=5) S.nd rfl (by walk_at "L"))) pdgs_nil)))) (aE (fW (cB (aa (pv 5))) (aE (br (i:=2) S.nd rfl (by walk_at "L") (aS bL (aa (pv 2)) (aS dop_mul (aa (pv 4)) (bQ (dcall_max rfl) rfl z_max PyProof.Rows.boot_max (ae ah (ae (aS eM (aa (pv 3)) (aa (pv 1))) ai))))))) (aE (br (i:=2) S.nd rfl (by walk_at "L") (aS bL (aa (pv 2)) (aS dop_mul (aa (pv 4)) (bQ (dcall_max rfl) rfl z_max PyProof.Rows.boot_max (ae ah (ae (aS eM (aa (pv 1)) (aa (pv 3))) ai))))))))))
  (aE (cj (aa (pv 2))))))
theorem sc_law:FnScope ["_law_script", "_law_cell", "_law_wishes_here", "_law_rules_here", "_law_tried", "_law_best", "_law_found", "_law_times", "_law_flow", "_law_low", "_law_at", "_law_k", "_law_rule"] ["_law_script"] (aj (top 19)):=by walk_at "S"
theorem fn_law{f:Addr}{fd:FuncData}(F0:Fun K "law" "law" (top 19) f fd)(cJ:Def P w K mg base 1 "_law_cell_at" 2 bB)(iA:Def P w K mg base 2 "_law_wishes" 2 d6)(d__law_rules:Def P w K mg base 1 "_law_rules" 1 eU)(gE:Def P w K mg base 1 "_law_price" 2 bY)(d_least_timing:Def P w K mg base 5 "least_timing" 2 bR)(gC:Def P w K mg base 1 "_law_whole" 1 cR)(z_len:mg "len" = none)(z_min:mg "min" = none)(z_list:mg "list" = none)(z_isinstance:mg "isinstance" = none)(z_tuple:mg "tuple" = none)(z_enumerate:mg "enumerate" = none):FnOk P w K mg base CX0 6 f fd ["_law_script"] (spD K 1 F_law):=by
 have S:=sc_law
 refine fY (N:=["_law_script", "_law_cell", "_law_wishes_here", "_law_rules_here", "_law_tried", "_law_best", "_law_found", "_law_times", "_law_flow", "_law_low", "_law_at", "_law_k", "_law_rule"]) (ps:=["_law_script"]) (k:=5) (g:=g_law) F0 S λcdv A outer s H E hr=>?_
 unfold g_law b_law_0
 exact(aB (br (i:=1) S.nd rfl (by walk_at "L") (cq cJ (hr.mono (by decide)) rfl rfl (ae (aa (pv 0)) (ae ah ai))))
  (aB (br (i:=2) S.nd rfl (by walk_at "L") (cq iA (hr.mono (by decide)) rfl rfl (ae (pd_cutS (aa (pv 0)) (iG ah) (iG ah)) (ae (iW (iz hr.units) (aS dN (aa (pv 1)) ah) ah (aX _)) ai))))
  (aB (br (i:=3) S.nd rfl (by walk_at "L") (cq d__law_rules (hr.mono (by decide)) rfl rfl (ae (aa (pv 2)) ai)))
  (aB (br (i:=4) S.nd rfl (by walk_at "L") (aS bL (pd_lst (ae ah ai)) (eu (fr:=[]) (tn:=["_law_wish"]) rfl rfl (by decide +kernel) (by rfl) sub_nil (de (by rfl)) fm (by decide +kernel) (dI (aa (pv 2))) (λC s3 H3 fp=>(be (aR (i:=0) (show(["_law_wish"]:List Str).Nodup from by decide +kernel) rfl (by walk_at "L")))) (λC s3 H3 fp=>cV) (λC s3 H3 fp=>(au (aa (pv 0)) ah (λ_ _=>rfl))))))
  (aB (fW (aY (iz hr.units) (aS dN (aS dop_div (aa (pv 1)) ah) ah) ah (aX _)) (aB (br (i:=9) S.nd rfl (by walk_at "L") (aS eM (aS bL (au (aa (pv 4)) (aS dN (cq cJ (hr.mono (by decide)) rfl rfl (ae (aa (pv 0)) (ae ah ai))) (bQ db rfl z_len PySem.boot_len (ae (aa (pv 4)) ai))) (λ_ _=>rfl)) (aS dN (aS dop_div (cq cJ (hr.mono (by decide)) rfl rfl (ae (aa (pv 0)) (ae ah ai))) ah) ah)) ah))
  (aB (br (i:=10) S.nd rfl (by walk_at "L") (aS dN (aS dop_div (cq cJ (hr.mono (by decide)) rfl rfl (ae (aa (pv 0)) (ae ah ai))) ah) (aS bL (bQ db rfl z_len PySem.boot_len (ae (aa (pv 3)) ai)) ah)))
  (aB (br (i:=3) S.nd rfl (by walk_at "L") (aS bL (aS bL (pd_cutS (aa (pv 3)) pdo_none (iG (aa (pv 10)))) (pd_lst (ae (dk (ae ah (ae ah (ae (aa (pv 9)) (ae dm (ae (dk (ae pd_str (ae ah ai))) ai)))))) ai))) (pd_cutS (aa (pv 3)) (iG (aa (pv 10))) pdo_none)))
  (aE (br (i:=4) S.nd rfl (by walk_at "L") (aS bL (pd_lst (ae (aa (pv 9)) ai)) (eu (fr:=[(9, "_law_low")]) (tn:=["_law_moment"]) rfl rfl (by decide +kernel) (by rfl) (sub_one (n := "_law_low") (by rfl)) (de (by rfl)) (fK rfl rfl rfl ⟨_,rfl⟩ fm) (by decide +kernel) (dI (aa (pv 4))) (λC s3 H3 fp=>(be (aR (i:=0) (show(["_law_moment", "_law_low"]:List Str).Nodup from by decide +kernel) rfl (by walk_at "L")))) (λC s3 H3 fp=>(pdts_one (aY dop_ge (aa (pv 0)) (aa (pv 1)) (aX _)))) (λC s3 H3 fp=>(aa (pv 0)))))))))) gm)
  (aB (br (i:=5) S.nd rfl (by walk_at "L") (bQ (dcall_minM rfl) rfl z_min PyProof.Rows.boot_min (ae (eu (fr:=[(2, "_law_wishes_here")]) (tn:=["_law_moment"]) rfl rfl (by decide +kernel) (by rfl) (sub_one (n := "_law_wishes_here") (by rfl)) (de (by rfl)) (fK rfl rfl rfl ⟨_,rfl⟩ fm) (by decide +kernel) (dI (aa (pv 4))) (λC s3 H3 fp=>(be (aR (i:=0) (show(["_law_moment", "_law_wishes_here"]:List Str).Nodup from by decide +kernel) rfl (by walk_at "L")))) (λC s3 H3 fp=>cV) (λC s3 H3 fp=>(cq gE (hr.mono (by decide)) rfl rfl (ae (aa (pv 1)) (ae (aa (pv 0)) ai))))) ai)))
  (aB (br (i:=6) S.nd rfl (by walk_at "L") (cq d_least_timing (hr.mono (by decide)) rfl rfl (ae ah (ae (pd_callTy dcall_list rfl z_list PyProof.Rows.boot_list (ae (aa (pv 3)) ai)) ai))))
  (aB (fW (PDW.t (pdw_or (pdt_not (cB (iH rfl (kit_tuple _) rfl z_isinstance rfl z_tuple PyProof.Rows.boot_tuple (aa (pv 6))))) (pdw_or (aY (dop_ne hr.units) (bQ db rfl z_len PySem.boot_len (ae (aa (pv 6)) ai)) ah (aX _)) (pdw_or1 (aY (dop_ne hr.units) (au (aa (pv 6)) ah (λ_ _=>rfl)) pd_str (aX _)))))) (aE (cj pd_bl)) gm)
  (aB (br (i:=7) S.nd rfl (by walk_at "L") (au (aa (pv 6)) ah (λ_ _=>rfl)))
  (aB (br (i:=8) S.nd rfl (by walk_at "L") (au (aa (pv 6)) ah (λ_ _=>rfl)))
  (aB (fW (PDW.t (pdw_or (pdt_not (cB (iH rfl (kit_list _) rfl z_isinstance rfl z_list PyProof.Rows.boot_list (aa (pv 7))))) (pdw_or (aY (dop_ne hr.units) (bQ db rfl z_len PySem.boot_len (ae (aa (pv 7)) ai)) ah (aX _)) (pdw_or (aY (dop_ne hr.units) (au (aa (pv 7)) ah (λ_ _=>rfl)) ah (aX _)) (pdw_or1 (pdt_not (cB (cq gC (hr.mono (by decide)) rfl rfl (ae (au (aa (pv 7)) ah (λ_ _=>rfl)) ai))))))))) (aE (cj pd_bl)) gm)
  (aB (fW (PDW.t (pdw_or (pdt_not (cB (iH rfl (kit_list _) rfl z_isinstance rfl z_list PyProof.Rows.boot_list (aa (pv 8))))) (pdw_or1 (aY (dop_ne hr.units) (bQ db rfl z_len PySem.boot_len (ae (aa (pv 8)) ai)) (bQ db rfl z_len PySem.boot_len (ae (aa (pv 3)) ai)) (aX _))))) (aE (cj pd_bl)) gm)
  (aB (iV PassesOwn.never rfl (pdi_enum rfl z_enumerate (ae (aa (pv 3)) ai)) (pdg_tup rfl (dJ (be (aR (i:=11) S.nd rfl (by walk_at "L"))) (dJ (be (aR (i:=12) S.nd rfl (by walk_at "L"))) pdgs_nil))) (aB (fW (PDW.t (pdw_or (pdt_not (cB (cq gC (hr.mono (by decide)) rfl rfl (ae (au (aa (pv 8)) (aa (pv 11)) (λ_ _=>rfl)) ai)))) (pdw_or (aY dop_lt (au (aa (pv 8)) (aa (pv 11)) (λ_ _=>rfl)) ah (aX _)) (pdw_or1 (PDW.t (pdw_and (aY dop_isnot (au (aa (pv 12)) ah (λ_ _=>rfl)) dm (aX _)) (pdw_and1 (aY dop_gt (au (aa (pv 8)) (aa (pv 11)) (λ_ _=>rfl)) (au (aa (pv 12)) ah (λ_ _=>rfl)) (aX _))))))))) (aE (cj pd_bl)) gm)
  (aE (fW (PDW.t (pdw_and (aY dop_is (au (aa (pv 12)) ah (λ_ _=>rfl)) dm (aX _)) (pdw_and1 (aY dop_lt (aS eM (au (aa (pv 7)) (au (aa (pv 12)) ah (λ_ _=>rfl)) (λ_ _=>rfl)) (au (aa (pv 7)) (au (aa (pv 12)) ah (λ_ _=>rfl)) (λ_ _=>rfl))) (au (aa (pv 12)) ah (λ_ _=>rfl)) (aX _))))) (aE (cj pd_bl)) gm))))
  (aE (cj (iW (iz hr.units) (cq gE (hr.mono (by decide)) rfl rfl (ae (aa (pv 2)) (ae (au (aa (pv 7)) ah (λ_ _=>rfl)) ai))) (aa (pv 5)) (aX _)))))))))))))))))
end
theorem all_mk{l:PySem.W.OpenLaw}{w:World}{K:PySem.W.Frag}{h:Heap}{mg:Str->Option Value}{fa f0 f1 f2 f3 f4 f5 f6 f7 f8 f9 f10 f11 f12 f13 f15 f16 f17 f18 f19 f20 f21 f22 f23 f24 f25 f26 f27 f28 f29:Addr}(X:K.In h)(G:h.Ns mainGlobals mg)(hfa:mg "law" = some (.ref fa))
  {od0 an0 od1 an1 od2 an2 od3 an3 od4 an4 od5 an5 od6 an6 od7 an7 od8 an8 od9 an9 od10 an10 od11 an11 od12 an12 od13 an13 od15 an15 od16 an16 od17 an17 od18 an18 od19 an19 od20 an20 od21 an21 od22 an22 od23 an23 od24 an24 od25 an25 od26 an26 od27 an27 od28 an28 od29 an29:Option Addr} {sl0 sl1 sl2 sl3 sl4 sl5 sl6 sl7 sl8 sl9 sl10 sl11 sl12 sl13 sl15 sl16 sl17 sl18 sl19 sl20 sl21 sl22 sl23 sl24 sl25 sl26 sl27 sl28 sl29:Array (Option Value)} {oc0 kV0 dc0 pm0 cd0 ct0 oc1 kV1 dc1 pm1 cd1 ct1 oc2 kV2 dc2 pm2 cd2 ct2 oc3 kV3 dc3 pm3 cd3 ct3 oc4 kV4 dc4 pm4 cd4 ct4 oc5 kV5 dc5 pm5 cd5 ct5 oc6 kV6 dc6 pm6 cd6 ct6 oc7 kV7 dc7 pm7 cd7 ct7 oc8 kV8 dc8 pm8 cd8 ct8 oc9 kV9 dc9 pm9 cd9 ct9 oc10 kV10 dc10 pm10 cd10 ct10 oc11 kV11 dc11 pm11 cd11 ct11 oc12 kV12 dc12 pm12 cd12 ct12 oc13 kV13 dc13 pm13 cd13 ct13 oc15 kV15 dc15 pm15 cd15 ct15 oc16 kV16 dc16 pm16 cd16 ct16 oc17 kV17 dc17 pm17 cd17 ct17 oc18 kV18 dc18 pm18 cd18 ct18 oc19 kV19 dc19 pm19 cd19 ct19 oc20 kV20 dc20 pm20 cd20 ct20 oc21 kV21 dc21 pm21 cd21 ct21 oc22 kV22 dc22 pm22 cd22 ct22 oc23 kV23 dc23 pm23 cd23 ct23 oc24 kV24 dc24 pm24 cd24 ct24 oc25 kV25 dc25 pm25 cd25 ct25 oc26 kV26 dc26 pm26 cd26 ct26 oc27 kV27 dc27 pm27 cd27 ct27 oc28 kV28 dc28 pm28 cd28 ct28 oc29 kV29 dc29 pm29 cd29 ct29:Value}
  (a0:PySem.W.nsIn K mainGlobals "must_be_kept" = some (some (.ref f0))) (l0:K.lookup f0=some ⟨oc0,od0,.func (PySem.W.fnOf "must_be_kept" "must_be_kept" (aV (top 1)) (aI (top 1)) (aj (top 1)) .none kV0 dc0 pm0 an0 cd0 ct0),sl0⟩) (c0:PySem.W.codeIn K cd0 "must_be_kept" = true) (k0:PySem.W.keepIn K (.ref f0)=true)
  (a1:PySem.W.nsIn K mainGlobals "first_flow" = some (some (.ref f1))) (l1:K.lookup f1=some ⟨oc1,od1,.func (PySem.W.fnOf "first_flow" "first_flow" (aV (top 9)) (aI (top 9)) (aj (top 9)) .none kV1 dc1 pm1 an1 cd1 ct1),sl1⟩) (c1:PySem.W.codeIn K cd1 "first_flow" = true) (k1:PySem.W.keepIn K (.ref f1)=true)
  (a19:PySem.W.nsIn K mainGlobals "ring_above" = some (some (.ref f19))) (l19:K.lookup f19=some ⟨oc19,od19,.func (PySem.W.fnOf "ring_above" "ring_above" (aV (top 5)) (aI (top 5)) (aj (top 5)) .none kV19 dc19 pm19 an19 cd19 ct19),sl19⟩) (c19:PySem.W.codeIn K cd19 "ring_above" = true) (k19:PySem.W.keepIn K (.ref f19)=true)
  (a20:PySem.W.nsIn K mainGlobals "raise_points" = some (some (.ref f20))) (l20:K.lookup f20=some ⟨oc20,od20,.func (PySem.W.fnOf "raise_points" "raise_points" (aV (top 4)) (aI (top 4)) (aj (top 4)) .none kV20 dc20 pm20 an20 cd20 ct20),sl20⟩) (c20:PySem.W.codeIn K cd20 "raise_points" = true) (k20:PySem.W.keepIn K (.ref f20)=true)
  (a21:PySem.W.nsIn K mainGlobals "keeping" = some (some (.ref f21))) (l21:K.lookup f21=some ⟨oc21,od21,.func (PySem.W.fnOf "keeping" "keeping" (aV (top 3)) (aI (top 3)) (aj (top 3)) .none kV21 dc21 pm21 an21 cd21 ct21),sl21⟩) (c21:PySem.W.codeIn K cd21 "keeping" = true) (k21:PySem.W.keepIn K (.ref f21)=true)
  (a22:PySem.W.nsIn K mainGlobals "least_timing" = some (some (.ref f22))) (l22:K.lookup f22=some ⟨oc22,od22,.func (PySem.W.fnOf "least_timing" "least_timing" (aV (top 11)) (aI (top 11)) (aj (top 11)) .none kV22 dc22 pm22 an22 cd22 ct22),sl22⟩) (c22:PySem.W.codeIn K cd22 "least_timing" = true) (k22:PySem.W.keepIn K (.ref f22)=true)
  (a23:PySem.W.nsIn K mainGlobals "_law_cell_at" = some (some (.ref f23))) (l23:K.lookup f23=some ⟨oc23,od23,.func (PySem.W.fnOf "_law_cell_at" "_law_cell_at" (aV (top 13)) (aI (top 13)) (aj (top 13)) .none kV23 dc23 pm23 an23 cd23 ct23),sl23⟩) (c23:PySem.W.codeIn K cd23 "_law_cell_at" = true) (k23:PySem.W.keepIn K (.ref f23)=true)
  (a24:PySem.W.nsIn K mainGlobals "_law_whole" = some (some (.ref f24))) (l24:K.lookup f24=some ⟨oc24,od24,.func (PySem.W.fnOf "_law_whole" "_law_whole" (aV (top 14)) (aI (top 14)) (aj (top 14)) .none kV24 dc24 pm24 an24 cd24 ct24),sl24⟩) (c24:PySem.W.codeIn K cd24 "_law_whole" = true) (k24:PySem.W.keepIn K (.ref f24)=true)
  (a25:PySem.W.nsIn K mainGlobals "_law_numbers" = some (some (.ref f25))) (l25:K.lookup f25=some ⟨oc25,od25,.func (PySem.W.fnOf "_law_numbers" "_law_numbers" (aV (top 15)) (aI (top 15)) (aj (top 15)) .none kV25 dc25 pm25 an25 cd25 ct25),sl25⟩) (c25:PySem.W.codeIn K cd25 "_law_numbers" = true) (k25:PySem.W.keepIn K (.ref f25)=true)
  (a26:PySem.W.nsIn K mainGlobals "_law_wishes" = some (some (.ref f26))) (l26:K.lookup f26=some ⟨oc26,od26,.func (PySem.W.fnOf "_law_wishes" "_law_wishes" (aV (top 16)) (aI (top 16)) (aj (top 16)) .none kV26 dc26 pm26 an26 cd26 ct26),sl26⟩) (c26:PySem.W.codeIn K cd26 "_law_wishes" = true) (k26:PySem.W.keepIn K (.ref f26)=true)
  (a27:PySem.W.nsIn K mainGlobals "_law_rules" = some (some (.ref f27))) (l27:K.lookup f27=some ⟨oc27,od27,.func (PySem.W.fnOf "_law_rules" "_law_rules" (aV (top 17)) (aI (top 17)) (aj (top 17)) .none kV27 dc27 pm27 an27 cd27 ct27),sl27⟩) (c27:PySem.W.codeIn K cd27 "_law_rules" = true) (k27:PySem.W.keepIn K (.ref f27)=true)
  (a28:PySem.W.nsIn K mainGlobals "_law_price" = some (some (.ref f28))) (l28:K.lookup f28=some ⟨oc28,od28,.func (PySem.W.fnOf "_law_price" "_law_price" (aV (top 18)) (aI (top 18)) (aj (top 18)) .none kV28 dc28 pm28 an28 cd28 ct28),sl28⟩) (c28:PySem.W.codeIn K cd28 "_law_price" = true) (k28:PySem.W.keepIn K (.ref f28)=true)
  (a29:PySem.W.nsIn K mainGlobals "law" = some (some (.ref f29))) (l29:K.lookup f29=some ⟨oc29,od29,.func (PySem.W.fnOf "law" "law" (aV (top 19)) (aI (top 19)) (aj (top 19)) .none kV29 dc29 pm29 an29 cd29 ct29),sl29⟩) (c29:PySem.W.codeIn K cd29 "law" = true) (k29:PySem.W.keepIn K (.ref f29)=true)
  (z_len:PySem.W.nsIn K mainGlobals "len" = some none)
  (z_sum:PySem.W.nsIn K mainGlobals "sum" = some none)
  (z_list:PySem.W.nsIn K mainGlobals "list" = some none)
  (z_enumerate:PySem.W.nsIn K mainGlobals "enumerate" = some none)
  (z_range:PySem.W.nsIn K mainGlobals "range" = some none)
  (z_abs:PySem.W.nsIn K mainGlobals "abs" = some none)
  (z_min:PySem.W.nsIn K mainGlobals "min" = some none)
  (z_reversed:PySem.W.nsIn K mainGlobals "reversed" = some none)
  (z_isinstance:PySem.W.nsIn K mainGlobals "isinstance" = some none)
  (z_int:PySem.W.nsIn K mainGlobals "int" = some none)
  (z_bool:PySem.W.nsIn K mainGlobals "bool" = some none)
  (z_max:PySem.W.nsIn K mainGlobals "max" = some none)
  (z_tuple:PySem.W.nsIn K mainGlobals "tuple" = some none)
  {C_Tree:Addr} (n_Tree:PySem.W.nsIn K mainGlobals "Tree" = some (some (.ref C_Tree)))
  (a2:PySem.W.findIn K (.ref C_Tree) "__init__" = some (some (.ref f2))) (l2:K.lookup f2=some ⟨oc2,od2,.func (PySem.W.fnOf "__init__" "Tree.__init__" (aV (mth (top 8) 0)) (aI (mth (top 8) 0)) (aj (mth (top 8) 0)) .none kV2 dc2 pm2 an2 cd2 ct2),sl2⟩) (c2:PySem.W.codeIn K cd2 "Tree.__init__" = true) (k2:PySem.W.keepIn K (.ref f2)=true) (i2:PySem.W.isFn K (.ref f2)=true)
  (mk2:PySem.W.makesIn K C_Tree=true) (kc2:PySem.W.keepIn K (.ref C_Tree)=true)
  (a3:PySem.W.findIn K (.ref C_Tree) "timing" = some (some (.ref f3))) (l3:K.lookup f3=some ⟨oc3,od3,.func (PySem.W.fnOf "timing" "Tree.timing" (aV (mth (top 8) 1)) (aI (mth (top 8) 1)) (aj (mth (top 8) 1)) .none kV3 dc3 pm3 an3 cd3 ct3),sl3⟩) (c3:PySem.W.codeIn K cd3 "Tree.timing" = true) (k3:PySem.W.keepIn K (.ref f3)=true) (i3:PySem.W.isFn K (.ref f3)=true)
  (a4:PySem.W.findIn K (.ref C_Tree) "flow_of_rules" = some (some (.ref f4))) (l4:K.lookup f4=some ⟨oc4,od4,.func (PySem.W.fnOf "flow_of_rules" "Tree.flow_of_rules" (aV (mth (top 8) 2)) (aI (mth (top 8) 2)) (aj (mth (top 8) 2)) .none kV4 dc4 pm4 an4 cd4 ct4),sl4⟩) (c4:PySem.W.codeIn K cd4 "Tree.flow_of_rules" = true) (k4:PySem.W.keepIn K (.ref f4)=true) (i4:PySem.W.isFn K (.ref f4)=true)
  (a5:PySem.W.findIn K (.ref C_Tree) "lack_of" = some (some (.ref f5))) (l5:K.lookup f5=some ⟨oc5,od5,.func (PySem.W.fnOf "lack_of" "Tree.lack_of" (aV (mth (top 8) 7)) (aI (mth (top 8) 7)) (aj (mth (top 8) 7)) .none kV5 dc5 pm5 an5 cd5 ct5),sl5⟩) (c5:PySem.W.codeIn K cd5 "Tree.lack_of" = true) (k5:PySem.W.keepIn K (.ref f5)=true) (i5:PySem.W.isFn K (.ref f5)=true)
  (a6:PySem.W.findIn K (.ref C_Tree) "is_wrong" = some (some (.ref f6))) (l6:K.lookup f6=some ⟨oc6,od6,.func (PySem.W.fnOf "is_wrong" "Tree.is_wrong" (aV (mth (top 8) 6)) (aI (mth (top 8) 6)) (aj (mth (top 8) 6)) .none kV6 dc6 pm6 an6 cd6 ct6),sl6⟩) (c6:PySem.W.codeIn K cd6 "Tree.is_wrong" = true) (k6:PySem.W.keepIn K (.ref f6)=true) (i6:PySem.W.isFn K (.ref f6)=true)
  (a7:PySem.W.findIn K (.ref C_Tree) "worst_rule" = some (some (.ref f7))) (l7:K.lookup f7=some ⟨oc7,od7,.func (PySem.W.fnOf "worst_rule" "Tree.worst_rule" (aV (mth (top 8) 5)) (aI (mth (top 8) 5)) (aj (mth (top 8) 5)) .none kV7 dc7 pm7 an7 cd7 ct7),sl7⟩) (c7:PySem.W.codeIn K cd7 "Tree.worst_rule" = true) (k7:PySem.W.keepIn K (.ref f7)=true) (i7:PySem.W.isFn K (.ref f7)=true)
  (a8:PySem.W.findIn K (.ref C_Tree) "wrong_rule" = some (some (.ref f8))) (l8:K.lookup f8=some ⟨oc8,od8,.func (PySem.W.fnOf "wrong_rule" "Tree.wrong_rule" (aV (mth (top 8) 4)) (aI (mth (top 8) 4)) (aj (mth (top 8) 4)) .none kV8 dc8 pm8 an8 cd8 ct8),sl8⟩) (c8:PySem.W.codeIn K cd8 "Tree.wrong_rule" = true) (k8:PySem.W.keepIn K (.ref f8)=true) (i8:PySem.W.isFn K (.ref f8)=true)
  (a9:PySem.W.findIn K (.ref C_Tree) "meeting" = some (some (.ref f9))) (l9:K.lookup f9=some ⟨oc9,od9,.func (PySem.W.fnOf "meeting" "Tree.meeting" (aV (mth (top 8) 9)) (aI (mth (top 8) 9)) (aj (mth (top 8) 9)) .none kV9 dc9 pm9 an9 cd9 ct9),sl9⟩) (c9:PySem.W.codeIn K cd9 "Tree.meeting" = true) (k9:PySem.W.keepIn K (.ref f9)=true) (i9:PySem.W.isFn K (.ref f9)=true)
  (a10:PySem.W.findIn K (.ref C_Tree) "way" = some (some (.ref f10))) (l10:K.lookup f10=some ⟨oc10,od10,.func (PySem.W.fnOf "way" "Tree.way" (aV (mth (top 8) 10)) (aI (mth (top 8) 10)) (aj (mth (top 8) 10)) .none kV10 dc10 pm10 an10 cd10 ct10),sl10⟩) (c10:PySem.W.codeIn K cd10 "Tree.way" = true) (k10:PySem.W.keepIn K (.ref f10)=true) (i10:PySem.W.isFn K (.ref f10)=true)
  (a11:PySem.W.findIn K (.ref C_Tree) "step_down" = some (some (.ref f11))) (l11:K.lookup f11=some ⟨oc11,od11,.func (PySem.W.fnOf "step_down" "Tree.step_down" (aV (mth (top 8) 11)) (aI (mth (top 8) 11)) (aj (mth (top 8) 11)) .none kV11 dc11 pm11 an11 cd11 ct11),sl11⟩) (c11:PySem.W.codeIn K cd11 "Tree.step_down" = true) (k11:PySem.W.keepIn K (.ref f11)=true) (i11:PySem.W.isFn K (.ref f11)=true)
  (a12:PySem.W.findIn K (.ref C_Tree) "step_up" = some (some (.ref f12))) (l12:K.lookup f12=some ⟨oc12,od12,.func (PySem.W.fnOf "step_up" "Tree.step_up" (aV (mth (top 8) 12)) (aI (mth (top 8) 12)) (aj (mth (top 8) 12)) .none kV12 dc12 pm12 an12 cd12 ct12),sl12⟩) (c12:PySem.W.codeIn K cd12 "Tree.step_up" = true) (k12:PySem.W.keepIn K (.ref f12)=true) (i12:PySem.W.isFn K (.ref f12)=true)
  (a13:PySem.W.findIn K (.ref C_Tree) "room" = some (some (.ref f13))) (l13:K.lookup f13=some ⟨oc13,od13,.func (PySem.W.fnOf "room" "Tree.room" (aV (mth (top 8) 13)) (aI (mth (top 8) 13)) (aj (mth (top 8) 13)) .none kV13 dc13 pm13 an13 cd13 ct13),sl13⟩) (c13:PySem.W.codeIn K cd13 "Tree.room" = true) (k13:PySem.W.keepIn K (.ref f13)=true) (i13:PySem.W.isFn K (.ref f13)=true)
  (a15:PySem.W.findIn K (.ref C_Tree) "shift" = some (some (.ref f15))) (l15:K.lookup f15=some ⟨oc15,od15,.func (PySem.W.fnOf "shift" "Tree.shift" (aV (mth (top 8) 15)) (aI (mth (top 8) 15)) (aj (mth (top 8) 15)) .none kV15 dc15 pm15 an15 cd15 ct15),sl15⟩) (c15:PySem.W.codeIn K cd15 "Tree.shift" = true) (k15:PySem.W.keepIn K (.ref f15)=true) (i15:PySem.W.isFn K (.ref f15)=true)
  (a16:PySem.W.findIn K (.ref C_Tree) "hang" = some (some (.ref f16))) (l16:K.lookup f16=some ⟨oc16,od16,.func (PySem.W.fnOf "hang" "Tree.hang" (aV (mth (top 8) 14)) (aI (mth (top 8) 14)) (aj (mth (top 8) 14)) .none kV16 dc16 pm16 an16 cd16 ct16),sl16⟩) (c16:PySem.W.codeIn K cd16 "Tree.hang" = true) (k16:PySem.W.keepIn K (.ref f16)=true) (i16:PySem.W.isFn K (.ref f16)=true)
  (a17:PySem.W.findIn K (.ref C_Tree) "mend" = some (some (.ref f17))) (l17:K.lookup f17=some ⟨oc17,od17,.func (PySem.W.fnOf "mend" "Tree.mend" (aV (mth (top 8) 8)) (aI (mth (top 8) 8)) (aj (mth (top 8) 8)) .none kV17 dc17 pm17 an17 cd17 ct17),sl17⟩) (c17:PySem.W.codeIn K cd17 "Tree.mend" = true) (k17:PySem.W.keepIn K (.ref f17)=true) (i17:PySem.W.isFn K (.ref f17)=true)
  (a18:PySem.W.findIn K (.ref C_Tree) "settle" = some (some (.ref f18))) (l18:K.lookup f18=some ⟨oc18,od18,.func (PySem.W.fnOf "settle" "Tree.settle" (aV (mth (top 8) 3)) (aI (mth (top 8) 3)) (aj (mth (top 8) 3)) .none kV18 dc18 pm18 an18 cd18 ct18),sl18⟩) (c18:PySem.W.codeIn K cd18 "Tree.settle" = true) (k18:PySem.W.keepIn K (.ref f18)=true) (i18:PySem.W.isFn K (.ref f18)=true)
  {t_STRIDE:Tok} (n_STRIDE:PySem.W.nsIn K mainGlobals "STRIDE" = some (some (.int 50 t_STRIDE)))
  (nn_Tree:PySem.W.nsIn K mainGlobals "Tree" = some (some (.ref C_Tree)))
  (pg_Tree:PySem.W.plainGet K C_Tree Str.empty=true)
  (hd_Tree:PySem.W.hasDictIn K C_Tree=true)
  (po_Tree:PySem.W.plainOver K C_Tree=true)
  (sa_Tree:PySem.W.findIn K (.ref C_Tree) "__setattr__" = some (some (.builtin "object.__setattr__")))
  (na_Tree_many:PySem.W.findIn K (.ref C_Tree) "many" = some none)
  (na_Tree_rules:PySem.W.findIn K (.ref C_Tree) "rules" = some none)
  (na_Tree_bounds:PySem.W.findIn K (.ref C_Tree) "bounds" = some none)
  (na_Tree_flow:PySem.W.findIn K (.ref C_Tree) "flow" = some none)
  (na_Tree_times:PySem.W.findIn K (.ref C_Tree) "times" = some none)
  (na_Tree_over:PySem.W.findIn K (.ref C_Tree) "over" = some none)
  (na_Tree_under:PySem.W.findIn K (.ref C_Tree) "under" = some none)
  (na_Tree_hooks:PySem.W.findIn K (.ref C_Tree) "hooks" = some none)
  (na_Tree_depths:PySem.W.findIn K (.ref C_Tree) "depths" = some none)
  (na_Tree_begin:PySem.W.findIn K (.ref C_Tree) "begin" = some none) :
  ∃fd:FuncData,(∀(s:Shared) (v:Value),BindsTo s fd ⟨[v],[]⟩ [("_law_script",v)])/\∀base:Heap,K.In base->base.Ns mainGlobals mg->FnOk l.prog w K mg base CX0 6 fa fd ["_law_script"] (spD K 1 F_law):=by
 have cT:ClsT_Tree K C_Tree:=⟨nn_Tree,⟨pg_Tree,hd_Tree,po_Tree,sa_Tree⟩,na_Tree_many,na_Tree_rules,na_Tree_bounds,na_Tree_flow,na_Tree_times,na_Tree_over,na_Tree_under,na_Tree_hooks,na_Tree_depths,na_Tree_begin⟩
 have e:=hfa.symm.trans (PySem.W.mg_of X G a29)
 cases e
 have zz_len:=PySem.W.mg_none_of X G z_len
 have zz_sum:=PySem.W.mg_none_of X G z_sum
 have zz_list:=PySem.W.mg_none_of X G z_list
 have zz_enumerate:=PySem.W.mg_none_of X G z_enumerate
 have zz_range:=PySem.W.mg_none_of X G z_range
 have zz_abs:=PySem.W.mg_none_of X G z_abs
 have zz_min:=PySem.W.mg_none_of X G z_min
 have zz_reversed:=PySem.W.mg_none_of X G z_reversed
 have zz_isinstance:=PySem.W.mg_none_of X G z_isinstance
 have zz_int:=PySem.W.mg_none_of X G z_int
 have zz_bool:=PySem.W.mg_none_of X G z_bool
 have zz_max:=PySem.W.mg_none_of X G z_max
 have zz_tuple:=PySem.W.mg_none_of X G z_tuple
 refine⟨PySem.W.fnOf "law" "law" (aV (top 19)) (aI (top 19)) (aj (top 19)) .none kV29 dc29 pm29 an29 cd29 ct29,λs v=>.of_eq rfl,λbase _ _=>?_⟩
 have m_Tree:=PySem.W.mg_of X G n_Tree
 have m_STRIDE:=PySem.W.mg_of X G n_STRIDE
 have D0:Def l.prog w K mg base 1 "must_be_kept" 1 bh:=cI (bH l0 c0 k0) (PySem.W.mg_of X G a0)
 have D1:Def l.prog w K mg base 1 "first_flow" 1 dQ:=d_first_flow (bH l1 c1 k1) (PySem.W.mg_of X G a1)
 have DS2:SL.MkS l.prog w K mg base 2 "Tree" 3 eW:=jd (bH l2 c2 k2) m_Tree cT D0 D1 zz_len zz_sum zz_list zz_enumerate zz_range ⟨a2,i2⟩ mk2 kc2
 have D3:DefM l.prog w K mg base 1 "Tree" "timing" 1 ec:=iB (bH l3 c3 k3) m_Tree cT ⟨a3,i3⟩
 have D4:DefM l.prog w K mg base 1 "Tree" "flow_of_rules" 1 bF:=dz (bH l4 c4 k4) m_Tree cT ⟨a4,i4⟩
 have D5:DefM l.prog w K mg base 1 "Tree" "lack_of" 2 bC:=ce (bH l5 c5 k5) m_Tree cT ⟨a5,i5⟩
 have D6:DefM l.prog w K mg base 1 "Tree" "is_wrong" 3 cm:=gc (bH l6 c6 k6) m_Tree cT ⟨a6,i6⟩
 have D7:DefM l.prog w K mg base 2 "Tree" "worst_rule" 3 cv:=eN (bH l7 c7 k7) m_Tree cT D5 D6 zz_abs zz_range ⟨a7,i7⟩
 have DS8:SL.DefSM l.prog w K mg base 3 "Tree" "wrong_rule" 1 bN:=cQ (bH l8 c8 k8) m_Tree m_STRIDE cT D7 zz_min zz_range ⟨a8,i8⟩
 have D9:DefM l.prog w K mg base 1 "Tree" "meeting" 3 dG:=gY (bH l9 c9 k9) m_Tree cT ⟨a9,i9⟩
 have D10:DefM l.prog w K mg base 1 "Tree" "way" 3 fA:=d_Tree_way (bH l10 c10 k10) m_Tree cT ⟨a10,i10⟩
 have D11:DefM l.prog w K mg base 1 "Tree" "step_down" 2 b8:=fx (bH l11 c11 k11) m_Tree cT ⟨a11,i11⟩
 have D12:DefM l.prog w K mg base 1 "Tree" "step_up" 2 cM:=gX (bH l12 c12 k12) m_Tree cT ⟨a12,i12⟩
 have D13:DefM l.prog w K mg base 1 "Tree" "room" 2 b5:=eo (bH l13 c13 k13) m_Tree cT ⟨a13,i13⟩
 have D14:DefFM l.prog w K mg base 1 "Tree" "way" 3 dF:=gW (bH l10 c10 k10) m_Tree cT ⟨a10,i10⟩
 have DS15:SL.DefSM l.prog w K mg base 1 "Tree" "shift" 3 ed:=iw (bH l15 c15 k15) m_Tree cT ⟨a15,i15⟩
 have DS16:SL.DefSM l.prog w K mg base 2 "Tree" "hang" 4 cU:=ds_Tree_hang (bH l16 c16 k16) m_Tree cT D5 D14 zz_enumerate DS15 ⟨a16,i16⟩
 have DS17:SL.DefSM l.prog w K mg base 3 "Tree" "mend" 2 eV:=jc (bH l17 c17 k17) m_Tree cT D5 D9 D10 D11 D12 D13 DS16 ⟨a17,i17⟩
 have DS18:SL.DefSM l.prog w K mg base 4 "Tree" "settle" 1 dH:=gR (bH l18 c18 k18) m_Tree cT DS8 DS17 ⟨a18,i18⟩
 have D19:Def l.prog w K mg base 1 "ring_above" 3 dP:=d_ring_above (bH l19 c19 k19) (PySem.W.mg_of X G a19) zz_len zz_range zz_list zz_reversed
 have DS20:SL.DefS l.prog w K mg base 2 "raise_points" 3 bT:=fZ (bH l20 c20 k20) (PySem.W.mg_of X G a20) D0 zz_enumerate
 have D20:Def l.prog w K mg base 2 "raise_points" 3 F_raise_points:=DS20.toD
 have DS21:SL.DefS l.prog w K mg base 3 "keeping" 2 cS:=ds_keeping (bH l21 c21 k21) (PySem.W.mg_of X G a21) D19 zz_range DS20
 have D21:Def l.prog w K mg base 3 "keeping" 2 F_keeping:=DS21.toD
 have DS22:SL.DefS l.prog w K mg base 5 "least_timing" 2 cZ:=ds_least_timing (bH l22 c22 k22) (PySem.W.mg_of X G a22) D3 D4 DS21 DS2 DS18
 have D22:Def l.prog w K mg base 5 "least_timing" 2 bR:=DS22.toD
 have D23:Def l.prog w K mg base 1 "_law_cell_at" 2 bB:=cJ (bH l23 c23 k23) (PySem.W.mg_of X G a23) zz_len
 have D24:Def l.prog w K mg base 1 "_law_whole" 1 cR:=gC (bH l24 c24 k24) (PySem.W.mg_of X G a24) zz_isinstance zz_int zz_bool
 have D25:Def l.prog w K mg base 1 "_law_numbers" 2 dE:=gU (bH l25 c25 k25) (PySem.W.mg_of X G a25) zz_range
 have D26:Def l.prog w K mg base 2 "_law_wishes" 2 d6:=iA (bH l26 c26 k26) (PySem.W.mg_of X G a26) D25
 have D27:Def l.prog w K mg base 1 "_law_rules" 1 eU:=d__law_rules (bH l27 c27 k27) (PySem.W.mg_of X G a27) zz_enumerate
 have D28:Def l.prog w K mg base 1 "_law_price" 2 bY:=gE (bH l28 c28 k28) (PySem.W.mg_of X G a28) zz_max
 exact fn_law (bH l29 c29 k29) D23 D26 D27 D28 D22 D24 zz_len zz_min zz_list zz_isinstance zz_tuple zz_enumerate
end K41
def PySem.W.Fast.tw3526307584569670550:Nat:=0
def PySem.W.Fast.tw6020259719209682394:Nat:=0
def PySem.W.Fast.tw6944949882351748691:Nat:=0
def PySem.W.Fast.tw12369118524512869241:Nat:=0
def PySem.W.Fast.tw9506061393631488446:Nat:=0
def PySem.W.Fast.tw4458294864703156305:Nat:=0
def PySem.W.Fast.tw17817399090283119234:Nat:=0
def PySem.W.Fast.tw361185277200341259:Nat:=0
open PySem PySem.W PyProof.Rows
set_option maxRecDepth 100000 in
set_option maxHeartbeats 0 in
theorem PySem.Challenge.cw_cuetimer_k41_least_of_one_point_holds : PySem.Challenge.rw_cuetimer_k41_least_of_one_point.Holds := by
 w_on; o_law; k_head; (case hw => w_witness2)
 k_fill
 refine DL.walk (l := PySem.Challenge.rw_cuetimer_k41_least_of_one_point) (k := 6) (F := K41.F_law) (x := "_law_script") rfl rfl K41.law_true ⟨rfl, by decide, by decide⟩ (fun w h Y => PySem.W.kIn_of Y) ?T
 case T =>
  intro w mg fa h KX G hmg
  refine' K41.all_mk KX G hmg ?a0 ?l0 ?c0 ?k0 ?a1 ?l1 ?c1 ?k1 ?a19 ?l19 ?c19 ?k19 ?a20 ?l20 ?c20 ?k20 ?a21 ?l21 ?c21 ?k21 ?a22 ?l22 ?c22 ?k22 ?a23 ?l23 ?c23 ?k23 ?a24 ?l24 ?c24 ?k24 ?a25 ?l25 ?c25 ?k25 ?a26 ?l26 ?c26 ?k26 ?a27 ?l27 ?c27 ?k27 ?a28 ?l28 ?c28 ?k28 ?a29 ?l29 ?c29 ?k29 ?z_len ?z_sum ?z_list ?z_enumerate ?z_range ?z_abs ?z_min ?z_reversed ?z_isinstance ?z_int ?z_bool ?z_max ?z_tuple ?n_Tree ?a2 ?l2 ?c2 ?k2 ?i2 ?mk2 ?kc2 ?a3 ?l3 ?c3 ?k3 ?i3 ?a4 ?l4 ?c4 ?k4 ?i4 ?a5 ?l5 ?c5 ?k5 ?i5 ?a6 ?l6 ?c6 ?k6 ?i6 ?a7 ?l7 ?c7 ?k7 ?i7 ?a8 ?l8 ?c8 ?k8 ?i8 ?a9 ?l9 ?c9 ?k9 ?i9 ?a10 ?l10 ?c10 ?k10 ?i10 ?a11 ?l11 ?c11 ?k11 ?i11 ?a12 ?l12 ?c12 ?k12 ?i12 ?a13 ?l13 ?c13 ?k13 ?i13 ?a15 ?l15 ?c15 ?k15 ?i15 ?a16 ?l16 ?c16 ?k16 ?i16 ?a17 ?l17 ?c17 ?k17 ?i17 ?a18 ?l18 ?c18 ?k18 ?i18 ?n_STRIDE ?nn_Tree ?pg_Tree ?hd_Tree ?po_Tree ?sa_Tree ?na_Tree_many ?na_Tree_rules ?na_Tree_bounds ?na_Tree_flow ?na_Tree_times ?na_Tree_over ?na_Tree_under ?na_Tree_hooks ?na_Tree_depths ?na_Tree_begin
  (case a0 => k_is)
  (case l0 => k_is)
  (case c0 => k_is)
  (case k0 => k_is)
  (case a1 => k_is)
  (case l1 => k_is)
  (case c1 => k_is)
  (case k1 => k_is)
  (case a19 => k_is)
  (case l19 => k_is)
  (case c19 => k_is)
  (case k19 => k_is)
  (case a20 => k_is)
  (case l20 => k_is)
  (case c20 => k_is)
  (case k20 => k_is)
  (case a21 => k_is)
  (case l21 => k_is)
  (case c21 => k_is)
  (case k21 => k_is)
  (case a22 => k_is)
  (case l22 => k_is)
  (case c22 => k_is)
  (case k22 => k_is)
  (case a23 => k_is)
  (case l23 => k_is)
  (case c23 => k_is)
  (case k23 => k_is)
  (case a24 => k_is)
  (case l24 => k_is)
  (case c24 => k_is)
  (case k24 => k_is)
  (case a25 => k_is)
  (case l25 => k_is)
  (case c25 => k_is)
  (case k25 => k_is)
  (case a26 => k_is)
  (case l26 => k_is)
  (case c26 => k_is)
  (case k26 => k_is)
  (case a27 => k_is)
  (case l27 => k_is)
  (case c27 => k_is)
  (case k27 => k_is)
  (case a28 => k_is)
  (case l28 => k_is)
  (case c28 => k_is)
  (case k28 => k_is)
  (case a29 => k_is)
  (case l29 => k_is)
  (case c29 => k_is)
  (case k29 => k_is)
  (case z_len => k_is)
  (case z_sum => k_is)
  (case z_list => k_is)
  (case z_enumerate => k_is)
  (case z_range => k_is)
  (case z_abs => k_is)
  (case z_min => k_is)
  (case z_reversed => k_is)
  (case z_isinstance => k_is)
  (case z_int => k_is)
  (case z_bool => k_is)
  (case z_max => k_is)
  (case z_tuple => k_is)
  (case n_Tree => k_is)
  (case a2 => k_is)
  (case l2 => k_is)
  (case c2 => k_is)
  (case k2 => k_is)
  (case i2 => k_is)
  (case mk2 => k_is)
  (case kc2 => k_is)
  (case a3 => k_is)
  (case l3 => k_is)
  (case c3 => k_is)
  (case k3 => k_is)
  (case i3 => k_is)
  (case a4 => k_is)
  (case l4 => k_is)
  (case c4 => k_is)
  (case k4 => k_is)
  (case i4 => k_is)
  (case a5 => k_is)
  (case l5 => k_is)
  (case c5 => k_is)
  (case k5 => k_is)
  (case i5 => k_is)
  (case a6 => k_is)
  (case l6 => k_is)
  (case c6 => k_is)
  (case k6 => k_is)
  (case i6 => k_is)
  (case a7 => k_is)
  (case l7 => k_is)
  (case c7 => k_is)
  (case k7 => k_is)
  (case i7 => k_is)
  (case a8 => k_is)
  (case l8 => k_is)
  (case c8 => k_is)
  (case k8 => k_is)
  (case i8 => k_is)
  (case a9 => k_is)
  (case l9 => k_is)
  (case c9 => k_is)
  (case k9 => k_is)
  (case i9 => k_is)
  (case a10 => k_is)
  (case l10 => k_is)
  (case c10 => k_is)
  (case k10 => k_is)
  (case i10 => k_is)
  (case a11 => k_is)
  (case l11 => k_is)
  (case c11 => k_is)
  (case k11 => k_is)
  (case i11 => k_is)
  (case a12 => k_is)
  (case l12 => k_is)
  (case c12 => k_is)
  (case k12 => k_is)
  (case i12 => k_is)
  (case a13 => k_is)
  (case l13 => k_is)
  (case c13 => k_is)
  (case k13 => k_is)
  (case i13 => k_is)
  (case a15 => k_is)
  (case l15 => k_is)
  (case c15 => k_is)
  (case k15 => k_is)
  (case i15 => k_is)
  (case a16 => k_is)
  (case l16 => k_is)
  (case c16 => k_is)
  (case k16 => k_is)
  (case i16 => k_is)
  (case a17 => k_is)
  (case l17 => k_is)
  (case c17 => k_is)
  (case k17 => k_is)
  (case i17 => k_is)
  (case a18 => k_is)
  (case l18 => k_is)
  (case c18 => k_is)
  (case k18 => k_is)
  (case i18 => k_is)
  (case n_STRIDE => k_is)
  (case nn_Tree => k_is)
  (case pg_Tree => k_is)
  (case hd_Tree => k_is)
  (case po_Tree => k_is)
  (case sa_Tree => k_is)
  (case na_Tree_many => k_is)
  (case na_Tree_rules => k_is)
  (case na_Tree_bounds => k_is)
  (case na_Tree_flow => k_is)
  (case na_Tree_times => k_is)
  (case na_Tree_over => k_is)
  (case na_Tree_under => k_is)
  (case na_Tree_hooks => k_is)
  (case na_Tree_depths => k_is)
  (case na_Tree_begin => k_is)
#print axioms PySem.Challenge.cw_cuetimer_k41_least_of_one_point_holds
